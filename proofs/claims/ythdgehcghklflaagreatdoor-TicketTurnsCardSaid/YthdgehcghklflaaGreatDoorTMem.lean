import Derived.Test.YthdgehcghklflaaGreatDoorRows
import Derived.Handy
import Derived.IntWalk
import Derived.Below
import Derived.OneCell
import Derived.OwnWalk
import Derived.Lib.Hide
import Derived.Laws.OwnMore
import Derived.Laws.Rows
import Derived.Laws.LoneSync
import Derived.Deep.Draws
import Derived.Lib.ItoaNum
import Derived.Lib.AtoiAll
import Derived.Lib.Strings
import Derived.Maps.AppendAt
import Derived.Deep.RegionLawGrows
import Derived.Maps.OwnSet
import Derived.RangeFuncNested
import Derived.RangeFuncBound
import Derived.RangeFuncCalls
import Derived.RangeFuncLeaves
import Derived.Shelf.Abstract
import Derived.Shelf.RegionOpen
import Derived.WalkKit
import Derived.OwnWalkIn
import Derived.TacticsInMore
import Derived.LoopNIn
import Derived.LoopIn
import Derived.Orders
import Derived.StillTail
import Derived.BigQuiet
import Derived.Deep.WholeRow
import Derived.Laws.Tables
import Derived.Test.YthdgehcghklflaaGreatDoorProg
import Derived.ProofKit
import Derived.WalkLawsBesides
import Derived.Deep.RegionLaw
import Derived.Laws.IdiomStrings
set_option linter.unusedVariables false
open Go.Value renaming int->O,slice->L
open Go.IntKind renaming i64->Z
open Option renaming none->V,some->R
open Bool renaming false->U,true->G
open Go.RowKit.Below renaming refl->M
open Nat renaming le_refl->X
open Go renaming undef->Y
namespace Go.Proofs.YthdgehcghklflaaGreatDoor
section
open Go.ChangeShapes Go.WideShapes Go.ChangeAt Go.RowKit
theorem cg {k:IntKind}{a b:Int}(h:a=b):Ending.returned (.int k a)=.returned (.int k b):=by rw[h]
theorem bg {a b:Bool}(h:a=b):Ending.returned (.bool a)=.returned (.bool b):=by rw[h]
def Bk (w:World)(g:Nat)(t:TypeId)(cs:Array Value):Prop:=w.heap[g]?=R (.cells cs t (0,0))
section
variable {w w':World}{g:Nat}{t:TypeId}{cs:Array Value}
theorem Bk.lt (h:Bk w g t cs):g<w.heap.size:=(Array.getElem?_eq_some_iff.1 h).1
theorem Bk.cell (h:Bk w g t cs)(i:Nat):w.cell? ⟨g,i,V⟩=cs[i]?:=cell_of_row w g i cs t (0,0) h
theorem Bk.BT {w:World}{b t:Nat}{a0 a1:Value}{l:List Value}(h:Bk w b t (a0::a1::l).toArray):w.cell? ⟨b,0,V⟩=R a0/\w.cell? ⟨b,1,V⟩=R a1:=⟨h.cell 0,h.cell 1⟩
theorem Bk.iT {w:World}{b t:Nat}{a0 a1 a2:Value}{l:List Value}(h:Bk w b t (a0::a1::a2::l).toArray):w.cell? ⟨b,0,V⟩=R a0/\w.cell? ⟨b,1,V⟩=R a1/\w.cell? ⟨b,2,V⟩=R a2:=⟨h.cell 0,h.cell 1,h.cell 2⟩
theorem Bk.oQ {w:World}{b t:Nat}{a0 a1 a2 a3 a4 a5:Value}{l:List Value}(h:Bk w b t (a0::a1::a2::a3::a4::a5::l).toArray):w.cell? ⟨b,0,V⟩=R a0/\w.cell? ⟨b,1,V⟩=R a1/\w.cell? ⟨b,2,V⟩=R a2/\w.cell? ⟨b,3,V⟩=R a3/\w.cell? ⟨b,4,V⟩=R a4/\w.cell? ⟨b,5,V⟩=R a5:=⟨h.cell 0,h.cell 1,h.cell 2,h.cell 3,h.cell 4,h.cell 5⟩
theorem Bk.pM {w:World}{b t:Nat}{a0 a1 a2 a3 a4 a5 a6:Value}{l:List Value}(h:Bk w b t (a0::a1::a2::a3::a4::a5::a6::l).toArray):w.cell? ⟨b,0,V⟩=R a0/\w.cell? ⟨b,1,V⟩=R a1/\w.cell? ⟨b,2,V⟩=R a2/\w.cell? ⟨b,3,V⟩=R a3/\w.cell? ⟨b,4,V⟩=R a4/\w.cell? ⟨b,5,V⟩=R a5/\w.cell? ⟨b,6,V⟩=R a6:=⟨h.cell 0,h.cell 1,h.cell 2,h.cell 3,h.cell 4,h.cell 5,h.cell 6⟩
theorem Bk.EY {w:World}{b t:Nat}{a0 a1 a2 a3 a4 a5 a6 a7:Value}{l:List Value}(h:Bk w b t (a0::a1::a2::a3::a4::a5::a6::a7::l).toArray):w.cell? ⟨b,0,V⟩=R a0/\w.cell? ⟨b,1,V⟩=R a1/\w.cell? ⟨b,2,V⟩=R a2/\w.cell? ⟨b,3,V⟩=R a3/\w.cell? ⟨b,4,V⟩=R a4/\w.cell? ⟨b,5,V⟩=R a5/\w.cell? ⟨b,6,V⟩=R a6/\w.cell? ⟨b,7,V⟩=R a7:=⟨h.cell 0,h.cell 1,h.cell 2,h.cell 3,h.cell 4,h.cell 5,h.cell 6,h.cell 7⟩
theorem Bk.free (h:Bk w g t cs)(i:Nat):w.frozen? ⟨g,i,V⟩=U:=by unfold Bk at h;simp[World.frozen?,h]
theorem Bk.made (w:World)(t:TypeId)(cs:Array Value):Bk (w.alloc (.cells cs t)) w.heap.size t cs:=heap_alloc_new w _
theorem Bk.alloc (h:Bk w g t cs)(o:Obj):Bk (w.alloc o) g t cs:=(Below.heap_alloc w o g h.lt).trans h
theorem Bk.put (h:Bk w g t cs)(i:Nat)(u:Value):Bk (w.setCell ⟨g,i,V⟩ u) g t (cs.setIfInBounds i u):=by
 unfold Bk at h ⊢;simp[World.setCell,Array.getElem?_modify,h]
theorem Bk.off (h:Bk w g t cs){p:Addr}(hp:g≠p.block)(u:Value):Bk (w.setCell p u) g t cs:=(Below.heap_setCell w p u g hp).trans h
theorem Bk.grown {row:Option Nat}(h:Bk w g t cs)(hg:w.grownBy w' row)(hne:R g≠row):Bk w' g t cs:=(hg.block g h.lt hne).trans h
theorem Bk.drewN (h:Bk w g t cs)(n:Nat):Bk (w.drewN n) g t cs:=h
theorem Bk.au {g':Nat}{t':TypeId}{cs':Array Value}(h:Bk w g t cs)(h':Bk w g' t' cs')(hne:t≠t'):g≠g':=by
 intro e;subst e;unfold Bk at h h';rw[h] at h';injection h' with h';injection h' with _ ht;exact hne ht
end
abbrev xc (a w:World) (g:Nat):Prop:=a.grownBy w (R g)
theorem gG (w:World)(g i:Nat)(u:Value):xc w (w.setCell ⟨g,i,V⟩ u) g:=
 ⟨rfl,rfl,rfl,by simp[World.setCell],fun k _ hne=>Below.heap_setCell w _ u k (fun e=>hne (by rw[e]))⟩
theorem dK (w:World)(o:Obj)(r:Option Nat):w.grownBy (w.alloc o) r:=World.grownBy_alloc w o r
theorem fP (w:World)(r:Option Nat):w.grownBy w r:=⟨rfl,rfl,rfl,X _,fun _ _ _=>rfl⟩
theorem cr {a b c:World}{r s:Option Nat}(h:a.grownBy b r)(k:b.grownBy c s)(hs:s=r\/∀ x,s=R x->a.heap.size<=x):a.grownBy c r:=
 ⟨k.os.trans h.os,k.tape.trans h.tape,k.output.trans h.output,Nat.le_trans h.size k.size,fun i hi hne=>
  (k.block i (Nat.lt_of_lt_of_le hi h.size) (by
   rcases hs with e | e
   ·rw[e];exact hne
   ·intro e';have:=e i e'.symm;omega)).trans (h.block i hi hne)⟩
theorem aP {a b:World}(h:a.grownBy b V):Below a.heap.size a b:=⟨h.os,h.tape,h.output,h.size,fun i hi=>h.block i hi (by simp)⟩
theorem eD {a b:World}(h:Below a.heap.size a b):a.grownBy b V:=⟨h.os,h.tape,h.output,h.size,fun i hi _=>h.block i hi⟩
def aG (xs:List Int)(i:Nat):Int:=xs.getD i 0
theorem pV {xs:List Int}{i:Nat}(h:i<xs.length):aG xs i=xs[i]:=by simp[aG,h]
theorem gV {xs:List Int}{i:Nat}(h:i<xs.length):xs[i]?=R (aG xs i):=by rw[pV h];exact List.getElem?_eq_getElem h
theorem gU {xs:List Int}{i j:Nat}{v:Int}(h:i<xs.length):aG (xs.set i v) j=if i=j then v else aG xs j:=by
 unfold aG;simp only[List.getD_eq_getElem?_getD,List.getElem?_set]
 by_cases e:i=j
 ·subst e;simp[h]
 ·simp[e]
def words (xs:List Int):Array Value:=(xs.map (Value.int .u32)).toArray
def ip (xs:List Int):Prop:=∀ x∈xs,0<=x/\x<4294967296
theorem ip.at_ {xs:List Int}(h:ip xs)(i:Nat):0<=aG xs i/\aG xs i<4294967296:=by
 unfold aG
 by_cases hi:i<xs.length
 ·simp only[List.getD_eq_getElem?_getD,List.getElem?_eq_getElem hi,Option.getD_some];exact h _ (List.getElem_mem hi)
 ·simp[List.getD_eq_getElem?_getD,List.getElem?_eq_none (Nat.le_of_not_lt hi)]
theorem ip.set {xs:List Int}(h:ip xs)(i:Nat)(v:Int)(hv:0<=v/\v<4294967296):ip (xs.set i v):=by
 intro x hx
 rcases List.mem_or_eq_of_mem_set hx with hx | rfl
 ·exact h x hx
 ·exact hv
theorem ip.g8 (n:Nat):ip (List.replicate n 0):=by
 intro x hx;rw[List.eq_of_mem_replicate hx];omega
def eN (k:IntKind)(w:World)(a:Option Addr)(xs:List Int):Prop:=
 0<xs.length->∃ b off,a=R ⟨b,off,V⟩/\b<w.heap.size/\∀ i,i<xs.length->w.cell? ⟨b,off+i,V⟩=R (.int k (aG xs i))
theorem eN.at_ {k:IntKind}{w:World}{a:Option Addr}{xs:List Int}(h:eN k w a xs){i:Nat}(hi:i<xs.length){wr:World}(hb:Below w.heap.size w wr):
 ∃ b off,a=R ⟨b,off,V⟩/\wr.cell? ⟨b,off+i,V⟩=R (.int k (aG xs i)):=by
 obtain⟨b,off,e,hlt,hc⟩:=h (by omega)
 exact⟨b,off,e,(hb.cell (p:=⟨b,off+i,V⟩) hlt).trans (hc i hi)⟩
theorem zV:(Tryz.prog.info? 22).map (fun i=>(i.zero,i.size,i.bytes))=R (R (O .u32 0),1,4):=by kernel_rfl
end
section
structure aK where
 op:Int
 d:Int
 s:Int
 t:Int
 u:Int
 a:Int
 k:Int
 pl:Int
def aK.zero:aK:=⟨0,0,0,0,0,0,0,0⟩
structure aK.Wf (i:aK):Prop where
 op0:-9223372036854775808<=i.op
 op1:i.op<=9223372036854775807
 d0:-9223372036854775808<=i.d
 d1:i.d<=9223372036854775807
 s0:-9223372036854775808<=i.s
 s1:i.s<=9223372036854775807
 t0:-9223372036854775808<=i.t
 t1:i.t<=9223372036854775807
 u0:-9223372036854775808<=i.u
 u1:i.u<=9223372036854775807
 a0:-9223372036854775808<=i.a
 a1:i.a<=9223372036854775807
 k0:0<=i.k
 k1:i.k<4294967296
 to0:-9223372036854775808<=i.pl
 to1:i.pl<=9223372036854775807
def bG (op:Int):List UInt8:=
 if op=1 then [99,111,110,115,116]
 else if op=2 then [109,111,118,101]
 else if op=3 then [97,100,100,107]
 else if op=4 then [97,110,100,107]
 else if op=5 then [115,104,108]
 else if op=6 then [115,104,114]
 else if op=7 then [111,114]
 else if op=8 then [98,101,113]
 else if op=9 then [98,110,101]
 else if op=10 then [106,117,109,112]
 else if op=11 then [115,101,108,102]
 else if op=12 then [109,97,114,107]
 else if op=13 then [100,111,110,101]
 else if op=16 then [108,111,97,100]
 else if op=17 then [115,116,111,114,101]
 else if op=18 then [115,119,97,112]
 else if op=19 then [99,97,115]
 else if op=20 then [102,97,100,100]
 else if op=21 then [97,119,97,105,116]
 else if op=22 then [116,97,107,101]
 else if op=23 then [102,114,101,101]
 else []
def db (op:Int):List UInt8:=
 if op=1 then [68,75]
 else if op=2 then [68,83]
 else if op=3 then [68,83,75]
 else if op=4 then [68,83,75]
 else if op=5 then [68,83,75]
 else if op=6 then [68,83,75]
 else if op=7 then [68,83,84]
 else if op=8 then [83,84,80]
 else if op=9 then [83,84,80]
 else if op=10 then [80]
 else if op=11 then [68]
 else if op=12 then [75]
 else if op=13 then [75]
 else if op=16 then [68,65,83]
 else if op=17 then [65,83,84]
 else if op=18 then [68,65,83,84]
 else if op=19 then [68,65,83,84,85]
 else if op=20 then [68,65,83,75]
 else if op=21 then [68,65,83,75,84,80]
 else if op=22 then [68]
 else if op=23 then [83]
 else []
theorem ci (op:Int):op=1\/op=2\/op=3\/op=4\/op=5\/op=6\/op=7\/op=8\/op=9\/op=10\/op=11\/op=12\/op=13\/op=16\/op=17\/op=18\/op=19\/op=20\/op=21\/op=22\/op=23\/
 (op≠1/\op≠2/\op≠3/\op≠4/\op≠5/\op≠6/\op≠7/\op≠8/\op≠9/\op≠10/\op≠11/\op≠12/\op≠13/\op≠16/\op≠17/\op≠18/\op≠19/\op≠20/\op≠21/\op≠22/\op≠23):=by omega
def ba (i:aK)(c:Int):Int:=
 if c=68 then i.d else if c=83 then i.s else if c=84 then i.t else if c=85 then i.u else if c=65 then i.a else if c=75 then i.k else i.pl
def cF (i:aK)(c v:Int):aK:=
 if c=68 then { i with d:=v } else if c=83 then { i with s:=v } else if c=84 then { i with t:=v } else if c=85 then { i with u:=v }
 else if c=65 then { i with a:=v } else if c=75 then { i with k:=v % 4294967296 } else if c=80 then { i with pl:=v } else i
def eL (op c:Int):Int:=
 if c=65 then 0 else if c=75 then (if op=12 then 1 else 0) else if c=80 then (if op=21 then -1 else 0) else 0
def dV (op c p:Int):Int:=
 if c=65 then 8
 else if c=75 then (if op=5 then 32 else if op=6 then 32 else if op=12 then 5 else if op=13 then 4 else if op=21 then 2 else 4294967296)
 else if c=80 then (if op=21 then (if p<0 then 0 else p) else p) else 8
def nF (i:aK)(p:Int)(c:Int):Bool:=decide (eL i.op c<=ba i c) && decide (ba i c<dV i.op c p)
def oR (i:aK)(l:List UInt8):aK:=l.foldl (fun x c=>cF x c.toNat 0) { i with op:=0 }
def qJ (i:aK):Bool:=decide (i.op=0/\i.d=0/\i.s=0/\i.t=0/\i.u=0/\i.a=0/\i.k=0/\i.pl=0)
def ar (i:aK)(p:Int):Bool:=!(db i.op).isEmpty && ((db i.op).all (fun c=>nF i p c.toNat) && qJ (oR i (db i.op)))
def aW (i:aK)(c:Int):List UInt8:=
 if c=65 then 32 :: Lib.itoa i.a
 else if c=75 then (if i.op=21 then (if i.k=0 then [32,101,113] else [32,110,101]) else 32 :: Lib.itoa i.k)
 else if c=80 then (if i.op=21 then (if i.pl=-1 then [] else [32,101,108,115,101,32]++Lib.itoa i.pl) else 32 :: Lib.itoa i.pl)
 else [32,114]++Lib.itoa (ba i c)
def az (i:aK)(l:List UInt8):List UInt8:=l.flatMap fun c=>aW i c.toNat
def ah (i:aK):List UInt8:=bG i.op++az i (db i.op)
def jY (w:List UInt8):Int:=
 if w=[101,113] then 0 else if w=[110,101] then 1
 else match Lib.atoiAll (Lib.trimPrefix w [114]) with
  | .ok v=>v
  | _=>-1
def bW (ws:List (List UInt8))(n:Nat):Int:=if n<ws.length then jY (ws.getD n []) else -1
def fV (w:List UInt8):Nat->Int->Int
 | 0,_=>0
 | n+1,k=>if (db k).isEmpty=U/\bG k=w then k else fV w n (k+1)
def ng (w:List UInt8):Int:=fV w 23 1
def bX (ws:List (List UInt8)):List UInt8->Nat->aK->aK
 | [],_,i=>i
 | c :: l,n,i=>bX ws l (n+1) (cF i c.toNat (bW ws (n+1)))
def da (ws:List (List UInt8))(i:aK):aK:=if i.op=21 then { i with pl:=bW ws 7 } else i
def bV (ws:List (List UInt8)):aK:=
 da ws (bX ws (db (ng (ws.getD 0 []))) 0 { aK.zero with op:=ng (ws.getD 0 []) })
def Bv (c:Int):Prop:=c=68\/c=83\/c=84\/c=85\/c=65\/c=75\/c=80
def C5 (c:UInt8):Bool:=c==68 || c==83 || c==84 || c==85 || c==65 || c==75 || c==80
theorem dt {op:Int}(h:op≠1/\op≠2/\op≠3/\op≠4/\op≠5/\op≠6/\op≠7/\op≠8/\op≠9/\op≠10/\op≠11/\op≠12/\op≠13/\op≠16/\op≠17/\op≠18/\op≠19/\op≠20/\op≠21/\op≠22/\op≠23):db op=[]/\bG op=[]:=by
 unfold db bG;simp[h]
theorem CQ (op:Int):(db op).all C5=G:=by
 rcases ci op with rfl|rfl|rfl|rfl|rfl|rfl|rfl|rfl|rfl|rfl|rfl|rfl|rfl|rfl|rfl|rfl|rfl|rfl|rfl|rfl|rfl | hn
 all_goals first | rfl | (rw[(dt hn).1];rfl)
theorem Cz {c:UInt8}(h:C5 c=G):Bv c.toNat:=by
 unfold C5 at h
 simp at h
 unfold Bv
 rcases h with ((((((rfl|rfl) | rfl) | rfl) | rfl) | rfl) | rfl) <;> decide
theorem tR (op:Int):∀ c∈db op,Bv c.toNat:=fun c hc=>Cz (List.all_eq_true.1 (CQ op) c hc)
theorem tS (op:Int):(db op).length<=6:=by
 rcases ci op with rfl|rfl|rfl|rfl|rfl|rfl|rfl|rfl|rfl|rfl|rfl|rfl|rfl|rfl|rfl|rfl|rfl|rfl|rfl|rfl|rfl | hn
 all_goals first | decide | (rw[(dt hn).1];decide)
def df (i j:aK):Bool:=i.op==j.op && (i.d==j.d && (i.s==j.s && (i.t==j.t && (i.u==j.u && (i.a==j.a && (i.k==j.k && i.pl==j.pl))))))
theorem CP (i:aK):qJ i=df i aK.zero:=by
 rw[Bool.eq_iff_iff]
 simp[qJ,df,aK.zero]
end
section
open Go.ChangeShapes Go.WideShapes Go.ChangeAt Go.RowKit
structure af (w w':World)(S:Nat->Prop):Prop where
 os:w'.os=w.os
 tape:w'.tape=w.tape
 output:w'.output=w.output
 size:w.heap.size<=w'.heap.size
 block:∀ i,i<w.heap.size->¬ S i->w'.heap[i]?=w.heap[i]?
section
variable {w w' w'':World}{S S':Nat->Prop}
theorem af.refl (w:World)(S:Nat->Prop):af w w S:=⟨rfl,rfl,rfl,X _,fun _ _ _=>rfl⟩
theorem af.aJ (h:af w w' S)(k:af w' w'' S')(hs:∀ i,S' i->S i\/w.heap.size<=i):af w w'' S:=
 ⟨k.os.trans h.os,k.tape.trans h.tape,k.output.trans h.output,Nat.le_trans h.size k.size,fun i hi hn=>
  (k.block i (Nat.lt_of_lt_of_le hi h.size) (fun e=>by
   rcases hs i e with e | e
   ·exact hn e
   ·omega)).trans (h.block i hi hn)⟩
theorem af.wide (h:af w w' S)(hs:∀ i,S i->i<w.heap.size->S' i):af w w' S':=⟨h.os,h.tape,h.output,h.size,fun i hi hn=>h.block i hi (fun e=>hn (hs i e hi))⟩
theorem af.aO {r:Option Nat}(h:w.grownBy w' r)(hs:∀ i,r=R i->S i\/w.heap.size<=i):af w w' S:=
 ⟨h.os,h.tape,h.output,h.size,fun i hi hn=>h.block i hi (fun e=>by
  rcases hs i e.symm with e | e
  ·exact hn e
  ·omega)⟩
theorem af.jp (h:af w w' S)(n:Nat):af w (w'.drewN n) S:=⟨h.os,h.tape,h.output,h.size,h.block⟩
theorem af.alloc (h:af w w' S)(o:Obj):af w (w'.alloc o) S:=h.aJ (.aO (S:=fun _=>False) (dK _ _ V) (by simp)) (by simp)
theorem af.put (h:af w w' S)(g i:Nat)(u:Value)(hs:S g\/w.heap.size<=g):af w (w'.setCell ⟨g,i,V⟩ u) S:=
 h.aJ (.aO (S:=fun j=>j=g) (gG _ _ _ _) (by simp)) (by rintro i rfl;exact hs)
theorem af.grown (h:af w w' S)(hs:∀ i,S i->w.heap.size<=i):w.grownBy w' V:=⟨h.os,h.tape,h.output,h.size,fun i hi _=>h.block i hi (fun e=>by have:=hs i e;omega)⟩
theorem af.below (h:af w w' S)(hs:∀ i,S i->w.heap.size<=i):Below w.heap.size w w':=aP (h.grown hs)
theorem Bk.within {g:Nat}{t:TypeId}{cs:Array Value}(h:Bk w g t cs)(k:af w w' S)(hn:¬ S g):Bk w' g t cs:=(k.block g h.lt hn).trans h
end
theorem fw {w:World}{b i:Nat}{u:Value}{c j:Nat}(h:c≠b):(w.setCell ⟨b,i,V⟩ u).cell? ⟨c,j,V⟩=w.cell? ⟨c,j,V⟩:=
 World.cell?_of_block (Below.heap_setCell w ⟨b,i,V⟩ u c h)
def oP {α:Type}(z:α)(xs:List α)(i:Nat):α:=xs.getD i z
section
variable {α:Type}{z:α}
theorem qZ {xs:List α}{i j:Nat}{v:α}(h:i<xs.length):oP z (xs.set i v) j=if i=j then v else oP z xs j:=by
 unfold oP;simp only[List.getD_eq_getElem?_getD,List.getElem?_set]
 by_cases e:i=j
 ·subst e;simp[h]
 ·simp[e]
theorem ly {xs ys:List α}{i:Nat}(h:i<xs.length):oP z (xs++ys) i=oP z xs i:=by simp[oP,List.getD_eq_getElem?_getD,List.getElem?_append,h]
theorem lz {xs:List α}{v:α}:oP z (xs++[v]) xs.length=v:=by simp[oP]
def wS (C:α->Value)(xs:List α):Array Value:=(xs.map C).toArray
theorem nS (C:α->Value)(xs:List α)(i:Nat)(v:α):(wS C xs).setIfInBounds i (C v)=wS C (xs.set i v):=by
 unfold wS;rw[List.setIfInBounds_toArray,List.map_set]
end
section
variable {P:Program}{w w':World}{base:Nat}{t:TypeId}{size:Nat}{v:Value}{n:Nat}{xs:List Value}
theorem aQ (h:w.ownsRow base t size v n xs){g:Nat}(e:v.ownBlock=R g):∃ cs,Bk w g t cs:=by
 rcases h.2 with ⟨rfl,_⟩ | ⟨g',cap,cur,rfl,_,hg,_⟩
 ·cases e
 ·simp only[Value.ownBlock,Option.some.injEq] at e;subst e;exact⟨cur,hg⟩
theorem aq {S:Nat->Prop}(h:w.ownsRow base t size v n xs)(hk:af w w' S)(hn:∀ g,v.ownBlock=R g->¬ S g):w'.ownsRow base t size v n xs:=by
 rcases h.2 with ⟨rfl,h0⟩ | ⟨g,cap,cur,rfl,hb,hg,r⟩
 ·exact⟨h.1,.inl ⟨rfl,h0⟩⟩
 ·exact⟨h.1,.inr ⟨g,cap,cur,rfl,hb,(hk.block g (Array.getElem?_eq_some_iff.1 hg).1 (hn g rfl)).trans hg,r⟩⟩
theorem aX (h:w.ownsRow base t size v n xs):∃ a cap,v=L a n cap/\n<=cap/\cap<=maxLen/\(0<n->∃ g,a=R ⟨g,0,V⟩/\v.ownBlock=R g/\base<=g/\g<w.heap.size/\(∀ i,w.frozen? ⟨g,i,V⟩=U)/\∀ i,i<n*size->w.cell? ⟨g,i,V⟩=xs[i]?):=by
 rcases h.2 with ⟨rfl,h0⟩ | ⟨g,cap,cur,rfl,hb,hg,hnc,hcm,r⟩
 ·exact⟨V,0,by rw[h0],by omega,by simp,fun h=>by omega⟩
 ·exact⟨R ⟨g,0,V⟩,cap,rfl,hnc,hcm,fun _=>⟨g,rfl,rfl,hb,(Array.getElem?_eq_some_iff.1 hg).1,fun i=>Bk.free (cs:=cur) (t:=t) hg i,fun i hi=>World.ownsRow.cellAt h i hi⟩⟩
end
section
variable {P:Program}{ops:Array Oper}{rest:List Oper}{o:Oper}{a:Act}{w:World}{K:Act->World->Prop}{Q:Exit->Act->World->Prop}{E:Prop}{base:Nat}{t:TypeId}{size:Nat}{v:Value}{n:Nat}{xs:List Value}
theorem js (hgd:o.guard=V)(s x:Operand)(ts:TypeId)(ho:o.op=Op.call { callee:=Callee.builtin Builtin.append,args:=#[s,x],argTypes:=#[ts,ts] })
 (z:Value) (bytes:Nat) (ht:P.underlying ts=R (.slice t)) (hi:(P.info? t).map (fun i=>(i.zero,i.size,i.bytes))=R (R z,size,bytes)) (hz:z.cells.size=size) (hsz:0<size) (hby:bytes<=200)
 (h:w.ownsRow base t size v n xs) (hs:a.eval s=v) (news:List Value) (hnl:news.length=size) (hone:∀ u∈news,u.oneCell'=G) (B:Nat) (hx:a.eval x=L (R ⟨B,0,V⟩) 1 1)
 (hB:∀ j u,news[j]?=R u->w.cell? ((⟨B,0,V⟩:Addr).add j)=R u) (hl:n<100000) (hbase:base<=w.heap.size)
 (hK:∀ v' w',w'.ownsRow base t size v' (n+1) (xs++news)->w.grownBy w' v.ownBlock->(v'.ownBlock=v.ownBlock\/v'.ownBlock=R w.heap.size)->K (a.put o.dst v') w'):
 if Region.wanted o (yielded ops a.tmps)=G then Oper.wp P o a w K Q else E:=by
 obtain⟨i0,hi0,hz0,hz1,hz2⟩:=info_parts hi
 have hw:Region.wanted o (yielded ops a.tmps)=G:=by simp[Region.wanted,hgd]
 rw[if_pos hw]
 obtain⟨v',w',hr,h2,h3,h4,h5⟩:=run_append_own_at (P:=P) w base ts o.type t i0 z size bytes ht hi0 hz0 hz1 hz2 hz hsz v n xs h ⟨B,0,V⟩ 1 1 news (by omega) hB hone (by simp only[maxLen];omega)
  (by
   have:(n+1)*bytes<=100001*200:=Nat.mul_le_mul (by omega) hby
   omega) hbase
 unfold Oper.wp
 simp[execOp,ho,resolve,invoke,builtin,hs,hx,hr,Result.andThen]
 exact hK v' w' h2 h3 h5
theorem rY (hgd:o.guard=V)(s x:Operand)(ts:TypeId)(ho:o.op=Op.call { callee:=Callee.builtin Builtin.append,args:=#[s,x],argTypes:=#[ts,ts] })
 (z:Value) (bytes:Nat) (ht:P.underlying ts=R (.slice t)) (hi:(P.info? t).map (fun i=>(i.zero,i.size,i.bytes))=R (R z,size,bytes)) (hz:z.cells.size=size) (hsz:0<size) (hby:bytes<=200)
 (h:w.ownsRow base t size v n xs) (hs:a.eval s=v) (news:List Value) (hnl:news.length=size) (hone:∀ u∈news,u.oneCell'=G) (B:Nat) (hx:a.eval x=L (R ⟨B,0,V⟩) 1 1)
 (hB:∀ j u,news[j]?=R u->w.cell? ((⟨B,0,V⟩:Addr).add j)=R u) (hl:n<100000) (hbase:base<=w.heap.size)
 (hK:∀ v' w',w'.ownsRow base t size v' (n+1) (xs++news)->w.grownBy w' v.ownBlock->(v'.ownBlock=v.ownBlock\/v'.ownBlock=R w.heap.size)->wpList P ops Q rest (a.put o.dst v') w'):
 wpList P ops Q (o :: rest) a w:=by
 obtain⟨i0,hi0,hz0,hz1,hz2⟩:=info_parts hi
 refine wpList_append_own_at _ hgd s x ts ho base t i0 _ size bytes ht hi0 hz0 hz1 hz2 hz hsz v n xs hs h ⟨B,0,V⟩ 1 1 news hx (by omega) hB hone (by simp only[maxLen];omega)
  (by
   have:(n+1)*bytes<=100001*200:=Nat.mul_le_mul (by omega) hby
   omega) hbase fun v' w' h2 h3 _ h5=>hK v' w' h2 h3 h5
end
theorem fg {w:World}{B:Nat}{t:TypeId}{cs:Array Value}(h:Bk w B t cs):∀ (j:Nat) (u:Value),cs.toList[j]?=R u->w.cell? ((⟨B,0,V⟩:Addr).add j)=R u:=by
 intro j u hj
 have ea:(⟨B,0,V⟩:Addr).add j=⟨B,j,V⟩:=by unfold Addr.add;split <;> simp_all
 rw[ea,h.cell j]
 simpa using hj
end
section
open Go.ChangeShapes Go.WideShapes Go.ChangeAt Go.RowKit Go.Maps
theorem zn:Keyed Tryz.prog 9:=string_keyed Tryz.underlying9
theorem Eh (s:List UInt8)(hs:s.length<=1000000):keyOf Tryz.prog 9 (.string ⟨s.toArray⟩)=R (.string s):=by
 have h:(⟨s.toArray⟩:ByteArray).size<=maxLen:=by show s.toArray.size<=_;simp[maxLen];omega
 simp[keyOf,mapKey,Tryz.underlying9,h]
theorem zR (w:World):(zeroValue 3).run Tryz.prog w=.ok (O Z 0) w:=by kernel_rfl
theorem zo (s:List UInt8):WideAt.IsKeyLit (.string s):=by trivial
theorem uy {x y:List UInt8}(h:y≠x):(Lit.string y)≠.string x:=fun e=>h (by injection e)
theorem EI {x:Int}(h0:0<=x)(h1:x<1000000):(Lit.int .i64 x).wf=G:=by
 simp[Lit.wf,IntKind.min,IntKind.max,IntKind.bits,IntKind.signed];omega
def fx (ls:List (List UInt8×Int))(s:List UInt8):Bool:=ls.any fun x=>x.1==s
def dZ (ls:List (List UInt8×Int))(s:List UInt8):Int:=match ls.find? fun x=>x.1==s with
 | some x=>x.2
 | none=>0
theorem oq (ls:List (List UInt8×Int))(s t:List UInt8)(p:Int):fx (ls++[(t,p)]) s=(fx ls s || (t==s)):=by simp[fx]
theorem sW {ls:List (List UInt8×Int)}{s:List UInt8}(h:fx ls s=U):ls.find? (fun x=>x.1==s)=V:=by
 rw[List.find?_eq_none]
 intro x hx
 unfold fx at h
 rw[List.any_eq_false] at h
 exact h x hx
theorem kT {ls:List (List UInt8×Int)}{s:List UInt8}(h:fx ls s=U)(p:Int):dZ (ls++[(s,p)]) s=p:=by
 unfold dZ
 rw[List.find?_append,sW h]
 simp
theorem j4 {ls:List (List UInt8×Int)}{s t:List UInt8}(h:s≠t)(p:Int):dZ (ls++[(t,p)]) s=dZ ls s:=by
 have h2:(t==s)=U:=by simpa using fun e=>h e.symm
 unfold dZ
 rw[List.find?_append]
 simp[h2]
def gT (w:World)(b:Nat)(ls:List (List UInt8×Int)):Prop:=
 ∃ D:DataW Unit,w.ownsMap Tryz.prog 9 (plainElem Tryz.prog 3) b ls.length D/\
  ∀ s,Maps.has D (.string s)=fx ls s/\D.atKey (.string s) (.lit (.int .i64 0))=.lit (.int .i64 (dZ ls s))
section
variable {w w':World}{b:Nat}{ls:List (List UInt8×Int)}
theorem gT.lt (h:gT w b ls):b<w.heap.size:=by obtain⟨D,h,_⟩:=h;exact h.lt
theorem gT.gy {g:Nat}{t:TypeId}{cs:Array Value}(h:gT w b ls)(k:Bk w g t cs):b≠g:=by
 obtain⟨D,⟨es,clock,hb,_⟩,_⟩:=h
 intro e;subst e;unfold Bk at k;rw[hb] at k;cases k
theorem gT.same (h:gT w b ls)(k:w'.heap[b]?=w.heap[b]?):gT w' b ls:=by
 obtain⟨D,⟨es,clock,hb,r⟩,r'⟩:=h
 exact⟨D,⟨es,clock,k.trans hb,r⟩,r'⟩
theorem gT.within {S:Nat->Prop}(h:gT w b ls)(k:af w w' S)(hn:¬ S b):gT w' b ls:=h.same (k.block b h.lt hn)
theorem gT.made (w:World):gT (w.alloc (.map #[] 0)) w.heap.size []:=
 ⟨.map [],World.ownsMap_made w _ _ _,fun _=>⟨rfl,rfl⟩⟩
theorem gT.look (h:gT w b ls)(s:List UInt8)(hs:s.length<=1000000):(Instr.lookup 134 (.map (R b)) (.string ⟨s.toArray⟩) G).run Tryz.prog w=.ok (.tuple #[.int .i64 (dZ ls s),.bool (fx ls s)]) w:=by
 obtain⟨D,h,hk⟩:=h
 obtain⟨v,ps,hrun,hv⟩:=h.look_ok zn Tryz.underlying134 (zR w) (plainElem_int Tryz.underlying3 (by decide)) (Eh s hs)
 rw[(hk s).2] at hv
 rw[hrun,(hk s).1]
 obtain⟨c,rfl,hc,hwc⟩:=plainElem_int_inv Tryz.underlying3 hv
 simp only[Prod.mk.injEq,DataW.lit.injEq,Lit.int.injEq,true_and] at hc
 rw[hc.1]
theorem gT.add (h:gT w b ls)(hc:ls.length<1000000){s:List UInt8}{p:Int}(hs:s.length<=1000000)(h0:0<=p)(h1:p<1000000)(hk:fx ls s=U):
 ∃ w',(Instr.mapUpdate 134 (.map (R b)) (.string ⟨s.toArray⟩) (.int .i64 p)).run Tryz.prog w=.ok () w'/\gT w' b (ls++[(s,p)])/\xc w w' b:=by
 obtain⟨D,h,hh⟩:=h
 obtain⟨w',hrun,ho,hg⟩:=h.update zn Tryz.underlying134 (by unfold maxLen;omega) (Eh s hs) (plainElem_int (H:=Unit) Tryz.underlying3 (EI h0 h1))
 refine⟨w',hrun,⟨_,by simpa using ho,fun t=>?_⟩,hg⟩
 by_cases e:t=s
 ·subst e
  rw[has_put_same h.isMap (zo _),atKey_put_same h.isMap (zo _),oq,kT hk]
  simp
 ·rw[has_put_other (uy e),atKey_put_other (uy e),oq,j4 e,(hh t).1,(hh t).2]
  have:(s==t)=U:=by simpa using fun e2=>e e2.symm
  simp[this]
end
end
section
open Go.ChangeShapes Go.WideShapes Go.ChangeAt Go.RowKit
def pN (t:TypeId)(w:World)(v:Value)(us:List Value):Prop:=w.ownsRow 0 t 1 v us.length us
section
variable {t:TypeId}{w w':World}{v:Value}{us:List Value}
theorem pN.nil (t:TypeId)(w:World):pN t w (L V 0 0) []:=World.ownsRow_nil _ _ _ _
theorem pN.lt (h:pN t w v us){g:Nat}(e:v.ownBlock=R g):g<w.heap.size:=(World.ownsRow.lt h g e).2
theorem pN.bk (h:pN t w v us){g:Nat}(e:v.ownBlock=R g):∃ cs,Bk w g t cs:=by
 rcases h.2 with ⟨rfl,_⟩ | ⟨g',cap,cur,rfl,_,hg,_⟩
 ·cases e
 ·simp only[Value.ownBlock,Option.some.injEq] at e;subst e;exact⟨cur,hg⟩
theorem pN.within {S:Nat->Prop}(h:pN t w v us)(hk:af w w' S)(hn:∀ g,v.ownBlock=R g->¬ S g):pN t w' v us:=by
 rcases h.2 with ⟨rfl,h0⟩ | ⟨g,cap,cur,rfl,hb,hg,r⟩
 ·exact⟨h.1,.inl ⟨rfl,h0⟩⟩
 ·exact⟨h.1,.inr ⟨g,cap,cur,rfl,hb,(hk.block g (Array.getElem?_eq_some_iff.1 hg).1 (hn g rfl)).trans hg,r⟩⟩
theorem pN.alloc (h:pN t w v us)(o:Obj):pN t (w.alloc o) v us:=World.ownsRow.alloc h o
theorem pN.is (h:pN t w v us):∃ a cap,v=L a us.length cap/\us.length<=cap/\cap<=maxLen/\(0<us.length->∃ g,a=R ⟨g,0,V⟩/\v.ownBlock=R g/\(∀ i,w.frozen? ⟨g,i,V⟩=U)/\∀ i,w.cell? ⟨g,i,V⟩=us[i]?\/us.length<=i):=by
 rcases h.2 with ⟨rfl,h0⟩ | ⟨g,cap,cur,rfl,hb,hg,hnc,hcm,r⟩
 ·exact⟨V,0,by rw[h0],by omega,by simp,fun h=>by omega⟩
 ·refine⟨R ⟨g,0,V⟩,cap,rfl,hnc,hcm,fun _=>⟨g,rfl,rfl,fun i=>Bk.free (cs:=cur) (t:=t) hg i,fun i=>?_⟩⟩
  by_cases hi:i<us.length
  ·exact .inl (World.ownsRow.cellAt h i (by omega))
  ·exact .inr (by omega)
theorem pN.put {g cap:Nat}(h:pN t w (L (R ⟨g,0,V⟩) us.length cap) us)(i:Nat)(u:Value):pN t (w.setCell ⟨g,i,V⟩ u) (L (R ⟨g,0,V⟩) us.length cap) (us.set i u):=by
 have:=(World.ownsRow.stored h i u).1
 unfold pN;rw[List.length_set];exact this
end
section
variable {t:TypeId}{w:World}{v:Value}{us:List Value}{P:Program}{ops:Array Oper}{rest:List Oper}{o:Oper}{a:Act}{Q:Exit->Act->World->Prop}
theorem mt (hgd:o.guard=V)(s x:Operand)(ts:TypeId)(ho:o.op=.call { callee:=.builtin .append,args:=#[s,x],argTypes:=#[ts,ts] })
 (z:Value) (bytes:Nat) (ht:P.underlying ts=R (.slice t)) (hi:(P.info? t).map (fun i=>(i.zero,i.size,i.bytes))=R (R z,1,bytes)) (hz:z.cells.size=1) (hby:bytes<=24)
 (h:pN t w v us) (hs:a.eval s=v) (y:Value) (hy:y.oneCell'=G) (hx:a.eval x=L (R ⟨w.heap.size,0,V⟩) 1 1) (hl:us.length<1000000)
 (hK:∀ v' w',pN t w' v' (us++[y])->w.grownBy w' v.ownBlock->(v'.ownBlock=v.ownBlock\/v'.ownBlock=R (w.heap.size+1))->wpList P ops Q rest (a.put o.dst v') w'):
 wpList P ops Q (o :: rest) a (w.alloc (.cells #[y] t)):=by
 obtain⟨i0,hi0,hz0,hz1,hz2⟩:=info_parts hi
 refine wpList_append_own_at _ hgd s x ts ho 0 t i0 _ 1 bytes ht hi0 hz0 hz1 hz2 hz (by omega) v us.length us hs (h.alloc _) ⟨w.heap.size,0,V⟩ 1 1 [y] hx rfl (cell_one_new _ _ _) (by intro u hu;simp at hu;subst hu;exact hy) (by simp only[maxLen];omega) ?_ (Nat.zero_le _) ?_
 ·have:(us.length+1)*bytes<=1000001*24:=Nat.mul_le_mul (by omega) hby
  omega
 ·intro v' w' hown hgr _ hloc
  refine hK v' w' ?_ ?_ ?_
  ·unfold pN;simpa using hown
  ·exact cr (dK _ _ _) hgr (.inl rfl)
  ·simpa using hloc
end
def dQ (k:IntKind)(t:TypeId)(w:World)(v:Value)(xs:List Int):Prop:=w.ownsRow 0 t 1 v xs.length (xs.map (Value.int k))
section
variable {k:IntKind}{t:TypeId}{w w':World}{v:Value}{xs:List Int}
theorem dQ.nil (k:IntKind)(t:TypeId)(w:World):dQ k t w (L V 0 0) []:=World.ownsRow_nil _ _ _ _
theorem dQ.lt (h:dQ k t w v xs){g:Nat}(e:v.ownBlock=R g):g<w.heap.size:=(World.ownsRow.lt h g e).2
theorem dQ.bk (h:dQ k t w v xs){g:Nat}(e:v.ownBlock=R g):∃ cs,Bk w g t cs:=by
 rcases h.2 with ⟨rfl,_⟩ | ⟨g',cap,cur,rfl,_,hg,_⟩
 ·cases e
 ·simp only[Value.ownBlock,Option.some.injEq] at e;subst e;exact⟨cur,hg⟩
theorem dQ.kept {r:Option Nat}(h:dQ k t w v xs)(hg:w.grownBy w' r)(hne:v.ownBlock=V\/v.ownBlock≠r):dQ k t w' v xs:=World.ownsRow.kept h hg hne
theorem dQ.within {S:Nat->Prop}(h:dQ k t w v xs)(hk:af w w' S)(hn:∀ g,v.ownBlock=R g->¬ S g):dQ k t w' v xs:=by
 rcases h.2 with ⟨rfl,h0⟩ | ⟨g,cap,cur,rfl,hb,hg,r⟩
 ·exact⟨h.1,.inl ⟨rfl,h0⟩⟩
 ·exact⟨h.1,.inr ⟨g,cap,cur,rfl,hb,(hk.block g (Array.getElem?_eq_some_iff.1 hg).1 (hn g rfl)).trans hg,r⟩⟩
theorem dQ.drewN (h:dQ k t w v xs)(m:Nat):dQ k t (w.drewN m) v xs:=h
theorem dQ.alloc (h:dQ k t w v xs)(o:Obj):dQ k t (w.alloc o) v xs:=World.ownsRow.alloc h o
theorem dQ.is (h:dQ k t w v xs):∃ a cap,v=L a xs.length cap/\xs.length<=cap/\cap<=maxLen/\(0<xs.length->∃ g,a=R ⟨g,0,V⟩/\v.ownBlock=R g/\(∀ i,w.frozen? ⟨g,i,V⟩=U)/\∀ i,i<xs.length->w.cell? ⟨g,i,V⟩=R (.int k (aG xs i))):=by
 rcases h.2 with ⟨rfl,h0⟩ | ⟨g,cap,cur,rfl,hb,hg,hnc,hcm,r⟩
 ·exact⟨V,0,by rw[h0],by omega,by simp,fun h=>by omega⟩
 ·refine⟨R ⟨g,0,V⟩,cap,rfl,hnc,hcm,fun _=>⟨g,rfl,rfl,fun i=>Bk.free (cs:=cur) (t:=t) hg i,fun i hi=>?_⟩⟩
  rw[World.ownsRow.cellAt h i (by omega),List.getElem?_map,gV hi];rfl
theorem dQ.put {g cap:Nat}(h:dQ k t w (L (R ⟨g,0,V⟩) xs.length cap) xs)(i:Nat)(y:Int):dQ k t (w.setCell ⟨g,i,V⟩ (.int k y)) (L (R ⟨g,0,V⟩) xs.length cap) (xs.set i y):=by
 have:=(World.ownsRow.stored h i (.int k y)).1
 unfold dQ;rw[List.length_set,List.map_set];exact this
end
section
variable {k:IntKind}{t:TypeId}{w:World}{v:Value}{xs:List Int}{P:Program}{ops:Array Oper}{rest:List Oper}{o:Oper}{a:Act}{Q:Exit->Act->World->Prop}
theorem fh (hgd:o.guard=V)(s x:Operand)(ts:TypeId)(ho:o.op=.call { callee:=.builtin .append,args:=#[s,x],argTypes:=#[ts,ts] })
 (bytes:Nat) (ht:P.underlying ts=R (.slice t)) (hi:(P.info? t).map (fun i=>(i.zero,i.size,i.bytes))=R (R (.int k 0),1,bytes)) (hby:bytes<=8)
 (h:dQ k t w v xs) (hs:a.eval s=v) (y:Int) (hx:a.eval x=L (R ⟨w.heap.size,0,V⟩) 1 1) (hl:xs.length<1000000)
 (hK:∀ v' w',dQ k t w' v' (xs++[y])->w.grownBy w' v.ownBlock->(v'.ownBlock=v.ownBlock\/v'.ownBlock=R (w.heap.size+1))->wpList P ops Q rest (a.put o.dst v') w'):
 wpList P ops Q (o :: rest) a (w.alloc (.cells #[.int k y] t)):=by
 obtain⟨i0,hi0,hz0,hz1,hz2⟩:=info_parts hi
 refine wpList_append_own_at _ hgd s x ts ho 0 t i0 _ 1 bytes ht hi0 hz0 hz1 hz2 rfl (by omega) v xs.length (xs.map (Value.int k)) hs (h.alloc _) ⟨w.heap.size,0,V⟩ 1 1 [.int k y] hx rfl (cell_one_new _ _ _) (ints_oneCell k [y]) (by simp only[maxLen];omega) ?_ (Nat.zero_le _) ?_
 ·have:(xs.length+1)*bytes<=1000001*8:=Nat.mul_le_mul (by omega) hby
  omega
 ·intro v' w' hown hgr _ hloc
  refine hK v' w' ?_ ?_ ?_
  ·unfold dQ;simpa using hown
  ·exact cr (dK _ _ _) hgr (.inl rfl)
  ·simpa using hloc
end
def xp (T:Nat->Prop)(I:World->Prop):Prop:=∀ A B,I A->af A B T->I B
def gt (T:Nat->Prop)(W W':World):Prop:=W.heap.size<=W'.heap.size/\∀ b,T b->W'.heap[b]?=W.heap[b]?
theorem gt.refl (T:Nat->Prop)(W:World):gt T W W:=⟨X _,fun _ _=>rfl⟩
theorem gt.trans {T:Nat->Prop}{A B C:World}(h:gt T A B)(k:gt T B C):gt T A C:=⟨Nat.le_trans h.1 k.1,fun b hb=>(k.2 b hb).trans (h.2 b hb)⟩
theorem gt.less {T T':Nat->Prop}{A B:World}(h:gt T A B)(hT:∀ b,T' b->T b):gt T' A B:=⟨h.1,fun b hb=>h.2 b (hT b hb)⟩
theorem gt.kg {T S:Nat->Prop}{A B:World}(h:af A B S)(hT:∀ b,T b->b<A.heap.size/\¬ S b):gt T A B:=⟨h.size,fun b hb=>h.block b (hT b hb).1 (hT b hb).2⟩
def C9 (P:Program)(gf:FuncId)(lb:Array Value)(encs:Nat->Array Value)(N l:Nat)(W1:World)(T:Nat->Prop):Prop:=
 ∀ (J:Nat->World->Prop) (Jx:World->Prop),(∀ k,xp T (J k))->xp T Jx->
  (∀ k W,k<N->J k W->(∀ b,T b->b<W.heap.size)->YieldAt Fence.wide 0 P l (encs k) W fun e W'=>gt T W W'/\((e=.returned (.bool G)/\J (k+1) W')\/(e=.returned (.bool U)/\Jx W')))->
  J 0 W1->CallsIn Fence.wide 0 P gf (#[.func (.yield l) #[] #[]]++lb) W1 fun e W'=>(∃ v,e=.returned v)/\(J N W'\/Jx W')
def xO (T:Nat->Prop)(W:World)(I:World->Prop)(Ix:Code->World->Prop):Exit->Act->World->Prop
 | .normal,_,W'=>gt T W W'/\I W'
 | .ret,_,W'=>gt T W W'/\Ix .ret W'
 | .exit id,_,W'=>gt T W W'/\Ix (.exit id) W'
 | .goto t,_,W'=>gt T W W'/\Ix (.goto t) W'
 | .panic _,_,_=>False
 | .outgrown,_,_=>False
theorem cz (W:World)(l:Nat)(o:Obj)(T:Nat->Prop)(h:T l):af W (W.putObj l o) T:=
 ⟨rfl,rfl,rfl,by simp[World.putObj],fun i _ hn=>World.putObj_heap_other (fun e=>hn (e ▸ h))⟩
theorem lT {P:Program}{g:Operand}{ps:Array Tmp}{assign body:Code}{Q:Exit->Act->World->Prop}{a:Act}{w:World}
 {gf:Nat} {lb:Array Value} (hg:a.eval g=.func (.func gf) #[] lb) (eg:∀ args w,(callFunc gf args).run P w=.ok (.enter gf args) w)
 {encs:Nat->Array Value} {N:Nat} {T:Nat->Prop} (hps:∀ k,(encs k).size=ps.size) (hT0:¬ T w.heap.size) (hT1:¬ T (w.heap.size+1))
 (hseq:∀ W1,Below w.heap.size w W1->W1.heap.size=w.heap.size+2->C9 P gf lb encs N (w.heap.size+1) W1 T)
 (I:Nat->World->Prop) (Ix:Code->World->Prop) (hI:∀ k,xp (fun b=>b=w.heap.size\/b=w.heap.size+1\/T b) (I k)) (hIx:∀ c,xp (fun b=>b=w.heap.size\/b=w.heap.size+1\/T b) (Ix c)) (h0:I 0 w)
 (a₁:Nat->Act)
 (hassign:∀ (l k:Nat) (W:World) (K:Act->World->Prop),K (a₁ k) W->
  assign.wpIn (Fence.wide.inRound l) 0 P (Exit.then K (fun _ _ _=>False)) { tmps:=(ps.zip (encs k)).foldl (fun t (p,v)=>t.setIfInBounds p v) a.tmps,defers:=[] } W)
 (hbody:∀ (l k:Nat) (W:World),k<N->I k W->(∀ b,(b=w.heap.size\/b=w.heap.size+1\/T b)->b<W.heap.size)->body.wpIn (Fence.wide.inRound l) 0 P (xO (fun b=>b=w.heap.size\/b=w.heap.size+1\/T b) W (I (k+1)) Ix) (a₁ k) W)
 (hdone:∀ (W:World),I N W->W.heap[w.heap.size]?=R (.deferred (R []))->Q .normal { a with defers:={ target:=.collected w.heap.size,args:=#[] } :: a.defers } W)
 (hstop:∀ (c:Code) (W:World),Ix c W->W.heap[w.heap.size]?=R (.deferred (R []))->c.wpIn Fence.wide 0 P Q { a with defers:={ target:=.collected w.heap.size,args:=#[] } :: a.defers } W):
 (Code.rangeFunc g ps assign body).wpIn Fence.wide 0 P Q a w:=by
 refine wpIn_rangeFunc ?_
 intro fn hfn
 obtain⟨rec,hrec⟩:∃ rec:LoopState->Option Code->Loop,rec=fun st pe=>{ state:=st,pending:=pe,fn,tmps:=a.tmps,params:=ps,assign,body,defers:=w.heap.size }:=⟨_,rfl⟩
 obtain⟨W1,hW1⟩:∃ W1,(w.alloc (.deferred (R []))).alloc (.loop (rec .ready V))=W1:=⟨_,rfl⟩
 have hL1:W1.heap[w.heap.size+1]?=R (.loop (rec .ready V)):=by
  rw[<-hW1];have:=World.alloc_heap_new (w.alloc (.deferred (R []))) (.loop (rec .ready V));rwa [World.size_alloc] at this
 have hK1:W1.heap[w.heap.size]?=R (.deferred (R [])):=by
  rw[<-hW1];exact(Below.heap_alloc _ _ _ (by simp)).trans (World.alloc_heap_new w _)
 have hw1:af w W1 (fun _=>False):=by rw[<-hW1];exact((af.refl w _).alloc _).alloc _
 have hb1:Below w.heap.size w W1:=hw1.below (by simp)
 have hz1:W1.heap.size=w.heap.size+2:=by rw[<-hW1];simp
 have hI1:I 0 W1:=hI 0 _ _ h0 (hw1.wide (by simp))
 refine⟨w.heap.size+1,[{ target:=.collected w.heap.size,args:=#[] }],W1,{ target:=.fn (.func gf) lb,args:=#[.func (.yield (w.heap.size+1)) #[] #[]] },W1,gf,
  #[.func (.yield (w.heap.size+1)) #[] #[]]++lb,W1,?_,?_,(fun _ _=>trivial),?_,(fun h=>(by cases h)),?_⟩
 ·rw[<-hW1,hrec];exact run_enterLoop_outer _ _ _ _ _
 ·simp only[resolve,hg]
  simp[go_sem]
 ·simp[invoke,go_sem,eg]
 ·refine(hseq W1 hb1 hz1
   (fun k W=>I k W/\W.heap[w.heap.size+1]?=R (.loop (rec .ready V))/\W.heap[w.heap.size]?=R (.deferred (R [])))
   (fun W=>∃ c,Ix c W/\W.heap[w.heap.size+1]?=R (.loop (rec .done (R c)))/\W.heap[w.heap.size]?=R (.deferred (R [])))
   ?_ ?_ ?_ ⟨hI1,hL1,hK1⟩).mono ?_
  ·rintro k A B ⟨hi,hl,hk⟩ hw
   exact⟨hI k A B hi (hw.wide fun i hi _=>.inr (.inr hi)),(hw.block _ (Array.getElem?_eq_some_iff.1 hl).1 hT1).trans hl,(hw.block _ (Array.getElem?_eq_some_iff.1 hk).1 hT0).trans hk⟩
  ·rintro A B ⟨c,hi,hl,hk⟩ hw
   exact⟨c,hIx c A B hi (hw.wide fun i hi _=>.inr (.inr hi)),(hw.block _ (Array.getElem?_eq_some_iff.1 hl).1 hT1).trans hl,(hw.block _ (Array.getElem?_eq_some_iff.1 hk).1 hT0).trans hk⟩
  · -- one round
   rintro k W hk ⟨hi,hl,hd⟩ hT
   have hlt:w.heap.size+1<W.heap.size:=(Array.getElem?_eq_some_iff.1 hl).1
   have hy:=run_yield (P:=P) (args:=encs k) hl (by rw[hrec];exact hps k)
   rw[hrec] at hy
   refine⟨fn,_,assign,body,hy,roundIn_of_wpIn trivial (hassign _ k W _ ?_)⟩
   clear hy
   refine⟨_,run_beginRound hl (by rw[hrec]),?_⟩
   obtain⟨W2,hW2⟩:∃ W2,W.putObj (w.heap.size+1) (.loop { rec .ready V with state:=.busy })=W2:=⟨_,rfl⟩
   have hl2:W2.heap[w.heap.size+1]?=R (.loop { rec .ready V with state:=.busy }):=by rw[<-hW2];exact World.putObj_heap_same hlt
   have hd2:W2.heap[w.heap.size]?=R (.deferred (R [])):=by rw[<-hW2];exact(World.putObj_heap_other (by omega)).trans hd
   have hz2:W2.heap.size=W.heap.size:=by rw[<-hW2];simp[World.putObj]
   have hh2:gt T W W2:=⟨by omega,fun b hb=>by rw[<-hW2];exact World.putObj_heap_other (fun e=>hT1 (e ▸ hb))⟩
   have hi2:I k W2:=by rw[<-hW2];exact hI k _ _ hi (cz _ _ _ _ (.inr (.inl rfl)))
   rw[hW2]
   clear hW2
   refine wpIn_mono (hbody _ k W2 hk hi2 (by
    rintro b (rfl|rfl | hb)
    ·omega
    ·omega
    ·rw[hz2];exact hT b hb)) ?_
   have fin:∀ (jump:Option Code) (W3:World),gt (fun b=>b=w.heap.size\/b=w.heap.size+1\/T b) W2 W3->
    ∃ W4,(Instr.endRound (w.heap.size+1) jump).run P W3=.ok (.bool jump.isNone) W4/\af W3 W4 (fun b=>b=w.heap.size\/b=w.heap.size+1\/T b)/\gt T W3 W4/\
    W4.heap[w.heap.size+1]?=R (.loop (rec (if jump.isNone then .ready else .done) jump))/\W4.heap[w.heap.size]?=R (.deferred (R [])):=fun jump W3 hh=>by
    have hl3:=(hh.2 _ (.inr (.inl rfl))).trans hl2
    have hd3:=(hh.2 _ (.inl rfl)).trans hd2
    have:=run_endRound (P:=P) jump hl3
    rw[hrec] at this ⊢
    exact⟨_,this,cz _ _ _ _ (.inr (.inl rfl)),⟨by simp[World.putObj],fun b hb=>World.putObj_heap_other (fun e=>hT1 (e ▸ hb))⟩,
     World.putObj_heap_same (Array.getElem?_eq_some_iff.1 hl3).1,(World.putObj_heap_other (by omega)).trans hd3⟩
   rintro e a3 W3 hp
   cases e with
   | normal=>
    obtain⟨hh,hi3⟩:=hp
    obtain⟨W4,hr,hw4,hh4,hl4,hd4⟩:=fin V W3 hh
    exact⟨_,_,hr,hh2.trans ((hh.less fun b hb=>.inr (.inr hb)).trans hh4),.inl ⟨rfl,hI _ _ _ hi3 hw4,hl4,hd4⟩⟩
   | ret=>
    obtain⟨hh,hi3⟩:=hp
    obtain⟨W4,hr,hw4,hh4,hl4,hd4⟩:=fin (R .ret) W3 hh
    exact⟨_,_,hr,hh2.trans ((hh.less fun b hb=>.inr (.inr hb)).trans hh4),.inr ⟨rfl,.ret,hIx _ _ _ hi3 hw4,hl4,hd4⟩⟩
   | exit id=>
    obtain⟨hh,hi3⟩:=hp
    obtain⟨W4,hr,hw4,hh4,hl4,hd4⟩:=fin (R (.exit id)) W3 hh
    exact⟨_,_,hr,hh2.trans ((hh.less fun b hb=>.inr (.inr hb)).trans hh4),.inr ⟨rfl,.exit id,hIx _ _ _ hi3 hw4,hl4,hd4⟩⟩
   | goto t=>
    obtain⟨hh,hi3⟩:=hp
    obtain⟨W4,hr,hw4,hh4,hl4,hd4⟩:=fin (R (.goto t)) W3 hh
    exact⟨_,_,hr,hh2.trans ((hh.less fun b hb=>.inr (.inr hb)).trans hh4),.inr ⟨rfl,.goto t,hIx _ _ _ hi3 hw4,hl4,hd4⟩⟩
   | panic ch=>exact hp.elim
   | outgrown=>exact hp.elim
  · -- behind the iterator
   rintro e W2 ⟨⟨v,rfl⟩,(⟨hi,hl,hd⟩ | ⟨c,hi,hl,hd⟩)⟩
   ·exact⟨V,_,by have:=run_endLoop (P:=P) hl (by rw[hrec];simp);rw[hrec] at this;exact this,hdone _ (hI _ _ _ hi (cz _ _ _ _ (.inr (.inl rfl)))) ((World.putObj_heap_other (by omega)).trans hd)⟩
   ·exact⟨R c,_,by have:=run_endLoop (P:=P) hl (by rw[hrec];simp);rw[hrec] at this;exact this,hstop c _ (hIx c _ _ hi (cz _ _ _ _ (.inr (.inl rfl)))) ((World.putObj_heap_other (by omega)).trans hd)⟩
def left (listed:Array Bool):Nat:=(listed.toList.filter fun b=>!b).length
theorem mS:∀ (l:List Bool) (i:Nat),l[i]?=R U->((l.set i G).filter fun b=>!b).length+1=(l.filter fun b=>!b).length
 | [],i,h=>by simp at h
 | b :: l,0,h=>by simp at h;subst h;simp
 | b :: l,i+1,h=>by
  have ih:=mS l i (by simpa using h)
  cases b <;> simp at ih ⊢ <;> omega
theorem km:∀ (l:List Bool) (i:Nat),(l.filter fun b=>!b).length=0->l[i]?≠R U
 | [],i,h=>by simp
 | b :: l,0,h=>by cases b <;> simp at h ⊢
 | b :: l,i+1,h=>by
  have ih:=km l i (by cases b <;> simp at h ⊢;exact h)
  simpa using ih
section
variable {P:Program}{ops:Array Oper}{Q:Exit->Act->World->Prop}
theorem gM {listed:Array Bool}{i:Nat}(h:i∈Region.ready .any ops listed):listed.toList[i]?=R U:=by
 unfold Region.ready at h
 rw[List.mem_filter] at h
 have h2:=h.2
 simp only[Bool.and_eq_true,Bool.not_eq_true'] at h2
 have h3:=h2.1
 rw[Array.getElem?_toList]
 rw[Array.getD_eq_getD_getElem?] at h3
 cases e:listed[i]? with
 | none=>rw[e] at h3;simp at h3
 | some b=>rw[e] at h3;simp at h3;rw[h3]
theorem nG (Inv:Array Bool->Act->World->Prop)
 (hstep:∀ listed a w i,Inv listed a w->i∈Region.ready .any ops listed->wpOp P ops Q i (fun a' w'=>Inv (listed.setIfInBounds i G) a' w') a w)
 (hend:∀ listed a w,Inv listed a w->Region.ready .any ops listed=[]->Q .normal a w):
 ∀ (fuel:Nat) (listed:Array Bool) (a:Act) (w:World),Inv listed a w->left listed<=fuel->wpAny P .any ops Q fuel listed a w
 | 0,listed,a,w,hi,hf=>by
  have e:Region.ready .any ops listed=[]:=by
   rw[List.eq_nil_iff_forall_not_mem]
   intro i h
   exact km listed.toList i (by unfold left at hf;omega) (gM h)
  exact⟨e,hend _ _ _ hi e⟩
 | fuel+1,listed,a,w,hi,hf=>by
  refine⟨fun e=>hend _ _ _ hi e,fun i h=>wpOp_mono (fun a' w' h2=>?_) (hstep listed a w i hi h)⟩
  refine nG Inv hstep hend fuel _ a' w' h2 ?_
  have:=mS listed.toList i (gM h)
  unfold left at hf ⊢
  rw[Array.toList_setIfInBounds]
  omega
theorem nn {id:Nat}{a:Act}{w:World}(hm:P.follows .mixedOrders=G)(Inv:Array Bool->Act->World->Prop)(h0:Inv (Array.replicate ops.size U) a w.drew)
 (hstep:∀ listed a w i,Inv listed a w->i∈Region.ready .any ops listed->wpOp P ops Q i (fun a' w'=>Inv (listed.setIfInBounds i G) a' w') a w)
 (hend:∀ listed a w,Inv listed a w->Region.ready .any ops listed=[]->Q .normal a w):(Code.region id ops G).wp P Q a w:=
 wp_region_any hm (nG Inv hstep hend _ _ _ _ h0 (by unfold left;exact Nat.le_trans (List.length_filter_le _ _) (by simp)))
end
-- what each operation jl,whatever else has been done
def zH (ops:Array Oper)(i:Nat):Option Tmp:=(ops[i]?).bind (·.dst)
def eZ (ops:Array Oper)(t:Nat):Option Nat:=(List.range ops.size).find? fun i=>zH ops i==R t
def aU (ops:Array Oper)(i:Nat):List Nat:=match ops[i]? with
 | some o=>(o.after.toList.filter fun e=>Region.binds .any e).map (·.on)
 | none=>[]
def r9:Op->Bool
 | .select ..=>U
 | _=>G
def ll (ops:Array Oper):Bool:=(List.range ops.size).all fun i=>match ops[i]? with
 | some o=>r9 o.op && ((o.looksAt ops).all fun t=>match eZ ops t with
  | some j=>(aU ops i).contains j
  | none=>G) && (match o.dst with
  | some d=>eZ ops d==R i
  | none=>G) && ((aU ops i).all fun j=>decide (j<i))
 | none=>U
def pZ (f:Nat->Option Value):List Value->Nat->List Value
 | [],_=>[]
 | x :: xs,t=>(f t).getD x :: pZ f xs (t+1)
theorem ur (f:Nat->Option Value):∀ (xs:List Value) (t k:Nat),(pZ f xs t)[k]?=(xs[k]?).map fun x=>(f (t+k)).getD x
 | [],t,k=>by simp[pZ]
 | x :: xs,t,0=>by simp[pZ]
 | x :: xs,t,k+1=>by
  have ih:=ur f xs (t+1) k
  simp[pZ,ih,Nat.add_assoc,Nat.add_comm 1 k]
def aA (ops:Array Oper)(a:Act)(d:Nat->Bool)(vs:Nat->Value):Act:=
 { a with tmps:=(pZ (fun t=>match eZ ops t with
  | some i=>if d i=G then R (vs i) else V
  | none=>V) a.tmps.toList 0).toArray }
theorem fp (ops:Array Oper)(a:Act)(d:Nat->Bool)(vs:Nat->Value)(t:Nat):(aA ops a d vs).tmps[t]?=(a.tmps[t]?).map fun x=>(match eZ ops t with
 | some i=>if d i=G then R (vs i) else V
 | none=>V).getD x:=by
 simp[aA,ur]
theorem ml (ops:Array Oper)(a:Act)(vs:Nat->Value):aA ops a (fun _=>U) vs=a:=by
 obtain⟨tmps,defers⟩:=a
 have e:(aA ops ⟨tmps,defers⟩ (fun _=>U) vs).tmps=tmps:=by
  apply Array.ext_getElem?
  intro t
  rw[fp]
  cases h:tmps[t]? with
  | none=>simp
  | some x=>cases h2:eZ ops t <;> simp
 have e2:aA ops ⟨tmps,defers⟩ (fun _=>U) vs=⟨(aA ops ⟨tmps,defers⟩ (fun _=>U) vs).tmps,defers⟩:=rfl
 rw[e2,e]
theorem oC (ops:Array Oper)(a:Act)(d:Nat->Bool)(vs:Nat->Value)(i:Nat)(o:Oper)(ho:ops[i]?=R o)(hd:∀ x,o.dst=R x->eZ ops x=R i)(hn:∀ t,eZ ops t=R i->o.dst=R t)(hdi:d i=U)(v:Value):
 (aA ops a d vs).put o.dst v=aA ops a (fun j=>if j=i then G else d j) (fun j=>if j=i then v else vs j):=by
 have key:((aA ops a d vs).put o.dst v).tmps=(aA ops a (fun j=>if j=i then G else d j) (fun j=>if j=i then v else vs j)).tmps:=by
  apply Array.ext_getElem?
  intro t
  rw[fp]
  cases hx:o.dst with
  | none=>
   show (aA ops a d vs).tmps[t]?=_
   rw[fp]
   cases h2:eZ ops t with
   | none=>rfl
   | some j=>
    have hj:j≠i:=fun e=>by have:=hn t (e ▸ h2);rw[hx] at this;cases this
    simp[hj]
  | some x=>
   show ((aA ops a d vs).tmps.setIfInBounds x v)[t]?=_
   rw[Array.getElem?_setIfInBounds]
   by_cases e:x=t
   ·subst e
    rw[if_pos rfl,hd x hx]
    have hsz:(aA ops a d vs).tmps.size=a.tmps.size:=by
     have l:∀ (f:Nat->Option Value) (xs:List Value) (t:Nat),(pZ f xs t).length=xs.length:=by
      intro f xs
      induction xs with
      | nil=>intro t;rfl
      | cons x xs ih=>intro t;simp[pZ,ih]
     simp[aA,l]
    rw[hsz]
    by_cases hlt:x<a.tmps.size
    ·simp[hlt]
    ·simp[hlt]
   ·rw[if_neg e,fp]
    cases h2:eZ ops t with
    | none=>rfl
    | some j=>
     have hj:j≠i:=fun e3=>by have:=hn t (e3 ▸ h2);rw[hx] at this;injection this with this;exact e this
     simp[hj]
 have e1:(aA ops a d vs).put o.dst v=⟨((aA ops a d vs).put o.dst v).tmps,a.defers⟩:=by cases o.dst <;> rfl
 have e2:aA ops a (fun j=>if j=i then G else d j) (fun j=>if j=i then v else vs j)=⟨(aA ops a (fun j=>if j=i then G else d j) (fun j=>if j=i then v else vs j)).tmps,a.defers⟩:=rfl
 rw[e1,e2,key]
theorem jf (ops:Array Oper)(a:Act)(d:Nat->Bool)(vs:Nat->Value)(o:Oper)(hs:r9 o.op=G)(h:∀ t∈o.looksAt ops,∀ i,eZ ops t=R i->d i=G):
 execOp (aA ops a d vs).eval o=execOp (aA ops a (fun _=>G) vs).eval o/\Region.wanted o (yielded ops (aA ops a d vs).tmps)=Region.wanted o (yielded ops (aA ops a (fun _=>G) vs).tmps):=by
 have key:∀ t∈o.looksAt ops,(aA ops a d vs).tmps[t]?=(aA ops a (fun _=>G) vs).tmps[t]?:=by
  intro t ht
  rw[fp,fp]
  cases h2:eZ ops t with
  | none=>rfl
  | some i=>simp[h t ht i h2]
 constructor
 ·refine execOp_congr o (fun cs b e=>by rw[e] at hs;cases hs) fun x hx=>?_
  cases x with
  | tmp t=>
   have:=key t (List.mem_append_left _ (List.mem_filterMap.2 ⟨.tmp t,by simpa using hx,rfl⟩))
   show (aA ops a d vs).tmps.getD t Y=(aA ops a (fun _=>G) vs).tmps.getD t Y
   rw[Array.getD_eq_getD_getElem?,Array.getD_eq_getD_getElem?,this]
  | _=>rfl
 ·unfold Region.wanted
  cases hg:o.guard with
  | none=>rfl
  | some g=>
   obtain⟨g,want⟩:=g
   simp only
   have:yielded ops (aA ops a d vs).tmps g=yielded ops (aA ops a (fun _=>G) vs).tmps g:=by
    unfold yielded
    cases hb:(ops[g]?).bind (·.dst) with
    | none=>rfl
    | some t=>
     have:=key t (by unfold Oper.looksAt;rw[hg];simp only;rw[hb];simp)
     simp only[Option.bind_some,this]
   rw[this]
def jl (P:Program)(F:Value->World->Prop)(W:World):Result Next->Prop
 | .ok (.value v) W'=>F v W'/\Below W.heap.size W W'
 | .ok .skip W'=>F Y W'/\Below W.heap.size W W'
 | .ok (.enter f args) W'=>Calls P f args W' fun e W2=>∃ v,e=.returned v/\F v W2/\Below W.heap.size W W2
 | _=>False
def cj (P:Program)(ops:Array Oper)(F:Value->World->Prop)(o:Oper)(a:Act)(W:World):Prop:=
 if Region.wanted o (yielded ops a.tmps)=G then jl P F W ((execOp a.eval o).run P W) else F Y W
theorem aa {P:Program}{ops:Array Oper}{F:Value->World->Prop}{o:Oper}{a:Act}{W:World}(hg:o.guard=V)(h:jl P F W ((execOp a.eval o).run P W)):cj P ops F o a W:=by
 unfold cj
 rw[if_pos (by simp[Region.wanted,hg])]
 exact h
def tU (P:Program)(ops:Array Oper)(F:Nat->Value->World->Prop)(lit:(Nat->Value)->Act)(w:World):List Oper->Nat->Prop
 | [],_=>True
 | o :: rest,i=>(∀ (vs:Nat->Value) W,Below w.heap.size w W->(∀ j∈aU ops i,F j (vs j) W)->cj P ops (F i) o (lit vs) W)/\tU P ops F lit w rest (i+1)
theorem oE {P:Program}{ops:Array Oper}{F:Nat->Value->World->Prop}{lit:(Nat->Value)->Act}{w:World}:∀ (l:List Oper) (n:Nat),tU P ops F lit w l n->∀ i o,l[i]?=R o->∀ (vs:Nat->Value) W,Below w.heap.size w W->(∀ j∈aU ops (n+i),F j (vs j) W)->cj P ops (F (n+i)) o (lit vs) W
 | [],n,_,i,o,h=>by simp at h
 | x :: l,n,hx,0,o,h=>by
  simp at h
  subst h
  exact hx.1
 | x :: l,n,hx,i+1,o,h=>by
  have:=oE l (n+1) hx.2 i o (by simpa using h)
  rw[show n+1+i=n+(i+1) by omega] at this
  exact this
section
variable {P:Program}{ops:Array Oper}{Q:Exit->Act->World->Prop}
theorem lU:∀ (f:Nat) (listed:Array Bool) (a:Act) (w:World),wpAny P .any ops Q f listed a w->wpAny P .any ops Q (f+1) listed a w
 | 0,listed,a,w,h=>⟨fun _=>h.2,fun i hi=>by rw[h.1] at hi;cases hi⟩
 | f+1,listed,a,w,h=>⟨h.1,fun i hi=>wpOp_mono (fun a' w' h'=>lU f _ a' w' h') (h.2 i hi)⟩
theorem kC {f:Nat}{listed:Array Bool}{a:Act}{w:World}(h:wpAny P .any ops Q f listed a w):∀ d,wpAny P .any ops Q (f+d) listed a w
 | 0=>h
 | d+1=>lU _ _ _ _ (kC h d)
end
def nC (n m:Nat):Array Bool:=(List.replicate n G++List.replicate m U).toArray
def BE (ops:Array Oper)(n:Nat):Bool:=
 decide (n<ops.size) && Region.sinkB .any ops n && Region.chainB .any ops n && Region.seqB .any ops (ops.size-n) n (nC n (ops.size-n))
theorem sR (n m:Nat):left (nC n m)=m:=by
 unfold left nC
 simp[List.filter_append]
theorem qC (ops:Array Oper)(a:Act)(d d2:Nat->Bool)(vs:Nat->Value)(o:Oper)(hs:r9 o.op=G)(h:∀ t∈o.looksAt ops,∀ i,eZ ops t=R i->d i=G/\d2 i=G):
 execOp (aA ops a d vs).eval o=execOp (aA ops a d2 vs).eval o/\Region.wanted o (yielded ops (aA ops a d vs).tmps)=Region.wanted o (yielded ops (aA ops a d2 vs).tmps):=by
 have h1:=jf ops a d vs o hs fun t ht i hi=>(h t ht i hi).1
 have h2:=jf ops a d2 vs o hs fun t ht i hi=>(h t ht i hi).2
 exact⟨h1.1.trans h2.1.symm,h1.2.trans h2.2.symm⟩
theorem dd {P:Program}{l:List Oper}{Q:Exit->Act->World->Prop}{id:Nat}{a:Act}{w:World}(n:Nat)(lit:(Nat->Value)->Act)(F:Nat->Value->World->Prop)(hm:P.follows .mixedOrders=G)(hr:ll l.toArray=G)(ht:BE l.toArray n=G)
 (hlit:∀ vs,aA l.toArray a (fun i=>decide (i<n)) vs=lit vs)
 (hst:∀ i v W W',F i v W->Below W.heap.size W W'->F i v W') (hop:tU P l.toArray F lit w (l.take n) 0)
 (hend:∀ (vs:Nat->Value) W,Below w.heap.size w W->(∀ i,i<n->F i (vs i) W)->wpList P l.toArray Q (l.drop n) (lit vs) W):(Code.region id l.toArray G).wp P Q a w:=by
 generalize hops:l.toArray=ops at *
 have hsz:ops.size=l.length:=by rw[<-hops];simp
 unfold BE at ht
 simp only[Bool.and_eq_true,decide_eq_true_eq] at ht
 obtain⟨⟨⟨hn,hsink⟩,hchain⟩,hseq⟩:=ht
 have hR:∀ i o,ops[i]?=R o->r9 o.op=G/\(∀ t∈o.looksAt ops,∀ j,eZ ops t=R j->j∈aU ops i)/\(∀ x,o.dst=R x->eZ ops x=R i)/\∀ j∈aU ops i,j<i:=by
  intro i o ho
  have hi:i<ops.size:=(Array.getElem?_eq_some_iff.1 ho).1
  unfold ll at hr
  have h:=List.all_eq_true.1 hr i (List.mem_range.2 hi)
  rw[ho] at h
  simp only[Bool.and_eq_true] at h
  refine⟨h.1.1.1,fun t ht j hj=>?_,fun x hx=>?_,fun j hj=>?_⟩
  ·have:=List.all_eq_true.1 h.1.1.2 t ht
   rw[hj] at this
   simpa using this
  ·have:=h.1.2
   rw[hx] at this
   simpa using this
  ·have:=List.all_eq_true.1 h.2 j hj
   simpa using this
 have hN:∀ t i o,ops[i]?=R o->eZ ops t=R i->o.dst=R t:=by
  intro t i o ho h
  have:=List.find?_some h
  simp only[zH,ho,Option.bind_some,beq_iff_eq] at this
  exact this
 have hop2:∀ i o,ops[i]?=R o->i<n->∀ (vs:Nat->Value) W,Below w.heap.size w W->(∀ j∈aU ops i,F j (vs j) W)->cj P ops (F i) o (lit vs) W:=by
  intro i o ho hi vs W hB hd
  have h1:(l.take n)[i]?=R o:=by
   rw[List.getElem?_take,if_pos hi]
   rw[<-hops] at ho
   simpa using ho
  have:=oE (l.take n) 0 hop i o h1 vs W hB (by rw[Nat.zero_add];exact hd)
  rw[Nat.zero_add] at this
  exact this
 have key:∀ (fuel:Nat) (listed:Array Bool) (a':Act) (W:World),HeadInv .any ops n listed->
  (∃ vs:Nat->Value,a'=aA ops a (fun i=>listed.getD i U) vs/\Below w.heap.size w W/\∀ i,listed.getD i U=G->F i (vs i) W)->
  left listed<=fuel->wpAny P .any ops Q fuel listed a' W:=by
  intro fuel
  induction fuel with
  | zero=>
   intro listed a' W hinv hI hf
   exfalso
   have h1:=hinv.tail n (X _) hn
   refine km listed.toList n (by unfold left at hf;omega) ?_
   have hlt:n<listed.size:=by rw[hinv.size];exact hn
   rw[Array.getElem?_toList,Array.getElem?_eq_getElem hlt]
   simpa [hlt] using h1
  | succ fuel ih=>
   rintro listed a' W hinv ⟨vs,rfl,hB,hF⟩ hf
   by_cases hall:∀ i,i<n->listed.getD i U=G
   · -- the tail
    have el:listed=nC n (ops.size-n):=by
     apply Array.ext
     ·rw[hinv.size];simp[nC];omega
     ·intro i h1 h2
      rw[hinv.size] at h1
      by_cases hi:i<n
      ·have:=hall i hi
       have hlt:i<listed.size:=by rw[hinv.size];exact h1
       simp only[nC,List.getElem_toArray,List.getElem_append,List.length_replicate,hi,dite_true,List.getElem_replicate]
       simpa [hlt] using this
      ·have:=hinv.tail i (by omega) h1
       have hlt:i<listed.size:=by rw[hinv.size];exact h1
       simp only[nC,List.getElem_toArray,List.getElem_append,List.length_replicate,hi,dite_false,List.getElem_replicate]
       simpa [hlt] using this
    have hd:aA ops a (fun i=>listed.getD i U) vs=lit vs:=by
     rw[<-hlit vs]
     congr 1
     funext i
     by_cases hi:i<n
     ·rw[hall i hi];simp[hi]
     ·simp only[hi,decide_false]
      by_cases h2:i<ops.size
      ·exact getD_both (hinv.tail i (by omega) h2)
      ·have:listed.size<=i:=by rw[hinv.size];omega
       simp[Array.getElem?_eq_none this]
    have hw:=hend vs W hB fun i hi=>hF i (hall i hi)
    rw[hd]
    have hlen:(l.drop n).length=ops.size-n:=by rw[List.length_drop,hsz]
    have h1:=wpAny_of_seq (P:=P) (md:=.any) (ops:=ops) (Q':=Q) (l.drop n) n listed (lit vs) W (fun j=>by rw[<-hops];simp[List.getElem?_drop]) (by rw[hlen,el];exact hseq) hw
    rw[hlen] at h1
    have hle:ops.size-n<=fuel+1:=by
     have:=sR n (ops.size-n)
     rw[el] at hf
     omega
    have h2:=kC h1 (fuel+1-(ops.size-n))
    rw[show ops.size-n+(fuel+1-(ops.size-n))=fuel+1 by omega] at h2
    exact h2
   · -- the head
    have hex:∃ i,i<n/\listed.getD i U=U/\∀ j,j<i->listed.getD j U=G:=by
     have:∀ m,m<=n->(∀ j,j<m->listed.getD j U=G)\/∃ i,i<n/\listed.getD i U=U/\∀ j,j<i->listed.getD j U=G:=by
      intro m
      induction m with
      | zero=>intro _;exact .inl fun j hj=>by omega
      | succ m ihm=>
       intro hmn
       rcases ihm (by omega) with h | h
       ·cases hl:listed.getD m U with
        | true=>
         refine .inl fun j hj=>?_
         by_cases e:j=m
         ·subst e;exact hl
         ·exact h j (by omega)
        | false=>exact .inr ⟨m,by omega,hl,h⟩
       ·exact .inr h
     rcases this n (X _) with h | h
     ·exact absurd h hall
     ·exact h
    obtain⟨i0,hi0,hu0,hbef⟩:=hex
    have hready:i0∈Region.ready .any ops listed:=by
     have hlt:i0<listed.size:=by rw[hinv.size];omega
     have ho:ops[i0]?=R ops[i0]:=Array.getElem?_eq_getElem (by omega)
     refine mem_ready.2 ⟨getD_in hlt hu0,_,ho,fun e he hb=>hbef _ ?_⟩
     refine(hR i0 _ ho).2.2.2 _ ?_
     unfold aU
     rw[ho]
     simp only[List.mem_map,List.mem_filter]
     exact⟨e,⟨by simpa using he,hb⟩,rfl⟩
    refine⟨fun e=>(by rw[e] at hready;cases hready),fun i hi=>?_⟩
    have hin:i<n:=by
     rcases Nat.lt_or_ge i n with h | h
     ·exact h
     ·exact absurd hi (tail_waits hsink hchain hn hinv (n-i0) i0 rfl hi0 (getD_in (by rw[hinv.size];omega) hu0) i h)
    obtain⟨hfr,o,ho,hdeps⟩:=mem_ready.1 hi
    obtain⟨r1,r2,r3,r4⟩:=hR i o ho
    have hdep:∀ j∈aU ops i,listed.getD j U=G:=by
     intro j hj
     unfold aU at hj
     rw[ho] at hj
     simp only[List.mem_map,List.mem_filter] at hj
     obtain⟨e,⟨he,hb⟩,rfl⟩:=hj
     exact hdeps e (by simpa using he) hb
    have hdn:∀ j∈aU ops i,j<n:=fun j hj=>by have:=r4 j hj;omega
    obtain⟨s1,s2⟩:=qC ops a (fun i=>listed.getD i U) (fun i=>decide (i<n)) vs o r1 fun t ht j hj=>⟨hdep j (r2 t ht j hj),by simpa using hdn j (r2 t ht j hj)⟩
    rw[hlit] at s1 s2
    have hl:=hop2 i o ho hin vs W hB fun j hj=>hF j (hdep j hj)
    have hif:listed.getD i U=U:=getD_both hfr
    have hlt:i<ops.size:=(Array.getElem?_eq_some_iff.1 ho).1
    have hfree:=gM hi
    have hleft:left (listed.setIfInBounds i G)<=fuel:=by
     have:=mS listed.toList i hfree
     unfold left at hf ⊢
     rw[Array.toList_setIfInBounds]
     omega
    have next:∀ v W',F i v W'->Below W.heap.size W W'->wpAny P .any ops Q fuel (listed.setIfInBounds i G) ((aA ops a (fun i=>listed.getD i U) vs).put o.dst v) W':=by
     intro v W' hf2 hb
     have eg:(fun j=>(listed.setIfInBounds i G).getD j U)=fun j=>if j=i then G else listed.getD j U:=by
      funext j
      rw[Array.getD_eq_getD_getElem?,Array.getElem?_setIfInBounds,Array.getD_eq_getD_getElem?]
      by_cases e:j=i
      ·subst e
       simp[hinv.size,hlt]
      ·rw[if_neg (fun e2=>e e2.symm),if_neg e]
     refine ih _ _ _ (hinv.set hi hin) ⟨fun j=>if j=i then v else vs j,?_,hB.trans (hb.mono hB.size),fun j hj=>?_⟩ hleft
     ·rw[eg]
      exact oC ops a _ vs i o ho r3 (fun t ht=>hN t i o ho ht) hif v
     ·have hj2:=congrFun eg j
      rw[hj2] at hj
      show F j (if j=i then v else vs j) W'
      by_cases e:j=i
      ·subst e;rw[if_pos rfl];exact hf2
      ·rw[if_neg e] at hj ⊢
       exact hst j _ _ _ (hF j hj) hb
    unfold wpOp
    rw[ho]
    simp only
    unfold cj at hl
    rw[s2]
    by_cases hw:Region.wanted o (yielded ops (lit vs).tmps)=G
    ·rw[if_pos hw] at hl ⊢
     refine .inl ?_
     unfold Oper.wp
     rw[s1]
     generalize (execOp (lit vs).eval o).run P W=r at *
     cases r with
     | ok x W'=>
      cases x <;> simp only[jl] at hl
      ·rw[Oper.upon_value];exact next _ _ hl.1 hl.2
      ·rw[Oper.upon_skip];exact next _ _ hl.1 hl.2
      ·rw[Oper.upon_enter]
       refine hl.mono ?_
       rintro e W2 ⟨v,rfl,h1,h2⟩
       exact next _ _ h1 h2
     | halt x W'=>simp only[jl] at hl
    ·rw[if_neg hw] at hl ⊢
     exact next _ _ hl (M _ _)
 refine wp_region_any hm ?_
 refine key _ _ _ _ ⟨by simp,fun j oj _ h=>(by rw[getD_replicate_false] at h;cases h),fun t _ h2=>getD_in (by simpa using h2) (getD_replicate_false _ _)⟩ ⟨fun _=>Y,?_,(M _ _).drew,fun i h=>by rw[getD_replicate_false] at h;cases h⟩ ?_
 ·have e:(fun i=>(Array.replicate ops.size U).getD i U)=fun _=>U:=by
   funext i
   exact getD_replicate_false _ _
  rw[e,ml]
 ·unfold left
  exact Nat.le_trans (List.length_filter_le _ _) (by simp)
def tF (l:List Value)(i:Nat)(v:Value)(_:World):Prop:=v=l.getD i Y
theorem em {l:List Value}:∀ i v W W',tF l i v W->Below W.heap.size W W'->tF l i v W':=fun _ _ _ _ h _=>h
def nB (ps:List (Nat×(Value->World->Prop)))(l:List Value)(i:Nat)(v:Value)(W:World):Prop:=match ps.lookup i with
 | some p=>p v W
 | none=>v=l.getD i Y
theorem ep {ps:List (Nat×(Value->World->Prop))}{l:List Value}(h:∀ x∈ps,∀ v W W',x.2 v W->Below W.heap.size W W'->x.2 v W'):∀ i v W W',nB ps l i v W->Below W.heap.size W W'->nB ps l i v W':=by
 intro i v W W' hm hb
 unfold nB at *
 cases hl:ps.lookup i with
 | none=>rw[hl] at hm;exact hm
 | some p=>
  rw[hl] at hm
  have:(i,p)∈ps:=by
   clear hm h
   induction ps with
   | nil=>cases hl
   | cons x ps ih=>
    obtain⟨k,q⟩:=x
    rw[List.lookup_cons] at hl
    by_cases e:i=k
    ·subst e;simp at hl;subst hl;exact List.mem_cons_self
    ·have e2:(i==k)=U:=by simpa using e
     rw[e2] at hl
     exact List.mem_cons_of_mem _ (ih hl)
  exact h _ this v W W' hm hb
structure gg (w:World) where
 x:World
 ok:Below w.heap.size w x
def gg.here (w:World):gg w:=⟨w,M _ _⟩
instance grwThere (w:World):Nonempty (gg w):=⟨gg.here w⟩
def gg.more {w:World}(g:gg w){y:World}(h:Below g.x.heap.size g.x y):gg w:=⟨y,g.ok.trans (h.mono g.ok.size)⟩
theorem gg.cell {w:World}(g:gg w){p:Addr}{v:Value}(h:w.cell? p=R v):g.x.cell? p=R v:=
 (g.ok.cell (World.block_lt_of_cell? w _ h)).trans h
theorem dW {w y:World}(h:Below w.drew.heap.size w.drew y):Below w.heap.size w y:=⟨h.os,h.tape,h.output,h.size,h.block⟩
theorem ao {P:Program}{id:Nat}{Q:Exit->Act->World->Prop}{a:Act}{w:World}{l:List Oper}(hm:P.follows .mixedOrders=G)(hB:Region.lexB .any l.toArray=G)
 (h:wpQuiet P l.toArray (fun y=>∃ g:gg w,y=g.x) (fun a'=>∀ y,(∃ g:gg w,y=g.x)->Q .normal a' y) l a):(Code.region id l.toArray G).wp P Q a w:=
 wp_region_quiet (C:=fun y=>∃ g:gg w,y=g.x) hm hB ⟨⟨w.drew,(M _ _).drew⟩,rfl⟩ (by simpa using h)
theorem aj {P:Program}{f:FuncId}{args:Array Value}{w:World}{g:gg w}{v:Value}
 (h:Calls P f args g.x fun e y=>e=.returned v/\Below g.x.heap.size g.x y):Calls P f args g.x fun e y=>e=.returned v/\∃ g':gg w,y=g'.x:=
 h.mono fun _ _ ⟨he,hb⟩=>⟨he,g.more hb,rfl⟩
theorem yw {P:Program}{f:FuncId}{args:Array Value}{w:World}{g:gg w}{v:Value}
 (h:Calls P f args g.x fun e y=>e=.returned v/\g.x=y):Calls P f args g.x fun e y=>e=.returned v/\∃ g':gg w,y=g'.x:=
 h.mono fun _ _ ⟨he,hb⟩=>⟨he,g,hb.symm⟩
section
variable {P:Program}{ops:Array Oper}{rest:List Oper}{o:Oper}{a:Act}{w:World}{Q:Exit->Act->World->Prop}
theorem fj (hg:o.guard=V)(t:TypeId)(parts:Array (Nat×Operand))(ho:o.op=.build t parts)(cs:Array Value)
 (hf:P.built t (parts.map fun(i,x)=>(i,a.eval x)).toList=R cs) (h:wpList P ops Q rest (a.put o.dst (.agg cs)) w):wpList P ops Q (o :: rest) a w:=
 wpList_build hg t parts ho (by rw[hf];rfl) (by rw[hf];exact h)
theorem eP (hgd:o.guard=V)(ty:TypeId)(x y:Operand)(ho:o.op=.store ty x y)(old cells:Array Value)(hx:a.eval x=.pointer (R ⟨w.heap.size,0,V⟩))(hy:a.eval y=.agg cells)
 (hi:(P.info? ty).map (·.size)=R cells.size) (hold:old.size=cells.size) (h1:cells.all (·.oneCell')=G)
 (h:wpList P ops Q rest (a.put o.dst Y) (w.alloc (.cells cells ty))):wpList P ops Q (o :: rest) a (w.alloc (.cells old ty)):=
 wpList_store_row hgd ty x y ho w.heap.size cells hx hy ty old (heap_alloc_new w _) hi hold h1 (by rw[World.setRow_alloc_new];exact h)
end
end
section
def Ez:List aK:=[⟨20,1,0,0,0,0,1,0⟩,⟨12,0,0,0,0,0,1,0⟩,⟨21,2,0,1,0,1,0,-1⟩,⟨12,0,0,0,0,0,2,0⟩,⟨13,0,0,0,0,0,1,0⟩,⟨3,1,1,0,0,0,1,0⟩,⟨17,0,0,1,0,1,0,0⟩,⟨12,0,0,0,0,0,4,0⟩,⟨13,0,0,0,0,0,2,0⟩]
theorem lL (d s t u a k pl p:Int)(hd:0<=d/\d<=7)(hs:0<=s/\s<=7)(ht:0<=t/\t<=7)(hu:0<=u/\u<=7)(ha:0<=a/\a<=7)(k0:0<=k)(k1:k<4294967296):
 ar ⟨1,d,s,t,u,a,k,pl⟩ p=(df ⟨1,d,0,0,0,0,k,0⟩ ⟨1,d,s,t,u,a,k,pl⟩):=by
 rw[Bool.eq_iff_iff]
 simp[ar,db,nF,eL,dV,ba,oR,cF,qJ,df]
 omega
theorem lK (d s t u a k pl p:Int)(hd:0<=d/\d<=7)(hs:0<=s/\s<=7)(ht:0<=t/\t<=7)(hu:0<=u/\u<=7)(ha:0<=a/\a<=7)(k0:0<=k)(k1:k<4294967296):
 ar ⟨2,d,s,t,u,a,k,pl⟩ p=(df ⟨2,d,s,0,0,0,0,0⟩ ⟨2,d,s,t,u,a,k,pl⟩):=by
 rw[Bool.eq_iff_iff]
 simp[ar,db,nF,eL,dV,ba,oR,cF,qJ,df]
 omega
theorem lJ (d s t u a k pl p:Int)(hd:0<=d/\d<=7)(hs:0<=s/\s<=7)(ht:0<=t/\t<=7)(hu:0<=u/\u<=7)(ha:0<=a/\a<=7)(k0:0<=k)(k1:k<4294967296):
 ar ⟨3,d,s,t,u,a,k,pl⟩ p=(df ⟨3,d,s,0,0,0,k,0⟩ ⟨3,d,s,t,u,a,k,pl⟩):=by
 rw[Bool.eq_iff_iff]
 simp[ar,db,nF,eL,dV,ba,oR,cF,qJ,df]
 omega
theorem lI (d s t u a k pl p:Int)(hd:0<=d/\d<=7)(hs:0<=s/\s<=7)(ht:0<=t/\t<=7)(hu:0<=u/\u<=7)(ha:0<=a/\a<=7)(k0:0<=k)(k1:k<4294967296):
 ar ⟨4,d,s,t,u,a,k,pl⟩ p=(df ⟨4,d,s,0,0,0,k,0⟩ ⟨4,d,s,t,u,a,k,pl⟩):=by
 rw[Bool.eq_iff_iff]
 simp[ar,db,nF,eL,dV,ba,oR,cF,qJ,df]
 omega
theorem jO (d s t u a k pl p:Int)(hd:0<=d/\d<=7)(hs:0<=s/\s<=7)(ht:0<=t/\t<=7)(hu:0<=u/\u<=7)(ha:0<=a/\a<=7)(k0:0<=k)(k1:k<4294967296):
 ar ⟨5,d,s,t,u,a,k,pl⟩ p=(df ⟨5,d,s,0,0,0,k,0⟩ ⟨5,d,s,t,u,a,k,pl⟩ && decide (k<=31)):=by
 rw[Bool.eq_iff_iff]
 simp[ar,db,nF,eL,dV,ba,oR,cF,qJ,df]
 omega
theorem jN (d s t u a k pl p:Int)(hd:0<=d/\d<=7)(hs:0<=s/\s<=7)(ht:0<=t/\t<=7)(hu:0<=u/\u<=7)(ha:0<=a/\a<=7)(k0:0<=k)(k1:k<4294967296):
 ar ⟨6,d,s,t,u,a,k,pl⟩ p=(df ⟨6,d,s,0,0,0,k,0⟩ ⟨6,d,s,t,u,a,k,pl⟩ && decide (k<=31)):=by
 rw[Bool.eq_iff_iff]
 simp[ar,db,nF,eL,dV,ba,oR,cF,qJ,df]
 omega
theorem lH (d s t u a k pl p:Int)(hd:0<=d/\d<=7)(hs:0<=s/\s<=7)(ht:0<=t/\t<=7)(hu:0<=u/\u<=7)(ha:0<=a/\a<=7)(k0:0<=k)(k1:k<4294967296):
 ar ⟨7,d,s,t,u,a,k,pl⟩ p=(df ⟨7,d,s,t,0,0,0,0⟩ ⟨7,d,s,t,u,a,k,pl⟩):=by
 rw[Bool.eq_iff_iff]
 simp[ar,db,nF,eL,dV,ba,oR,cF,qJ,df]
 omega
theorem lG (d s t u a k pl p:Int)(hd:0<=d/\d<=7)(hs:0<=s/\s<=7)(ht:0<=t/\t<=7)(hu:0<=u/\u<=7)(ha:0<=a/\a<=7)(k0:0<=k)(k1:k<4294967296):
 ar ⟨8,d,s,t,u,a,k,pl⟩ p=(df ⟨8,0,s,t,0,0,0,pl⟩ ⟨8,d,s,t,u,a,k,pl⟩ && (decide (0<=pl) && decide (pl<p))):=by
 rw[Bool.eq_iff_iff]
 simp[ar,db,nF,eL,dV,ba,oR,cF,qJ,df]
 omega
theorem lF (d s t u a k pl p:Int)(hd:0<=d/\d<=7)(hs:0<=s/\s<=7)(ht:0<=t/\t<=7)(hu:0<=u/\u<=7)(ha:0<=a/\a<=7)(k0:0<=k)(k1:k<4294967296):
 ar ⟨9,d,s,t,u,a,k,pl⟩ p=(df ⟨9,0,s,t,0,0,0,pl⟩ ⟨9,d,s,t,u,a,k,pl⟩ && (decide (0<=pl) && decide (pl<p))):=by
 rw[Bool.eq_iff_iff]
 simp[ar,db,nF,eL,dV,ba,oR,cF,qJ,df]
 omega
theorem jF (d s t u a k pl p:Int)(hd:0<=d/\d<=7)(hs:0<=s/\s<=7)(ht:0<=t/\t<=7)(hu:0<=u/\u<=7)(ha:0<=a/\a<=7)(k0:0<=k)(k1:k<4294967296):
 ar ⟨10,d,s,t,u,a,k,pl⟩ p=(df ⟨10,0,0,0,0,0,0,pl⟩ ⟨10,d,s,t,u,a,k,pl⟩ && (decide (0<=pl) && decide (pl<p))):=by
 rw[Bool.eq_iff_iff]
 simp[ar,db,nF,eL,dV,ba,oR,cF,qJ,df]
 omega
theorem jE (d s t u a k pl p:Int)(hd:0<=d/\d<=7)(hs:0<=s/\s<=7)(ht:0<=t/\t<=7)(hu:0<=u/\u<=7)(ha:0<=a/\a<=7)(k0:0<=k)(k1:k<4294967296):
 ar ⟨11,d,s,t,u,a,k,pl⟩ p=(df ⟨11,d,0,0,0,0,0,0⟩ ⟨11,d,s,t,u,a,k,pl⟩):=by
 rw[Bool.eq_iff_iff]
 simp[ar,db,nF,eL,dV,ba,oR,cF,qJ,df]
 omega
theorem jy (d s t u a k pl p:Int)(hd:0<=d/\d<=7)(hs:0<=s/\s<=7)(ht:0<=t/\t<=7)(hu:0<=u/\u<=7)(ha:0<=a/\a<=7)(k0:0<=k)(k1:k<4294967296):
 ar ⟨22,d,s,t,u,a,k,pl⟩ p=(df ⟨22,d,0,0,0,0,0,0⟩ ⟨22,d,s,t,u,a,k,pl⟩):=by
 rw[Bool.eq_iff_iff]
 simp[ar,db,nF,eL,dV,ba,oR,cF,qJ,df]
 omega
theorem ir (d s t u a k pl p:Int)(hd:0<=d/\d<=7)(hs:0<=s/\s<=7)(ht:0<=t/\t<=7)(hu:0<=u/\u<=7)(ha:0<=a/\a<=7)(k0:0<=k)(k1:k<4294967296):
 ar ⟨12,d,s,t,u,a,k,pl⟩ p=(df ⟨12,0,0,0,0,0,k,0⟩ ⟨12,d,s,t,u,a,k,pl⟩ && (decide (1<=k) && decide (k<=4))):=by
 rw[Bool.eq_iff_iff]
 simp[ar,db,nF,eL,dV,ba,oR,cF,qJ,df]
 omega
theorem iq (d s t u a k pl p:Int)(hd:0<=d/\d<=7)(hs:0<=s/\s<=7)(ht:0<=t/\t<=7)(hu:0<=u/\u<=7)(ha:0<=a/\a<=7)(k0:0<=k)(k1:k<4294967296):
 ar ⟨13,d,s,t,u,a,k,pl⟩ p=(df ⟨13,0,0,0,0,0,k,0⟩ ⟨13,d,s,t,u,a,k,pl⟩ && decide (k<=3)):=by
 rw[Bool.eq_iff_iff]
 simp[ar,db,nF,eL,dV,ba,oR,cF,qJ,df]
 omega
theorem jD (d s t u a k pl p:Int)(hd:0<=d/\d<=7)(hs:0<=s/\s<=7)(ht:0<=t/\t<=7)(hu:0<=u/\u<=7)(ha:0<=a/\a<=7)(k0:0<=k)(k1:k<4294967296):
 ar ⟨16,d,s,t,u,a,k,pl⟩ p=(df ⟨16,d,s,0,0,a,0,0⟩ ⟨16,d,s,t,u,a,k,pl⟩):=by
 rw[Bool.eq_iff_iff]
 simp[ar,db,nF,eL,dV,ba,oR,cF,qJ,df]
 omega
theorem jC (d s t u a k pl p:Int)(hd:0<=d/\d<=7)(hs:0<=s/\s<=7)(ht:0<=t/\t<=7)(hu:0<=u/\u<=7)(ha:0<=a/\a<=7)(k0:0<=k)(k1:k<4294967296):
 ar ⟨17,d,s,t,u,a,k,pl⟩ p=(df ⟨17,0,s,t,0,a,0,0⟩ ⟨17,d,s,t,u,a,k,pl⟩):=by
 rw[Bool.eq_iff_iff]
 simp[ar,db,nF,eL,dV,ba,oR,cF,qJ,df]
 omega
theorem jB (d s t u a k pl p:Int)(hd:0<=d/\d<=7)(hs:0<=s/\s<=7)(ht:0<=t/\t<=7)(hu:0<=u/\u<=7)(ha:0<=a/\a<=7)(k0:0<=k)(k1:k<4294967296):
 ar ⟨18,d,s,t,u,a,k,pl⟩ p=(df ⟨18,d,s,t,0,a,0,0⟩ ⟨18,d,s,t,u,a,k,pl⟩):=by
 rw[Bool.eq_iff_iff]
 simp[ar,db,nF,eL,dV,ba,oR,cF,qJ,df]
 omega
theorem jA (d s t u a k pl p:Int)(hd:0<=d/\d<=7)(hs:0<=s/\s<=7)(ht:0<=t/\t<=7)(hu:0<=u/\u<=7)(ha:0<=a/\a<=7)(k0:0<=k)(k1:k<4294967296):
 ar ⟨19,d,s,t,u,a,k,pl⟩ p=(df ⟨19,d,s,t,u,a,0,0⟩ ⟨19,d,s,t,u,a,k,pl⟩):=by
 rw[Bool.eq_iff_iff]
 simp[ar,db,nF,eL,dV,ba,oR,cF,qJ,df]
 omega
theorem jz (d s t u a k pl p:Int)(hd:0<=d/\d<=7)(hs:0<=s/\s<=7)(ht:0<=t/\t<=7)(hu:0<=u/\u<=7)(ha:0<=a/\a<=7)(k0:0<=k)(k1:k<4294967296):
 ar ⟨20,d,s,t,u,a,k,pl⟩ p=(df ⟨20,d,s,0,0,a,k,0⟩ ⟨20,d,s,t,u,a,k,pl⟩):=by
 rw[Bool.eq_iff_iff]
 simp[ar,db,nF,eL,dV,ba,oR,cF,qJ,df]
 omega
theorem gE (d s t u a k pl p:Int)(hd:0<=d/\d<=7)(hs:0<=s/\s<=7)(ht:0<=t/\t<=7)(hu:0<=u/\u<=7)(ha:0<=a/\a<=7)(k0:0<=k)(k1:k<4294967296):
 ar ⟨21,d,s,t,u,a,k,pl⟩ p=(df ⟨21,d,s,t,0,a,k,pl⟩ ⟨21,d,s,t,u,a,k,pl⟩ && (decide (k<=1) && (decide (-1<=pl) && (decide (pl=-1) || decide (pl<p))))):=by
 rw[Bool.eq_iff_iff]
 simp[ar,db,nF,eL,dV,ba,oR,cF,qJ,df]
 split <;> omega
theorem jx (d s t u a k pl p:Int)(hd:0<=d/\d<=7)(hs:0<=s/\s<=7)(ht:0<=t/\t<=7)(hu:0<=u/\u<=7)(ha:0<=a/\a<=7)(k0:0<=k)(k1:k<4294967296):
 ar ⟨23,d,s,t,u,a,k,pl⟩ p=(df ⟨23,0,s,0,0,0,0,0⟩ ⟨23,d,s,t,u,a,k,pl⟩):=by
 rw[Bool.eq_iff_iff]
 simp[ar,db,nF,eL,dV,ba,oR,cF,qJ,df]
 omega
theorem ee (i:aK)(p:Int)(h:ar i p=G):(0<=i.d/\i.d<=7)/\(0<=i.s/\i.s<=7)/\(0<=i.t/\i.t<=7)/\(0<=i.u/\i.u<=7)/\(0<=i.a/\i.a<=7):=by
 obtain⟨op,d,s,t,u,a,k,pl⟩:=i
 rcases ci op with rfl|rfl|rfl|rfl|rfl|rfl|rfl|rfl|rfl|rfl|rfl|rfl|rfl|rfl|rfl|rfl|rfl|rfl|rfl|rfl|rfl | hn
 rotate_right
 ·have:=dt hn
  unfold ar at h
  simp only[this.1] at h
  cases h
 all_goals
  simp[ar,db,nF,eL,dV,ba,oR,cF,qJ] at h
  simp only
  omega
end
section
open Go.ChangeShapes Go.WideShapes Go.ChangeAt Go.RowKit
structure En where
 kind:Int
 th:Int
 now:Int
theorem En.ext {x y:En}(h1:x.kind=y.kind)(h2:x.th=y.th)(h3:x.now=y.now):x=y:=by cases x;cases y;simp_all
structure En.Wf (x:En):Prop where
 k0:-9223372036854775808<=x.kind
 k1:x.kind<=9223372036854775807
 t0:-9223372036854775808<=x.th
 t1:x.th<=9223372036854775807
 n0:-9223372036854775808<=x.now
 n1:x.now<=9223372036854775807
def Dh (x:En):List Value:=[O Z x.kind,O Z x.th,O Z x.now]
def EH (x:En):Value:=.agg #[O Z x.kind,O Z x.th,O Z x.now]
theorem pG (x:En):(Dh x).length=3:=rfl
theorem Bg (x:En):∀ u∈Dh x,u.oneCell'=G:=by
 intro u hu
 simp only[Dh,List.mem_cons,List.not_mem_nil,or_false] at hu
 rcases hu with rfl|rfl|rfl <;> rfl
def p9 (l:List En):List Value:=l.flatMap Dh
theorem vS (l:List En)(x:En):p9 (l++[x])=p9 l++Dh x:=by simp[p9]
theorem pF:∀ {l:List En} {k j:Nat} {x:En},l[k]?=R x->j<3->(p9 l)[k*3+j]?=(Dh x)[j]?
 | [],k,j,x,h,_=>by simp at h
 | y :: l,0,j,x,h,hj=>by
  simp at h
  subst h
  simp[p9,List.getElem?_append,pG,hj]
 | y :: l,k+1,j,x,h,hj=>by
  have ih:=pF (l:=l) (k:=k) (j:=j) (x:=x) (by simpa using h) hj
  rw[<-ih]
  have e:(k+1)*3+j=3+(k*3+j):=by omega
  unfold p9
  rw[e,List.flatMap_cons,List.getElem?_append_right (by rw[pG];omega),pG]
  congr 1
  omega
def pO (w:World)(a:Option Addr)(l:List En):Prop:=
 0<l.length->∃ b off,a=R ⟨b,off,V⟩/\b<w.heap.size/\∀ k x,l[k]?=R x->∀ j,j<3->w.cell? ⟨b,off+k*3+j,V⟩=(Dh x)[j]?
section
variable {w w':World}{a:Option Addr}{l:List En}{v:Value}
theorem pO.below (h:pO w a l)(hb:Below w.heap.size w w'):pO w' a l:=by
 intro h0
 obtain⟨b,off,e,hlt,hc⟩:=h h0
 exact⟨b,off,e,Nat.lt_of_lt_of_le hlt hb.size,fun k x hk j hj=>(hb.cell (p:=⟨b,off+k*3+j,V⟩) hlt).trans (hc k x hk j hj)⟩
theorem pO.nil (w:World)(a:Option Addr):pO w a []:=fun h=>absurd h (by simp)
theorem pO.at_ (h:pO w a l){k:Nat}{x:En}(hk:l[k]?=R x):∃ b off,a=R ⟨b,off,V⟩/\b<w.heap.size/\w.cell? ⟨b,off+k*3,V⟩=R (O Z x.kind)/\w.cell? ⟨b,off+k*3+1,V⟩=R (O Z x.th)/\w.cell? ⟨b,off+k*3+2,V⟩=R (O Z x.now):=by
 have hkl:=(List.getElem?_eq_some_iff.1 hk).1
 obtain⟨b,off,e,hlt,hc⟩:=h (by omega)
 exact⟨b,off,e,hlt,hc k x hk 0 (by omega),hc k x hk 1 (by omega),hc k x hk 2 (by omega)⟩
theorem pO.all (h:pO w a l)(h0:0<l.length):∃ b off,a=R ⟨b,off,V⟩/\∀ i,i<l.length*3->w.cell? ⟨b,off+i,V⟩=(p9 l)[i]?:=by
 obtain⟨b,off,e,hlt,hc⟩:=h h0
 refine⟨b,off,e,fun i hi=>?_⟩
 have hk:i / 3<l.length:=by omega
 have hg:=List.getElem?_eq_getElem hk
 have h1:=hc _ _ hg (i % 3) (by omega)
 have e2:off+i / 3*3+i % 3=off+i:=by omega
 rw[e2] at h1
 rw[h1,<-pF hg (show i % 3<3 by omega)]
 congr 1
 omega
theorem Be {t:TypeId}{base n cap:Nat}(h:w.ownsRow base t 3 (L a n cap) n (p9 l))(hn:n=l.length):pO w a l:=by
 subst hn
 intro h0
 obtain⟨a2,cap2,e,_,_,hg⟩:=aX h
 simp only[Value.slice.injEq] at e
 obtain⟨rfl,-,rfl⟩:=e
 obtain⟨g,rfl,_,_,hlt,_,hc⟩:=hg h0
 refine⟨g,0,rfl,hlt,fun k x hk j hj=>?_⟩
 have hkl:=(List.getElem?_eq_some_iff.1 hk).1
 rw[Nat.zero_add,hc _ (by omega),pF hk hj]
end
def zK (base:Nat)(t:TypeId)(w:World)(v:Value)(l:List En):Prop:=w.ownsRow base t 3 v l.length (p9 l)
section
variable {base:Nat}{t:TypeId}{w w':World}{l:List En}{v:Value}
theorem zK.nil (base:Nat)(t:TypeId)(w:World):zK base t w (L V 0 0) []:=World.ownsRow_nil _ _ _ _
theorem zK.is (h:zK base t w v l):∃ a cap,v=L a l.length cap/\l.length<=cap/\cap<=maxLen/\pO w a l:=by
 obtain⟨a,cap,rfl,h1,h2,_⟩:=aX h
 exact⟨a,cap,rfl,h1,h2,Be h rfl⟩
theorem zK.within {S:Nat->Prop}(h:zK base t w v l)(hk:af w w' S)(hn:∀ g,v.ownBlock=R g->¬ S g):zK base t w' v l:=aq h hk hn
theorem zK.alloc (h:zK base t w v l)(o:Obj):zK base t (w.alloc o) v l:=World.ownsRow.alloc h o
theorem zK.below (h:zK base t w v l)(hb:Below w.heap.size w w'):zK base t w' v l:=
 aq h (S:=fun _=>False) ⟨hb.os,hb.tape,hb.output,hb.size,fun i hi _=>hb.block i hi⟩ (fun _ _ h=>h)
end
theorem pt {α:Type}(l:List α)(k:Nat)(h:k<l.length):l.take (k+1)=l.take k++[l[k]]:=(List.take_append_getElem h).symm
theorem ab {w w':World}(h:Below w.heap.size w w'):af w w' (fun _=>False):=⟨h.os,h.tape,h.output,h.size,fun i hi _=>h.block i hi⟩
def dv (y:World)(g:Nat)(a b c:Value):World:=((y.setCell ⟨g,0,V⟩ a).setCell ⟨g,1,V⟩ b).setCell ⟨g,2,V⟩ c
theorem dU {y:World}{g:Nat}{t:TypeId}{x0 x1 x2:Value}(h:Bk y g t #[x0,x1,x2])(a b c:Value):Bk (dv y g a b c) g t #[a,b,c]:=by
 have h8:=((h.put 0 a).put 1 b).put 2 c
 unfold dv
 simpa only[List.setIfInBounds_toArray,List.set_cons_zero,List.set_cons_succ] using h8
theorem bK {B:Nat}{w y:World}{g:Nat}(h:Below B w y)(hg:B<=g)(a b c:Value):Below B w (dv y g a b c):=((h.setCell hg _).setCell hg _).setCell hg _
def bs (l:List UInt8):Value:=.string ⟨l.toArray⟩
theorem ez (hs:List UInt8)(n:Nat)(h:n<hs.length)(w:World):(Instr.index 9 (.string ⟨hs.toArray⟩) (O Z n)).run Tryz.prog w=.ok (O .u8 ((hs.getD n 0).toNat:Int)) w:=by
 have hu:=Tryz.underlying9
 have h2:(n:Int)<(hs.length:Int):=by omega
 go_simp
 rfl
theorem cO (a b:List UInt8):(⟨a.toArray⟩:ByteArray)++⟨b.toArray⟩=⟨(a++b).toArray⟩:=by
 apply ByteArray.ext
 simp
theorem iN (a b:List UInt8)(h:a.length+b.length<1000000)(w:World):(binOp .add 9 (.string ⟨a.toArray⟩) (.string ⟨b.toArray⟩)).run Tryz.prog w=.ok (.string ⟨(a++b).toArray⟩) w:=by
 have hu:=Tryz.underlying9
 go_simp
 rw[if_neg (by omega),cO]
theorem bQ {a b:List UInt8}(h:a=b):Ending.returned (.string ⟨a.toArray⟩)=.returned (bs b):=by rw[h];rfl
theorem mT (n:Int)(h0:-9223372036854775808<=n)(h1:n<=9223372036854775807):(Lib.itoa n).length<=30:=by
 have key:∀ (m u:Nat),u<10 ^ (m+1)->(Lib.decDigits u).length<=m+1:=by
  intro m
  induction m with
  | zero=>intro u hu;rw[Lib.decDigits,dif_pos (by simpa using hu)];simp
  | succ m ih=>
   intro u hu
   rw[Lib.decDigits]
   by_cases h:u<10
   ·rw[dif_pos h];simp
   ·rw[dif_neg h]
    have h2:u / 10<10 ^ (m+1):=by
     rw[Nat.div_lt_iff_lt_mul (by decide)]
     rw[Nat.pow_succ] at hu
     exact hu
    have:=ih _ h2
    simp
    omega
 have e:(10:Nat) ^ (19+1)=100000000000000000000:=by decide
 unfold Lib.itoa
 split
 ·have:=key 19 n.natAbs (by rw[e];omega)
  simp;omega
 ·have:=key 19 n.toNat (by rw[e];omega)
  omega
theorem qP (W:World)(b:Nat)(c:UInt8)(h:W.cell? ⟨b,0,V⟩=R (O .u8 (c.toNat:Int))):
 (convert 272 9 (L (R ⟨b,0,V⟩) 1 1)).run Tryz.prog W=.ok (.string ⟨#[c]⟩) W:=
 run_convert_bytes_back W 272 9 5 ⟨b,0,V⟩ 1 [c] Tryz.underlying272 Tryz.underlying5 Tryz.underlying9 (fun j hj=>by
  simp only[List.length_cons,List.length_nil] at hj
  obtain rfl:j=0:=by omega
  have e:(⟨b,0,V⟩:Addr).add 0=⟨b,0,V⟩:=by unfold Addr.add;simp
  rw[e]
  exact h)
theorem mY (n:Nat)(h:n<5000000000000000):(Lib.decDigits n).length<=30:=by
 have:=mT n (by omega) (by omega)
 unfold Lib.itoa at this
 rw[if_neg (by omega)] at this
 simpa using this
theorem DR:∀ (n:Nat) (w:World),n<5000000000000000->Calls Tryz.prog 164 #[O Z n] w fun e w'=>e=.returned (bs (Lib.decDigits n))/\Below w.heap.size w w':=by
 intro n
 induction n using Nat.strongRecOn with
 | _ n ih=>
  intro w hn
  by_cases h:n<10
  ·have E:=Lib.hid (show Lib.decDigits n=[UInt8.ofNat (48+n)] by rw[Lib.decDigits,dif_pos h])
   clear ih
   have hi:(n:Int)<10:=by omega
   have hc:((UInt8.ofNat (48+n)).toNat:Int)=48+(n:Int):=by
    rw[UInt8.toNat_ofNat',Nat.mod_eq_of_lt (by omega)];omega
   have hcv:=qP (w.alloc (.cells #[O .u8 (48+(n:Int))] 5)) w.heap.size (UInt8.ofNat (48+n)) (by rw[hc];exact Bk.cell (Bk.made w _ _) 0)
   clear hc
   generalize UInt8.ofNat (48+n)=c at *
   go_enter Tryz.func164,Tryz.ntmps164
   go_wp2
   go_ret
   exact⟨by rw[E.out];rfl,(M _ _).alloc (X _) _⟩
  ·have E:=Lib.hid (show Lib.decDigits n=Lib.decDigits (n / 10)++[UInt8.ofNat (48+n % 10)] by rw[Lib.decDigits,dif_neg h])
   have hsz:¬ 9223372036854775807<(Lib.decDigits (n / 10)).length+1:=by have:=mY (n / 10) (by omega);omega
   have HI:=Lib.hid (fun W=>ih (n / 10) (by omega) W (by omega))
   clear ih
   have hm:n % 10<10:=by omega
   have hl:=mY (n / 10) (by omega)
   have hc:((UInt8.ofNat (48+n % 10)).toNat:Int)=48+((n % 10:Nat):Int):=by
    rw[UInt8.toNat_ofNat',Nat.mod_eq_of_lt (by omega)];omega
   have hcv:∀ W b,W.cell? ⟨b,0,V⟩=R (O .u8 (48+((n % 10:Nat):Int)))->(convert 272 9 (L (R ⟨b,0,V⟩) 1 1)).run Tryz.prog W=.ok (.string ⟨#[UInt8.ofNat (48+n % 10)]⟩) W:=fun W b h=>qP W b _ (by rw[hc];exact h)
   have hd:¬ (n:Int)<10:=by omega
   have hcat:=cO (Lib.decDigits (n / 10)) [UInt8.ofNat (48+n % 10)]
   have hq1:(n:Int) / 10=((n / 10:Nat):Int):=by omega
   have hq2:(n:Int) % 10=((n % 10:Nat):Int):=by omega
   have hq3:(n:Int).tmod 10=((n % 10:Nat):Int):=by rw[Int.tmod_eq_emod_of_nonneg (by omega)];omega
   have hw1:IntKind.i64.wrap ((n / 10:Nat):Int)=((n / 10:Nat):Int):=IntWalk.i64_in _ (by omega)
   have hw2:IntKind.i64.wrap ((n % 10:Nat):Int)=((n % 10:Nat):Int):=IntWalk.i64_in _ (by omega)
   have hw3:IntKind.i64.wrap (48+((n % 10:Nat):Int))=48+((n % 10:Nat):Int):=IntWalk.i64_in _ (by omega)
   have hw4:IntKind.u8.wrap (48+((n % 10:Nat):Int))=48+((n % 10:Nat):Int):=by simp[IntKind.wrap,IntKind.signed,IntKind.bits];omega
   clear hc
   generalize UInt8.ofNat (48+n % 10)=c at *
   generalize Lib.decDigits (n / 10)=l at *
   generalize hmm:n % 10=m at *
   generalize hqq:n / 10=q at *
   clear hmm hqq
   go_enter Tryz.func164,Tryz.ntmps164
   go_wp2
   go_region_law (first | (go_simp;go_at_call 164;refine(HI.out _).mono ?_;rintro e y ⟨rfl,hy⟩;have hcy:∀ b o,b<_->y.cell? ⟨b,o,V⟩=_:=fun b o h=>hy.cell (p:=⟨b,o,V⟩) h;unfold bs))
   all_goals
    clear hq1 hq2 hq3 hw1 hw2 hw3 hw4 hcv
    go_wp2
    go_ret
    refine⟨by rw[E.out];rfl,?_⟩
    first | exact(((M _ _).alloc (X _) _).drew).trans (hy.mono (by simp)) | exact(dW hy).alloc (dW hy).size _
theorem cw (n:Nat)(h:n<5000000000):(Lib.decDigits n).length<=30:=mY n (by omega)
theorem ug (n:Nat)(w:World)(h:n<5000000000):Calls Tryz.prog 164 #[O Z n] w fun e w'=>e=.returned (bs (Lib.decDigits n))/\Below w.heap.size w w':=DR n w (by omega)
theorem ax (n:Nat):Lib.itoa (n:Int)=Lib.decDigits n:=by
 unfold Lib.itoa
 rw[if_neg (by omega)]
 rfl
theorem iX (n:Nat)(w:World)(h:n<5000000000):Calls Tryz.prog 164 #[O Z n] w fun e w'=>e=.returned (.string ⟨(Lib.decDigits n).toArray⟩)/\Below w.heap.size w w':=ug n w h
theorem bD (a b:List UInt8)(m n:Nat)(ha:a.length<=m)(hb:b.length<=n)(hm:m<=1000:=by decide)(hn:n<=1000:=by decide):
 ∃ z,z=a++b/\(⟨a.toArray⟩:ByteArray)++⟨b.toArray⟩=⟨z.toArray⟩/\¬ 9223372036854775807<a.length+b.length/\z.length<=m+n:=
 ⟨a++b,rfl,cO a b,by omega,by simp;omega⟩
theorem mL (s:List UInt8)(f i:Nat)(h:f<=i)(hi:i<=s.length)(w:World):(Instr.slice 9 (.string ⟨s.toArray⟩) (R (O Z f)) (R (O Z i)) V).run Tryz.prog w=.ok (.string ⟨((s.take i).drop f).toArray⟩) w:=by
 have hu:=Tryz.underlying9
 go_simp
 apply ByteArray.ext
 rw[ByteArray.data_extract]
 apply Array.ext'
 simp[List.drop_take]
end
