import Derived.Test.YtieiifdhdjhnoaaGreatDoorRows
import Derived.Handy
import Derived.IntWalk
import Derived.Below
import Derived.OneCell
import Derived.OwnWalk
import Derived.Lib.Hide
import Derived.Laws.OwnMore
import Derived.Laws.Rows
import Derived.Laws.LoneSync
import Derived.Deep.Draws
import Derived.Lib.ItoaNum
import Derived.Lib.AtoiAll
import Derived.Lib.Strings
import Derived.Maps.AppendAt
import Derived.Deep.RegionLawGrows
import Derived.Maps.OwnSet
import Derived.RangeFuncNested
import Derived.RangeFuncBound
import Derived.RangeFuncCalls
import Derived.RangeFuncLeaves
import Derived.Shelf.Abstract
import Derived.Shelf.RegionOpen
import Derived.WalkKit
import Derived.OwnWalkIn
import Derived.TacticsInMore
import Derived.LoopNIn
import Derived.LoopIn
import Derived.Orders
import Derived.StillTail
import Derived.BigQuiet
import Derived.Deep.WholeRow
import Derived.Laws.Tables
import Derived.ProofKit
import Derived.OpenShut
import Derived.Deep.Fields
import Derived.Deep.Slices
import Derived.ChangeSame
set_option linter.unusedVariables false
open Option renaming none->O,some->Z
open Bool renaming false->V,true->R
open Go.Value renaming slice->U
open Go.RowKit.Below renaming refl->G
open Nat renaming le_refl->L
open Go renaming undef->M
namespace Go.Proofs.YtieiifdhdjhnoaaGreatDoor
section
open Go.ChangeShapes Go.WideShapes Go.ChangeAt Go.RowKit
theorem bu {k:IntKind}{a b:Int}(h:a=b):Ending.returned (.int k a)=.returned (.int k b):=by rw[h]
theorem br {a b:Bool}(h:a=b):Ending.returned (.bool a)=.returned (.bool b):=by rw[h]
def Bk (w:World)(g:Nat)(t:TypeId)(cs:Array Value):Prop:=w.heap[g]?=Z (.cells cs t (0,0))
section
variable {w w':World}{g:Nat}{t:TypeId}{cs:Array Value}
theorem Bk.lt (h:Bk w g t cs):g<w.heap.size:=(Array.getElem?_eq_some_iff.1 h).1
theorem Bk.cell (h:Bk w g t cs)(i:Nat):w.cell? ⟨g,i,O⟩=cs[i]?:=cell_of_row w g i cs t (0,0) h
theorem Bk.FZ {w:World}{b t:Nat}{a0 a1:Value}{l:List Value}(h:Bk w b t (a0::a1::l).toArray):w.cell? ⟨b,0,O⟩=Z a0/\w.cell? ⟨b,1,O⟩=Z a1:=⟨h.cell 0,h.cell 1⟩
theorem Bk.lz {w:World}{b t:Nat}{a0 a1 a2:Value}{l:List Value}(h:Bk w b t (a0::a1::a2::l).toArray):w.cell? ⟨b,0,O⟩=Z a0/\w.cell? ⟨b,1,O⟩=Z a1/\w.cell? ⟨b,2,O⟩=Z a2:=⟨h.cell 0,h.cell 1,h.cell 2⟩
theorem Bk.gS {w:World}{b t:Nat}{a0 a1 a2 a3 a4 a5:Value}{l:List Value}(h:Bk w b t (a0::a1::a2::a3::a4::a5::l).toArray):w.cell? ⟨b,0,O⟩=Z a0/\w.cell? ⟨b,1,O⟩=Z a1/\w.cell? ⟨b,2,O⟩=Z a2/\w.cell? ⟨b,3,O⟩=Z a3/\w.cell? ⟨b,4,O⟩=Z a4/\w.cell? ⟨b,5,O⟩=Z a5:=⟨h.cell 0,h.cell 1,h.cell 2,h.cell 3,h.cell 4,h.cell 5⟩
theorem Bk.BK {w:World}{b t:Nat}{a0 a1 a2 a3 a4 a5 a6:Value}{l:List Value}(h:Bk w b t (a0::a1::a2::a3::a4::a5::a6::l).toArray):w.cell? ⟨b,0,O⟩=Z a0/\w.cell? ⟨b,1,O⟩=Z a1/\w.cell? ⟨b,2,O⟩=Z a2/\w.cell? ⟨b,3,O⟩=Z a3/\w.cell? ⟨b,4,O⟩=Z a4/\w.cell? ⟨b,5,O⟩=Z a5/\w.cell? ⟨b,6,O⟩=Z a6:=⟨h.cell 0,h.cell 1,h.cell 2,h.cell 3,h.cell 4,h.cell 5,h.cell 6⟩
theorem Bk.F5 {w:World}{b t:Nat}{a0 a1 a2 a3 a4 a5 a6 a7:Value}{l:List Value}(h:Bk w b t (a0::a1::a2::a3::a4::a5::a6::a7::l).toArray):w.cell? ⟨b,0,O⟩=Z a0/\w.cell? ⟨b,1,O⟩=Z a1/\w.cell? ⟨b,2,O⟩=Z a2/\w.cell? ⟨b,3,O⟩=Z a3/\w.cell? ⟨b,4,O⟩=Z a4/\w.cell? ⟨b,5,O⟩=Z a5/\w.cell? ⟨b,6,O⟩=Z a6/\w.cell? ⟨b,7,O⟩=Z a7:=⟨h.cell 0,h.cell 1,h.cell 2,h.cell 3,h.cell 4,h.cell 5,h.cell 6,h.cell 7⟩
theorem Bk.free (h:Bk w g t cs)(i:Nat):w.frozen? ⟨g,i,O⟩=V:=by unfold Bk at h;simp[World.frozen?,h]
theorem Bk.made (w:World)(t:TypeId)(cs:Array Value):Bk (w.alloc (.cells cs t)) w.heap.size t cs:=heap_alloc_new w _
theorem Bk.alloc (h:Bk w g t cs)(o:Obj):Bk (w.alloc o) g t cs:=(Below.heap_alloc w o g h.lt).trans h
theorem Bk.put (h:Bk w g t cs)(i:Nat)(u:Value):Bk (w.setCell ⟨g,i,O⟩ u) g t (cs.setIfInBounds i u):=by
 unfold Bk at h ⊢;simp[World.setCell,Array.getElem?_modify,h]
theorem Bk.off (h:Bk w g t cs){p:Addr}(hp:g≠p.block)(u:Value):Bk (w.setCell p u) g t cs:=(Below.heap_setCell w p u g hp).trans h
theorem Bk.grown {row:Option Nat}(h:Bk w g t cs)(hg:w.grownBy w' row)(hne:Z g≠row):Bk w' g t cs:=(hg.block g h.lt hne).trans h
theorem Bk.drewN (h:Bk w g t cs)(n:Nat):Bk (w.drewN n) g t cs:=h
theorem Bk.aj {g':Nat}{t':TypeId}{cs':Array Value}(h:Bk w g t cs)(h':Bk w g' t' cs')(hne:t≠t'):g≠g':=by
 intro e;subst e;unfold Bk at h h';rw[h] at h';injection h' with h';injection h' with _ ht;exact hne ht
end
abbrev fD (a w:World) (g:Nat):Prop:=a.grownBy w (Z g)
theorem cY (w:World)(g i:Nat)(u:Value):fD w (w.setCell ⟨g,i,O⟩ u) g:=
 ⟨rfl,rfl,rfl,by simp[World.setCell],fun k _ hne=>Below.heap_setCell w _ u k (fun e=>hne (by rw[e]))⟩
theorem bi (w:World)(o:Obj)(r:Option Nat):w.grownBy (w.alloc o) r:=World.grownBy_alloc w o r
theorem dD {a w:World}{r:Option Nat}(h:a.grownBy w r)(n:Nat):a.grownBy (w.drewN n) r:=⟨h.os,h.tape,h.output,h.size,h.block⟩
theorem cP (w:World)(r:Option Nat):w.grownBy w r:=⟨rfl,rfl,rfl,L _,fun _ _ _=>rfl⟩
theorem aU {a b c:World}{r s:Option Nat}(h:a.grownBy b r)(k:b.grownBy c s)(hs:s=r\/∀ x,s=Z x->a.heap.size<=x):a.grownBy c r:=
 ⟨k.os.trans h.os,k.tape.trans h.tape,k.output.trans h.output,Nat.le_trans h.size k.size,fun i hi hne=>
  (k.block i (Nat.lt_of_lt_of_le hi h.size) (by
   rcases hs with e | e
   ·rw[e];exact hne
   ·intro e';have:=e i e'.symm;omega)).trans (h.block i hi hne)⟩
theorem vy {a b:World}{r:Option Nat}(h:a.grownBy b O):a.grownBy b r:=⟨h.os,h.tape,h.output,h.size,fun i hi _=>h.block i hi (by simp)⟩
theorem aO {a b:World}(h:a.grownBy b O):Below a.heap.size a b:=⟨h.os,h.tape,h.output,h.size,fun i hi=>h.block i hi (by simp)⟩
theorem bN {a b:World}(h:Below a.heap.size a b):a.grownBy b O:=⟨h.os,h.tape,h.output,h.size,fun i hi _=>h.block i hi⟩
def aF (xs:List Int)(i:Nat):Int:=xs.getD i 0
theorem CW {xs:List Int}{i:Nat}(h:i<xs.length):aF xs i=xs[i]:=by simp[aF,h]
theorem j9 {xs:List Int}{i:Nat}(h:i<xs.length):xs[i]?=Z (aF xs i):=by rw[CW h];exact List.getElem?_eq_getElem h
theorem dt {xs:List Int}{i j:Nat}{v:Int}(h:i<xs.length):aF (xs.set i v) j=if i=j then v else aF xs j:=by
 unfold aF;simp only[List.getD_eq_getElem?_getD,List.getElem?_set]
 by_cases e:i=j
 ·subst e;simp[h]
 ·simp[e]
def words (xs:List Int):Array Value:=(xs.map (Value.int .u32)).toArray
def fC (xs:List Int):Prop:=∀ x∈xs,0<=x/\x<4294967296
theorem fo (xs:List Int)(i:Nat)(h:i<xs.length):(words xs)[i]?=Z (.int .u32 (aF xs i)):=by simp[words,h,aF]
theorem fN (xs:List Int)(i:Nat)(v:Int):(words xs).setIfInBounds i (.int .u32 v)=words (xs.set i v):=by
 unfold words;rw[List.setIfInBounds_toArray,List.map_set]
theorem fC.at_ {xs:List Int}(h:fC xs)(i:Nat):0<=aF xs i/\aF xs i<4294967296:=by
 unfold aF
 by_cases hi:i<xs.length
 ·simp only[List.getD_eq_getElem?_getD,List.getElem?_eq_getElem hi,Option.getD_some];exact h _ (List.getElem_mem hi)
 ·simp[List.getD_eq_getElem?_getD,List.getElem?_eq_none (Nat.le_of_not_lt hi)]
theorem fC.set {xs:List Int}(h:fC xs)(i:Nat)(v:Int)(hv:0<=v/\v<4294967296):fC (xs.set i v):=by
 intro x hx
 rcases List.mem_or_eq_of_mem_set hx with hx | rfl
 ·exact h x hx
 ·exact hv
theorem fC.ga (n:Nat):fC (List.replicate n 0):=by
 intro x hx;rw[List.eq_of_mem_replicate hx];omega
theorem g9 (n:Nat):madeCells #[.int .u32 0] n=words (List.replicate n 0):=by
 apply Array.ext
 ·simp[madeCells,words]
 ·intro i h1 h2;simp[madeCells,words,Nat.mod_one]
def dO (k:IntKind)(w:World)(a:Option Addr)(xs:List Int):Prop:=
 0<xs.length->∃ b off,a=Z ⟨b,off,O⟩/\b<w.heap.size/\∀ i,i<xs.length->w.cell? ⟨b,off+i,O⟩=Z (.int k (aF xs i))
theorem dO.at_ {k:IntKind}{w:World}{a:Option Addr}{xs:List Int}(h:dO k w a xs){i:Nat}(hi:i<xs.length){wr:World}(hb:Below w.heap.size w wr):
 ∃ b off,a=Z ⟨b,off,O⟩/\wr.cell? ⟨b,off+i,O⟩=Z (.int k (aF xs i)):=by
 obtain⟨b,off,e,hlt,hc⟩:=h (by omega)
 exact⟨b,off,e,(hb.cell (p:=⟨b,off+i,O⟩) hlt).trans (hc i hi)⟩
theorem tV:(Tryz.prog.info? 70).map (fun i=>(i.zero,i.size,i.bytes))=Z (Z (.int .u32 0),1,4):=by kernel_rfl
end
section
structure aN where
 op:Int
 d:Int
 s:Int
 t:Int
 u:Int
 a:Int
 k:Int
 pl:Int
def aN.zero:aN:=⟨0,0,0,0,0,0,0,0⟩
structure aN.Wf (i:aN):Prop where
 op0:-9223372036854775808<=i.op
 op1:i.op<=9223372036854775807
 d0:-9223372036854775808<=i.d
 d1:i.d<=9223372036854775807
 s0:-9223372036854775808<=i.s
 s1:i.s<=9223372036854775807
 t0:-9223372036854775808<=i.t
 t1:i.t<=9223372036854775807
 u0:-9223372036854775808<=i.u
 u1:i.u<=9223372036854775807
 a0:-9223372036854775808<=i.a
 a1:i.a<=9223372036854775807
 k0:0<=i.k
 k1:i.k<4294967296
 to0:-9223372036854775808<=i.pl
 to1:i.pl<=9223372036854775807
def bD (op:Int):List UInt8:=
 if op=1 then [99,111,110,115,116]
 else if op=2 then [109,111,118,101]
 else if op=3 then [97,100,100,107]
 else if op=4 then [97,110,100,107]
 else if op=5 then [115,104,108]
 else if op=6 then [115,104,114]
 else if op=7 then [111,114]
 else if op=8 then [98,101,113]
 else if op=9 then [98,110,101]
 else if op=10 then [106,117,109,112]
 else if op=11 then [115,101,108,102]
 else if op=12 then [109,97,114,107]
 else if op=13 then [100,111,110,101]
 else if op=16 then [108,111,97,100]
 else if op=17 then [115,116,111,114,101]
 else if op=18 then [115,119,97,112]
 else if op=19 then [99,97,115]
 else if op=20 then [102,97,100,100]
 else if op=21 then [97,119,97,105,116]
 else if op=22 then [116,97,107,101]
 else if op=23 then [102,114,101,101]
 else []
def cM (op:Int):List UInt8:=
 if op=1 then [68,75]
 else if op=2 then [68,83]
 else if op=3 then [68,83,75]
 else if op=4 then [68,83,75]
 else if op=5 then [68,83,75]
 else if op=6 then [68,83,75]
 else if op=7 then [68,83,84]
 else if op=8 then [83,84,80]
 else if op=9 then [83,84,80]
 else if op=10 then [80]
 else if op=11 then [68]
 else if op=12 then [75]
 else if op=13 then [75]
 else if op=16 then [68,65,83]
 else if op=17 then [65,83,84]
 else if op=18 then [68,65,83,84]
 else if op=19 then [68,65,83,84,85]
 else if op=20 then [68,65,83,75]
 else if op=21 then [68,65,83,75,84,80]
 else if op=22 then [68]
 else if op=23 then [83]
 else []
theorem cq (op:Int):op=1\/op=2\/op=3\/op=4\/op=5\/op=6\/op=7\/op=8\/op=9\/op=10\/op=11\/op=12\/op=13\/op=16\/op=17\/op=18\/op=19\/op=20\/op=21\/op=22\/op=23\/
 (op≠1/\op≠2/\op≠3/\op≠4/\op≠5/\op≠6/\op≠7/\op≠8/\op≠9/\op≠10/\op≠11/\op≠12/\op≠13/\op≠16/\op≠17/\op≠18/\op≠19/\op≠20/\op≠21/\op≠22/\op≠23):=by omega
def aZ (i:aN)(c:Int):Int:=
 if c=68 then i.d else if c=83 then i.s else if c=84 then i.t else if c=85 then i.u else if c=65 then i.a else if c=75 then i.k else i.pl
def cH (i:aN)(c v:Int):aN:=
 if c=68 then { i with d:=v } else if c=83 then { i with s:=v } else if c=84 then { i with t:=v } else if c=85 then { i with u:=v }
 else if c=65 then { i with a:=v } else if c=75 then { i with k:=v % 4294967296 } else if c=80 then { i with pl:=v } else i
def eR (op c:Int):Int:=
 if c=65 then 0 else if c=75 then (if op=12 then 1 else 0) else if c=80 then (if op=21 then -1 else 0) else 0
def ep (op c p:Int):Int:=
 if c=65 then 8
 else if c=75 then (if op=5 then 32 else if op=6 then 32 else if op=12 then 5 else if op=13 then 4 else if op=21 then 2 else 4294967296)
 else if c=80 then (if op=21 then (if p<0 then 0 else p) else p) else 8
def oT (i:aN)(p:Int)(c:Int):Bool:=decide (eR i.op c<=aZ i c) && decide (aZ i c<ep i.op c p)
def oV (i:aN)(l:List UInt8):aN:=l.foldl (fun x c=>cH x c.toNat 0) { i with op:=0 }
def qC (i:aN):Bool:=decide (i.op=0/\i.d=0/\i.s=0/\i.t=0/\i.u=0/\i.a=0/\i.k=0/\i.pl=0)
def au (i:aN)(p:Int):Bool:=!(cM i.op).isEmpty && ((cM i.op).all (fun c=>oT i p c.toNat) && qC (oV i (cM i.op)))
def aQ (i:aN)(c:Int):List UInt8:=
 if c=65 then 32 :: Lib.itoa i.a
 else if c=75 then (if i.op=21 then (if i.k=0 then [32,101,113] else [32,110,101]) else 32 :: Lib.itoa i.k)
 else if c=80 then (if i.op=21 then (if i.pl=-1 then [] else [32,101,108,115,101,32]++Lib.itoa i.pl) else 32 :: Lib.itoa i.pl)
 else [32,114]++Lib.itoa (aZ i c)
def av (i:aN)(l:List UInt8):List UInt8:=l.flatMap fun c=>aQ i c.toNat
def af (i:aN):List UInt8:=bD i.op++av i (cM i.op)
def ki (w:List UInt8):Int:=
 if w=[101,113] then 0 else if w=[110,101] then 1
 else match Lib.atoiAll (Lib.trimPrefix w [114]) with
  | .ok v=>v
  | _=>-1
def bV (ws:List (List UInt8))(n:Nat):Int:=if n<ws.length then ki (ws.getD n []) else -1
def gd (w:List UInt8):Nat->Int->Int
 | 0,_=>0
 | n+1,k=>if (cM k).isEmpty=V/\bD k=w then k else gd w n (k+1)
def nA (w:List UInt8):Int:=gd w 23 1
def bW (ws:List (List UInt8)):List UInt8->Nat->aN->aN
 | [],_,i=>i
 | c :: l,n,i=>bW ws l (n+1) (cH i c.toNat (bV ws (n+1)))
def dm (ws:List (List UInt8))(i:aN):aN:=if i.op=21 then { i with pl:=bV ws 7 } else i
def bU (ws:List (List UInt8)):aN:=
 dm ws (bW ws (cM (nA (ws.getD 0 []))) 0 { aN.zero with op:=nA (ws.getD 0 []) })
def BO (c:Int):Prop:=c=68\/c=83\/c=84\/c=85\/c=65\/c=75\/c=80
def DL (c:UInt8):Bool:=c==68 || c==83 || c==84 || c==85 || c==65 || c==75 || c==80
theorem dA {op:Int}(h:op≠1/\op≠2/\op≠3/\op≠4/\op≠5/\op≠6/\op≠7/\op≠8/\op≠9/\op≠10/\op≠11/\op≠12/\op≠13/\op≠16/\op≠17/\op≠18/\op≠19/\op≠20/\op≠21/\op≠22/\op≠23):cM op=[]/\bD op=[]:=by
 unfold cM bD;simp[h]
theorem Dj (op:Int):(cM op).all DL=R:=by
 rcases cq op with rfl|rfl|rfl|rfl|rfl|rfl|rfl|rfl|rfl|rfl|rfl|rfl|rfl|rfl|rfl|rfl|rfl|rfl|rfl|rfl|rfl | hn
 all_goals first | rfl | (rw[(dA hn).1];rfl)
theorem CZ {c:UInt8}(h:DL c=R):BO c.toNat:=by
 unfold DL at h
 simp at h
 unfold BO
 rcases h with ((((((rfl|rfl) | rfl) | rfl) | rfl) | rfl) | rfl) <;> decide
theorem tM (op:Int):∀ c∈cM op,BO c.toNat:=fun c hc=>CZ (List.all_eq_true.1 (Dj op) c hc)
theorem tN (op:Int):(cM op).length<=6:=by
 rcases cq op with rfl|rfl|rfl|rfl|rfl|rfl|rfl|rfl|rfl|rfl|rfl|rfl|rfl|rfl|rfl|rfl|rfl|rfl|rfl|rfl|rfl | hn
 all_goals first | decide | (rw[(dA hn).1];decide)
def du (i j:aN):Bool:=i.op==j.op && (i.d==j.d && (i.s==j.s && (i.t==j.t && (i.u==j.u && (i.a==j.a && (i.k==j.k && i.pl==j.pl))))))
theorem Dh (i:aN):qC i=du i aN.zero:=by
 rw[Bool.eq_iff_iff]
 simp[qC,du,aN.zero]
end
section
open Go.ChangeShapes Go.WideShapes Go.ChangeAt Go.RowKit
structure ab (w w':World)(S:Nat->Prop):Prop where
 os:w'.os=w.os
 tape:w'.tape=w.tape
 output:w'.output=w.output
 size:w.heap.size<=w'.heap.size
 block:∀ i,i<w.heap.size->¬ S i->w'.heap[i]?=w.heap[i]?
section
variable {w w' w'':World}{S S':Nat->Prop}
theorem ab.refl (w:World)(S:Nat->Prop):ab w w S:=⟨rfl,rfl,rfl,L _,fun _ _ _=>rfl⟩
theorem ab.bp (h:ab w w' S)(k:ab w' w'' S')(hs:∀ i,S' i->S i\/w.heap.size<=i):ab w w'' S:=
 ⟨k.os.trans h.os,k.tape.trans h.tape,k.output.trans h.output,Nat.le_trans h.size k.size,fun i hi hn=>
  (k.block i (Nat.lt_of_lt_of_le hi h.size) (fun e=>by
   rcases hs i e with e | e
   ·exact hn e
   ·omega)).trans (h.block i hi hn)⟩
theorem ab.wide (h:ab w w' S)(hs:∀ i,S i->i<w.heap.size->S' i):ab w w' S':=⟨h.os,h.tape,h.output,h.size,fun i hi hn=>h.block i hi (fun e=>hn (hs i e hi))⟩
theorem ab.az {r:Option Nat}(h:w.grownBy w' r)(hs:∀ i,r=Z i->S i\/w.heap.size<=i):ab w w' S:=
 ⟨h.os,h.tape,h.output,h.size,fun i hi hn=>h.block i hi (fun e=>by
  rcases hs i e.symm with e | e
  ·exact hn e
  ·omega)⟩
theorem ab.dg (h:ab w w' S)(n:Nat):ab w (w'.drewN n) S:=⟨h.os,h.tape,h.output,h.size,h.block⟩
theorem ab.alloc (h:ab w w' S)(o:Obj):ab w (w'.alloc o) S:=h.bp (.az (S:=fun _=>False) (bi _ _ O) (by simp)) (by simp)
theorem ab.put (h:ab w w' S)(g i:Nat)(u:Value)(hs:S g\/w.heap.size<=g):ab w (w'.setCell ⟨g,i,O⟩ u) S:=
 h.bp (.az (S:=fun j=>j=g) (cY _ _ _ _) (by simp)) (by rintro i rfl;exact hs)
theorem ab.grown (h:ab w w' S)(hs:∀ i,S i->w.heap.size<=i):w.grownBy w' O:=⟨h.os,h.tape,h.output,h.size,fun i hi _=>h.block i hi (fun e=>by have:=hs i e;omega)⟩
theorem ab.below (h:ab w w' S)(hs:∀ i,S i->w.heap.size<=i):Below w.heap.size w w':=aO (h.grown hs)
theorem Bk.within {g:Nat}{t:TypeId}{cs:Array Value}(h:Bk w g t cs)(k:ab w w' S)(hn:¬ S g):Bk w' g t cs:=(k.block g h.lt hn).trans h
end
def nR (w:World)(p:Nat)(og:Option Nat)(w':World)(og':Option Nat):Prop:=
 (og'=og\/∃ g,og'=Z g/\w.heap.size<=g)/\ab w w' (fun b=>b=p\/Z b=og)
def fE (a w:World)(p:Nat)(og:Option Nat):Prop:=a.grownBy w O/\a.heap.size<=p/\∀ g,og=Z g->a.heap.size<=g
section
variable {a w w':World}{p:Nat}{og og':Option Nat}
theorem fE.within (h:fE a w p og)(k:ab w w' (fun b=>b=p\/Z b=og)):fE a w' p og:=by
 refine⟨?_,h.2⟩
 have h1:ab a w' (fun _=>False):=ab.bp (.az h.1 (by simp)) k (by
  rintro i (rfl | e)
  ·exact .inr h.2.1
  ·exact .inr (h.2.2 i e.symm))
 exact h1.grown (by simp)
theorem fE.Ew (h:fE a w p og)(k:nR w p og w' og'):fE a w' p og':=by
 have h1:=h.within k.2
 refine⟨h1.1,h.2.1,fun g e=>?_⟩
 rcases k.1 with rfl | ⟨g',rfl,hg⟩
 ·exact h.2.2 g e
 ·obtain rfl:g'=g:=by injection e
  exact Nat.le_trans h.1.size hg
theorem fE.dg (h:fE a w p og)(n:Nat):fE a (w.drewN n) p og:=⟨dD h.1 n,h.2⟩
theorem fE.more (h:fE a w p og)(k:w.grownBy w' O):fE a w' p og:=⟨aU h.1 k (.inl rfl),h.2⟩
end
theorem bY {w:World}{b i:Nat}{u:Value}{c j:Nat}(h:c≠b):(w.setCell ⟨b,i,O⟩ u).cell? ⟨c,j,O⟩=w.cell? ⟨c,j,O⟩:=
 World.cell?_of_block (Below.heap_setCell w ⟨b,i,O⟩ u c h)
def fF {α:Type}(z:α)(xs:List α)(i:Nat):α:=xs.getD i z
section
variable {α:Type}{z:α}
theorem xJ {xs:List α}{i:Nat}(h:i<xs.length):xs[i]?=Z (fF z xs i):=by simp[fF,h]
theorem qQ {xs:List α}{i j:Nat}{v:α}(h:i<xs.length):fF z (xs.set i v) j=if i=j then v else fF z xs j:=by
 unfold fF;simp only[List.getD_eq_getElem?_getD,List.getElem?_set]
 by_cases e:i=j
 ·subst e;simp[h]
 ·simp[e]
theorem lM {xs ys:List α}{i:Nat}(h:i<xs.length):fF z (xs++ys) i=fF z xs i:=by simp[fF,List.getD_eq_getElem?_getD,List.getElem?_append,h]
theorem lN {xs:List α}{v:α}:fF z (xs++[v]) xs.length=v:=by simp[fF]
def eM (C:α->Value)(xs:List α):Array Value:=(xs.map C).toArray
theorem iH (C:α->Value){xs:List α}{i:Nat}(h:i<xs.length):(eM C xs)[i]?=Z (C (fF z xs i)):=by simp[eM,fF,h]
theorem kE (C:α->Value)(xs:List α)(i:Nat)(v:α):(eM C xs).setIfInBounds i (C v)=eM C (xs.set i v):=by
 unfold eM;rw[List.setIfInBounds_toArray,List.map_set]
theorem r9 (C:α->Value)(z:α)(n:Nat):madeCells #[C z] n=eM C (List.replicate n z):=by
 apply Array.ext
 ·simp[madeCells,eM]
 ·intro i h1 h2;simp[madeCells,eM,Nat.mod_one]
def eO (vs ds:List α)(k:Nat):List α:=vs.take k++ds.drop k
theorem kJ (vs ds:List α)(k:Nat)(h:k<=vs.length)(hd:k<=ds.length):(eO vs ds k).length=ds.length:=by simp[eO];omega
theorem uk (vs ds:List α):eO vs ds 0=ds:=by simp[eO]
theorem xM (vs ds:List α)(k i:Nat)(hk:k<=vs.length)(h:i<k):fF z (eO vs ds k) i=fF z vs i:=by
 simp[eO,fF,List.getD_eq_getElem?_getD,List.getElem?_append,List.getElem?_take]
 rw[if_pos (by omega),if_pos h]
theorem ox (vs ds:List α)(k:Nat)(h:k<vs.length)(hd:k<ds.length):(eO vs ds k).set k (fF z vs k)=eO vs ds (k+1):=by
 unfold eO
 have e:vs.take (k+1)=vs.take k++[fF z vs k]:=by rw[List.take_add_one,xJ (z:=z) h];rfl
 rw[e,List.set_append,if_neg (by simp;omega)]
 have e2:ds.drop k=ds[k] :: ds.drop (k+1):=by rw[List.drop_eq_getElem_cons hd]
 rw[e2]
 have e3:k-(vs.take k).length=0:=by simp;omega
 rw[e3,List.set_cons_zero,List.append_assoc,List.singleton_append]
end
section
variable {P:Program}{w w':World}{base:Nat}{t:TypeId}{size:Nat}{v:Value}{n:Nat}{xs:List Value}
theorem bf (h:w.ownsRow base t size v n xs){g:Nat}(e:v.ownBlock=Z g):∃ cs,Bk w g t cs:=by
 rcases h.2 with ⟨rfl,_⟩ | ⟨g',cap,cur,rfl,_,hg,_⟩
 ·cases e
 ·simp only[Value.ownBlock,Option.some.injEq] at e;subst e;exact⟨cur,hg⟩
theorem aq {S:Nat->Prop}(h:w.ownsRow base t size v n xs)(hk:ab w w' S)(hn:∀ g,v.ownBlock=Z g->¬ S g):w'.ownsRow base t size v n xs:=by
 rcases h.2 with ⟨rfl,h0⟩ | ⟨g,cap,cur,rfl,hb,hg,r⟩
 ·exact⟨h.1,.inl ⟨rfl,h0⟩⟩
 ·exact⟨h.1,.inr ⟨g,cap,cur,rfl,hb,(hk.block g (Array.getElem?_eq_some_iff.1 hg).1 (hn g rfl)).trans hg,r⟩⟩
theorem bt (h:w.ownsRow base t size v n xs):∃ a cap,v=U a n cap/\n<=cap/\cap<=maxLen/\(0<n->∃ g,a=Z ⟨g,0,O⟩/\v.ownBlock=Z g/\base<=g/\g<w.heap.size/\(∀ i,w.frozen? ⟨g,i,O⟩=V)/\∀ i,i<n*size->w.cell? ⟨g,i,O⟩=xs[i]?):=by
 rcases h.2 with ⟨rfl,h0⟩ | ⟨g,cap,cur,rfl,hb,hg,hnc,hcm,r⟩
 ·exact⟨O,0,by rw[h0],by omega,by simp,fun h=>by omega⟩
 ·exact⟨Z ⟨g,0,O⟩,cap,rfl,hnc,hcm,fun _=>⟨g,rfl,rfl,hb,(Array.getElem?_eq_some_iff.1 hg).1,fun i=>Bk.free (cs:=cur) (t:=t) hg i,fun i hi=>World.ownsRow.cellAt h i hi⟩⟩
end
section
variable {P:Program}{ops:Array Oper}{rest:List Oper}{o:Oper}{a:Act}{w:World}{K:Act->World->Prop}{Q:Exit->Act->World->Prop}{E:Prop}{base:Nat}{t:TypeId}{size:Nat}{v:Value}{n:Nat}{xs:List Value}
theorem mU (hgd:o.guard=O)(s x:Operand)(ts:TypeId)(ho:o.op=Op.call { callee:=Callee.builtin Builtin.append,args:=#[s,x],argTypes:=#[ts,ts] })
 (z:Value) (bytes:Nat) (ht:P.underlying ts=Z (.slice t)) (hi:(P.info? t).map (fun i=>(i.zero,i.size,i.bytes))=Z (Z z,size,bytes)) (hz:z.cells.size=size) (hsz:0<size) (hby:bytes<=200)
 (h:w.ownsRow base t size v n xs) (hs:a.eval s=v) (news:List Value) (hnl:news.length=size) (hone:∀ u∈news,u.oneCell'=R) (B:Nat) (hx:a.eval x=U (Z ⟨B,0,O⟩) 1 1)
 (hB:∀ j u,news[j]?=Z u->w.cell? ((⟨B,0,O⟩:Addr).add j)=Z u) (hl:n<100000) (hbase:base<=w.heap.size)
 (hK:∀ v' w',w'.ownsRow base t size v' (n+1) (xs++news)->w.grownBy w' v.ownBlock->(v'.ownBlock=v.ownBlock\/v'.ownBlock=Z w.heap.size)->K (a.put o.dst v') w'):
 if Region.wanted o (yielded ops a.tmps)=R then Oper.wp P o a w K Q else E:=by
 obtain⟨i0,hi0,hz0,hz1,hz2⟩:=info_parts hi
 have hw:Region.wanted o (yielded ops a.tmps)=R:=by simp[Region.wanted,hgd]
 rw[if_pos hw]
 obtain⟨v',w',hr,h2,h3,h4,h5⟩:=run_append_own_at (P:=P) w base ts o.type t i0 z size bytes ht hi0 hz0 hz1 hz2 hz hsz v n xs h ⟨B,0,O⟩ 1 1 news (by omega) hB hone (by simp only[maxLen];omega)
  (by
   have:(n+1)*bytes<=100001*200:=Nat.mul_le_mul (by omega) hby
   omega) hbase
 unfold Oper.wp
 simp[execOp,ho,resolve,invoke,builtin,hs,hx,hr,Result.andThen]
 exact hK v' w' h2 h3 h5
theorem rG (hgd:o.guard=O)(s x:Operand)(ts:TypeId)(ho:o.op=Op.call { callee:=Callee.builtin Builtin.append,args:=#[s,x],argTypes:=#[ts,ts] })
 (z:Value) (bytes:Nat) (ht:P.underlying ts=Z (.slice t)) (hi:(P.info? t).map (fun i=>(i.zero,i.size,i.bytes))=Z (Z z,size,bytes)) (hz:z.cells.size=size) (hsz:0<size) (hby:bytes<=200)
 (h:w.ownsRow base t size v n xs) (hs:a.eval s=v) (news:List Value) (hnl:news.length=size) (hone:∀ u∈news,u.oneCell'=R) (B:Nat) (hx:a.eval x=U (Z ⟨B,0,O⟩) 1 1)
 (hB:∀ j u,news[j]?=Z u->w.cell? ((⟨B,0,O⟩:Addr).add j)=Z u) (hl:n<100000) (hbase:base<=w.heap.size)
 (hK:∀ v' w',w'.ownsRow base t size v' (n+1) (xs++news)->w.grownBy w' v.ownBlock->(v'.ownBlock=v.ownBlock\/v'.ownBlock=Z w.heap.size)->wpList P ops Q rest (a.put o.dst v') w'):
 wpList P ops Q (o :: rest) a w:=by
 obtain⟨i0,hi0,hz0,hz1,hz2⟩:=info_parts hi
 refine wpList_append_own_at _ hgd s x ts ho base t i0 _ size bytes ht hi0 hz0 hz1 hz2 hz hsz v n xs hs h ⟨B,0,O⟩ 1 1 news hx (by omega) hB hone (by simp only[maxLen];omega)
  (by
   have:(n+1)*bytes<=100001*200:=Nat.mul_le_mul (by omega) hby
   omega) hbase fun v' w' h2 h3 _ h5=>hK v' w' h2 h3 h5
end
theorem gF {w:World}{B:Nat}{t:TypeId}{cs:Array Value}(h:Bk w B t cs):∀ (j:Nat) (u:Value),cs.toList[j]?=Z u->w.cell? ((⟨B,0,O⟩:Addr).add j)=Z u:=by
 intro j u hj
 have ea:(⟨B,0,O⟩:Addr).add j=⟨B,j,O⟩:=by unfold Addr.add;split <;> simp_all
 rw[ea,h.cell j]
 simpa using hj
end
section
open Go.ChangeShapes Go.WideShapes Go.ChangeAt Go.RowKit Go.Maps
theorem zj:Keyed Tryz.prog 9:=string_keyed Tryz.underlying9
theorem Fa (s:List UInt8)(hs:s.length<=1000000):keyOf Tryz.prog 9 (.string ⟨s.toArray⟩)=Z (.string s):=by
 have h:(⟨s.toArray⟩:ByteArray).size<=maxLen:=by show s.toArray.size<=_;simp[maxLen];omega
 simp[keyOf,mapKey,Tryz.underlying9,h]
theorem z9 (w:World):(zeroValue 3).run Tryz.prog w=.ok (.int .i64 0) w:=by kernel_rfl
theorem zl (s:List UInt8):WideAt.IsKeyLit (.string s):=by trivial
theorem ug {x y:List UInt8}(h:y≠x):(Lit.string y)≠.string x:=fun e=>h (by injection e)
theorem Fz {x:Int}(h0:0<=x)(h1:x<1000000):(Lit.int .i64 x).wf=R:=by
 simp[Lit.wf,IntKind.min,IntKind.max,IntKind.bits,IntKind.signed];omega
def fB (ls:List (List UInt8×Int))(s:List UInt8):Bool:=ls.any fun x=>x.1==s
def em (ls:List (List UInt8×Int))(s:List UInt8):Int:=match ls.find? fun x=>x.1==s with
 | some x=>x.2
 | none=>0
theorem oy (ls:List (List UInt8×Int))(s t:List UInt8)(p:Int):fB (ls++[(t,p)]) s=(fB ls s || (t==s)):=by simp[fB]
theorem sJ {ls:List (List UInt8×Int)}{s:List UInt8}(h:fB ls s=V):ls.find? (fun x=>x.1==s)=O:=by
 rw[List.find?_eq_none]
 intro x hx
 unfold fB at h
 rw[List.any_eq_false] at h
 exact h x hx
theorem lw {ls:List (List UInt8×Int)}{s:List UInt8}(h:fB ls s=V)(p:Int):em (ls++[(s,p)]) s=p:=by
 unfold em
 rw[List.find?_append,sJ h]
 simp
theorem kq {ls:List (List UInt8×Int)}{s t:List UInt8}(h:s≠t)(p:Int):em (ls++[(t,p)]) s=em ls s:=by
 have h2:(t==s)=V:=by simpa using fun e=>h e.symm
 unfold em
 rw[List.find?_append]
 simp[h2]
def ig (w:World)(b:Nat)(ls:List (List UInt8×Int)):Prop:=
 ∃ D:DataW Unit,w.ownsMap Tryz.prog 9 (plainElem Tryz.prog 3) b ls.length D/\
  ∀ s,Maps.has D (.string s)=fB ls s/\D.atKey (.string s) (.lit (.int .i64 0))=.lit (.int .i64 (em ls s))
section
variable {w w':World}{b:Nat}{ls:List (List UInt8×Int)}
theorem ig.lt (h:ig w b ls):b<w.heap.size:=by obtain⟨D,h,_⟩:=h;exact h.lt
theorem ig.fx {g:Nat}{t:TypeId}{cs:Array Value}(h:ig w b ls)(k:Bk w g t cs):b≠g:=by
 obtain⟨D,⟨es,clock,hb,_⟩,_⟩:=h
 intro e;subst e;unfold Bk at k;rw[hb] at k;cases k
theorem ig.same (h:ig w b ls)(k:w'.heap[b]?=w.heap[b]?):ig w' b ls:=by
 obtain⟨D,⟨es,clock,hb,r⟩,r'⟩:=h
 exact⟨D,⟨es,clock,k.trans hb,r⟩,r'⟩
theorem ig.within {S:Nat->Prop}(h:ig w b ls)(k:ab w w' S)(hn:¬ S b):ig w' b ls:=h.same (k.block b h.lt hn)
theorem ig.made (w:World):ig (w.alloc (.map #[] 0)) w.heap.size []:=
 ⟨.map [],World.ownsMap_made w _ _ _,fun _=>⟨rfl,rfl⟩⟩
theorem ig.look (h:ig w b ls)(s:List UInt8)(hs:s.length<=1000000):(Instr.lookup 132 (.map (Z b)) (.string ⟨s.toArray⟩) R).run Tryz.prog w=.ok (.tuple #[.int .i64 (em ls s),.bool (fB ls s)]) w:=by
 obtain⟨D,h,hk⟩:=h
 obtain⟨v,ps,hrun,hv⟩:=h.look_ok zj Tryz.underlying132 (z9 w) (plainElem_int Tryz.underlying3 (by decide)) (Fa s hs)
 rw[(hk s).2] at hv
 rw[hrun,(hk s).1]
 obtain⟨c,rfl,hc,hwc⟩:=plainElem_int_inv Tryz.underlying3 hv
 simp only[Prod.mk.injEq,DataW.lit.injEq,Lit.int.injEq,true_and] at hc
 rw[hc.1]
theorem ig.add (h:ig w b ls)(hc:ls.length<1000000){s:List UInt8}{p:Int}(hs:s.length<=1000000)(h0:0<=p)(h1:p<1000000)(hk:fB ls s=V):
 ∃ w',(Instr.mapUpdate 132 (.map (Z b)) (.string ⟨s.toArray⟩) (.int .i64 p)).run Tryz.prog w=.ok () w'/\ig w' b (ls++[(s,p)])/\fD w w' b:=by
 obtain⟨D,h,hh⟩:=h
 obtain⟨w',hrun,ho,hg⟩:=h.update zj Tryz.underlying132 (by unfold maxLen;omega) (Fa s hs) (plainElem_int (H:=Unit) Tryz.underlying3 (Fz h0 h1))
 refine⟨w',hrun,⟨_,by simpa using ho,fun t=>?_⟩,hg⟩
 by_cases e:t=s
 ·subst e
  rw[has_put_same h.isMap (zl _),atKey_put_same h.isMap (zl _),oy,lw hk]
  simp
 ·rw[has_put_other (ug e),atKey_put_other (ug e),oy,kq e,(hh t).1,(hh t).2]
  have:(s==t)=V:=by simpa using fun e2=>e e2.symm
  simp[this]
end
end
section
open Go.ChangeShapes Go.WideShapes Go.ChangeAt Go.RowKit
def pY (t:TypeId)(w:World)(v:Value)(us:List Value):Prop:=w.ownsRow 0 t 1 v us.length us
section
variable {t:TypeId}{w w':World}{v:Value}{us:List Value}
theorem pY.nil (t:TypeId)(w:World):pY t w (U O 0 0) []:=World.ownsRow_nil _ _ _ _
theorem pY.lt (h:pY t w v us){g:Nat}(e:v.ownBlock=Z g):g<w.heap.size:=(World.ownsRow.lt h g e).2
theorem pY.bk (h:pY t w v us){g:Nat}(e:v.ownBlock=Z g):∃ cs,Bk w g t cs:=by
 rcases h.2 with ⟨rfl,_⟩ | ⟨g',cap,cur,rfl,_,hg,_⟩
 ·cases e
 ·simp only[Value.ownBlock,Option.some.injEq] at e;subst e;exact⟨cur,hg⟩
theorem pY.within {S:Nat->Prop}(h:pY t w v us)(hk:ab w w' S)(hn:∀ g,v.ownBlock=Z g->¬ S g):pY t w' v us:=by
 rcases h.2 with ⟨rfl,h0⟩ | ⟨g,cap,cur,rfl,hb,hg,r⟩
 ·exact⟨h.1,.inl ⟨rfl,h0⟩⟩
 ·exact⟨h.1,.inr ⟨g,cap,cur,rfl,hb,(hk.block g (Array.getElem?_eq_some_iff.1 hg).1 (hn g rfl)).trans hg,r⟩⟩
theorem pY.alloc (h:pY t w v us)(o:Obj):pY t (w.alloc o) v us:=World.ownsRow.alloc h o
theorem pY.is (h:pY t w v us):∃ a cap,v=U a us.length cap/\us.length<=cap/\cap<=maxLen/\(0<us.length->∃ g,a=Z ⟨g,0,O⟩/\v.ownBlock=Z g/\(∀ i,w.frozen? ⟨g,i,O⟩=V)/\∀ i,w.cell? ⟨g,i,O⟩=us[i]?\/us.length<=i):=by
 rcases h.2 with ⟨rfl,h0⟩ | ⟨g,cap,cur,rfl,hb,hg,hnc,hcm,r⟩
 ·exact⟨O,0,by rw[h0],by omega,by simp,fun h=>by omega⟩
 ·refine⟨Z ⟨g,0,O⟩,cap,rfl,hnc,hcm,fun _=>⟨g,rfl,rfl,fun i=>Bk.free (cs:=cur) (t:=t) hg i,fun i=>?_⟩⟩
  by_cases hi:i<us.length
  ·exact .inl (World.ownsRow.cellAt h i (by omega))
  ·exact .inr (by omega)
theorem pY.put {g cap:Nat}(h:pY t w (U (Z ⟨g,0,O⟩) us.length cap) us)(i:Nat)(u:Value):pY t (w.setCell ⟨g,i,O⟩ u) (U (Z ⟨g,0,O⟩) us.length cap) (us.set i u):=by
 have:=(World.ownsRow.stored h i u).1
 unfold pY;rw[List.length_set];exact this
end
section
variable {t:TypeId}{w:World}{v:Value}{us:List Value}{P:Program}{ops:Array Oper}{rest:List Oper}{o:Oper}{a:Act}{Q:Exit->Act->World->Prop}
theorem mF (hgd:o.guard=O)(s x:Operand)(ts:TypeId)(ho:o.op=.call { callee:=.builtin .append,args:=#[s,x],argTypes:=#[ts,ts] })
 (z:Value) (bytes:Nat) (ht:P.underlying ts=Z (.slice t)) (hi:(P.info? t).map (fun i=>(i.zero,i.size,i.bytes))=Z (Z z,1,bytes)) (hz:z.cells.size=1) (hby:bytes<=24)
 (h:pY t w v us) (hs:a.eval s=v) (y:Value) (hy:y.oneCell'=R) (hx:a.eval x=U (Z ⟨w.heap.size,0,O⟩) 1 1) (hl:us.length<1000000)
 (hK:∀ v' w',pY t w' v' (us++[y])->w.grownBy w' v.ownBlock->(v'.ownBlock=v.ownBlock\/v'.ownBlock=Z (w.heap.size+1))->wpList P ops Q rest (a.put o.dst v') w'):
 wpList P ops Q (o :: rest) a (w.alloc (.cells #[y] t)):=by
 obtain⟨i0,hi0,hz0,hz1,hz2⟩:=info_parts hi
 refine wpList_append_own_at _ hgd s x ts ho 0 t i0 _ 1 bytes ht hi0 hz0 hz1 hz2 hz (by omega) v us.length us hs (h.alloc _) ⟨w.heap.size,0,O⟩ 1 1 [y] hx rfl (cell_one_new _ _ _) (by intro u hu;simp at hu;subst hu;exact hy) (by simp only[maxLen];omega) ?_ (Nat.zero_le _) ?_
 ·have:(us.length+1)*bytes<=1000001*24:=Nat.mul_le_mul (by omega) hby
  omega
 ·intro v' w' hown hgr _ hloc
  refine hK v' w' ?_ ?_ ?_
  ·unfold pY;simpa using hown
  ·exact aU (bi _ _ _) hgr (.inl rfl)
  ·simpa using hloc
end
def eH (k:IntKind)(t:TypeId)(w:World)(v:Value)(xs:List Int):Prop:=w.ownsRow 0 t 1 v xs.length (xs.map (Value.int k))
section
variable {k:IntKind}{t:TypeId}{w w':World}{v:Value}{xs:List Int}
theorem eH.nil (k:IntKind)(t:TypeId)(w:World):eH k t w (U O 0 0) []:=World.ownsRow_nil _ _ _ _
theorem eH.lt (h:eH k t w v xs){g:Nat}(e:v.ownBlock=Z g):g<w.heap.size:=(World.ownsRow.lt h g e).2
theorem eH.bk (h:eH k t w v xs){g:Nat}(e:v.ownBlock=Z g):∃ cs,Bk w g t cs:=by
 rcases h.2 with ⟨rfl,_⟩ | ⟨g',cap,cur,rfl,_,hg,_⟩
 ·cases e
 ·simp only[Value.ownBlock,Option.some.injEq] at e;subst e;exact⟨cur,hg⟩
theorem eH.kept {r:Option Nat}(h:eH k t w v xs)(hg:w.grownBy w' r)(hne:v.ownBlock=O\/v.ownBlock≠r):eH k t w' v xs:=World.ownsRow.kept h hg hne
theorem eH.within {S:Nat->Prop}(h:eH k t w v xs)(hk:ab w w' S)(hn:∀ g,v.ownBlock=Z g->¬ S g):eH k t w' v xs:=by
 rcases h.2 with ⟨rfl,h0⟩ | ⟨g,cap,cur,rfl,hb,hg,r⟩
 ·exact⟨h.1,.inl ⟨rfl,h0⟩⟩
 ·exact⟨h.1,.inr ⟨g,cap,cur,rfl,hb,(hk.block g (Array.getElem?_eq_some_iff.1 hg).1 (hn g rfl)).trans hg,r⟩⟩
theorem eH.drewN (h:eH k t w v xs)(m:Nat):eH k t (w.drewN m) v xs:=h
theorem eH.alloc (h:eH k t w v xs)(o:Obj):eH k t (w.alloc o) v xs:=World.ownsRow.alloc h o
theorem eH.is (h:eH k t w v xs):∃ a cap,v=U a xs.length cap/\xs.length<=cap/\cap<=maxLen/\(0<xs.length->∃ g,a=Z ⟨g,0,O⟩/\v.ownBlock=Z g/\(∀ i,w.frozen? ⟨g,i,O⟩=V)/\∀ i,i<xs.length->w.cell? ⟨g,i,O⟩=Z (.int k (aF xs i))):=by
 rcases h.2 with ⟨rfl,h0⟩ | ⟨g,cap,cur,rfl,hb,hg,hnc,hcm,r⟩
 ·exact⟨O,0,by rw[h0],by omega,by simp,fun h=>by omega⟩
 ·refine⟨Z ⟨g,0,O⟩,cap,rfl,hnc,hcm,fun _=>⟨g,rfl,rfl,fun i=>Bk.free (cs:=cur) (t:=t) hg i,fun i hi=>?_⟩⟩
  rw[World.ownsRow.cellAt h i (by omega),List.getElem?_map,j9 hi];rfl
theorem eH.put {g cap:Nat}(h:eH k t w (U (Z ⟨g,0,O⟩) xs.length cap) xs)(i:Nat)(y:Int):eH k t (w.setCell ⟨g,i,O⟩ (.int k y)) (U (Z ⟨g,0,O⟩) xs.length cap) (xs.set i y):=by
 have:=(World.ownsRow.stored h i (.int k y)).1
 unfold eH;rw[List.length_set,List.map_set];exact this
end
section
variable {k:IntKind}{t:TypeId}{w:World}{v:Value}{xs:List Int}{P:Program}{ops:Array Oper}{rest:List Oper}{o:Oper}{a:Act}{Q:Exit->Act->World->Prop}
theorem eK (hgd:o.guard=O)(s x:Operand)(ts:TypeId)(ho:o.op=.call { callee:=.builtin .append,args:=#[s,x],argTypes:=#[ts,ts] })
 (bytes:Nat) (ht:P.underlying ts=Z (.slice t)) (hi:(P.info? t).map (fun i=>(i.zero,i.size,i.bytes))=Z (Z (.int k 0),1,bytes)) (hby:bytes<=8)
 (h:eH k t w v xs) (hs:a.eval s=v) (y:Int) (hx:a.eval x=U (Z ⟨w.heap.size,0,O⟩) 1 1) (hl:xs.length<1000000)
 (hK:∀ v' w',eH k t w' v' (xs++[y])->w.grownBy w' v.ownBlock->(v'.ownBlock=v.ownBlock\/v'.ownBlock=Z (w.heap.size+1))->wpList P ops Q rest (a.put o.dst v') w'):
 wpList P ops Q (o :: rest) a (w.alloc (.cells #[.int k y] t)):=by
 obtain⟨i0,hi0,hz0,hz1,hz2⟩:=info_parts hi
 refine wpList_append_own_at _ hgd s x ts ho 0 t i0 _ 1 bytes ht hi0 hz0 hz1 hz2 rfl (by omega) v xs.length (xs.map (Value.int k)) hs (h.alloc _) ⟨w.heap.size,0,O⟩ 1 1 [.int k y] hx rfl (cell_one_new _ _ _) (ints_oneCell k [y]) (by simp only[maxLen];omega) ?_ (Nat.zero_le _) ?_
 ·have:(xs.length+1)*bytes<=1000001*8:=Nat.mul_le_mul (by omega) hby
  omega
 ·intro v' w' hown hgr _ hloc
  refine hK v' w' ?_ ?_ ?_
  ·unfold eH;simpa using hown
  ·exact aU (bi _ _ _) hgr (.inl rfl)
  ·simpa using hloc
end
def xc (T:Nat->Prop)(I:World->Prop):Prop:=∀ A B,I A->ab A B T->I B
def gI (T:Nat->Prop)(W W':World):Prop:=W.heap.size<=W'.heap.size/\∀ b,T b->W'.heap[b]?=W.heap[b]?
theorem gI.refl (T:Nat->Prop)(W:World):gI T W W:=⟨L _,fun _ _=>rfl⟩
theorem gI.trans {T:Nat->Prop}{A B C:World}(h:gI T A B)(k:gI T B C):gI T A C:=⟨Nat.le_trans h.1 k.1,fun b hb=>(k.2 b hb).trans (h.2 b hb)⟩
theorem gI.less {T T':Nat->Prop}{A B:World}(h:gI T A B)(hT:∀ b,T' b->T b):gI T' A B:=⟨h.1,fun b hb=>h.2 b (hT b hb)⟩
theorem gI.kF {T S:Nat->Prop}{A B:World}(h:ab A B S)(hT:∀ b,T b->b<A.heap.size/\¬ S b):gI T A B:=⟨h.size,fun b hb=>h.block b (hT b hb).1 (hT b hb).2⟩
def DO (P:Program)(gf:FuncId)(lb:Array Value)(encs:Nat->Array Value)(N l:Nat)(W1:World)(T:Nat->Prop):Prop:=
 ∀ (J:Nat->World->Prop) (Jx:World->Prop),(∀ k,xc T (J k))->xc T Jx->
  (∀ k W,k<N->J k W->(∀ b,T b->b<W.heap.size)->YieldAt Fence.wide 0 P l (encs k) W fun e W'=>gI T W W'/\((e=.returned (.bool R)/\J (k+1) W')\/(e=.returned (.bool V)/\Jx W')))->
  J 0 W1->CallsIn Fence.wide 0 P gf (#[.func (.yield l) #[] #[]]++lb) W1 fun e W'=>(∃ v,e=.returned v)/\(J N W'\/Jx W')
def xu (T:Nat->Prop)(W:World)(I:World->Prop)(Ix:Code->World->Prop):Exit->Act->World->Prop
 | .normal,_,W'=>gI T W W'/\I W'
 | .ret,_,W'=>gI T W W'/\Ix .ret W'
 | .exit id,_,W'=>gI T W W'/\Ix (.exit id) W'
 | .goto t,_,W'=>gI T W W'/\Ix (.goto t) W'
 | .panic _,_,_=>False
 | .outgrown,_,_=>False
theorem cE (W:World)(l:Nat)(o:Obj)(T:Nat->Prop)(h:T l):ab W (W.putObj l o) T:=
 ⟨rfl,rfl,rfl,by simp[World.putObj],fun i _ hn=>World.putObj_heap_other (fun e=>hn (e ▸ h))⟩
theorem mg {P:Program}{g:Operand}{ps:Array Tmp}{assign body:Code}{Q:Exit->Act->World->Prop}{a:Act}{w:World}
 {gf:Nat} {lb:Array Value} (hg:a.eval g=.func (.func gf) #[] lb) (eg:∀ args w,(callFunc gf args).run P w=.ok (.enter gf args) w)
 {encs:Nat->Array Value} {N:Nat} {T:Nat->Prop} (hps:∀ k,(encs k).size=ps.size) (hT0:¬ T w.heap.size) (hT1:¬ T (w.heap.size+1))
 (hseq:∀ W1,Below w.heap.size w W1->W1.heap.size=w.heap.size+2->DO P gf lb encs N (w.heap.size+1) W1 T)
 (I:Nat->World->Prop) (Ix:Code->World->Prop) (hI:∀ k,xc (fun b=>b=w.heap.size\/b=w.heap.size+1\/T b) (I k)) (hIx:∀ c,xc (fun b=>b=w.heap.size\/b=w.heap.size+1\/T b) (Ix c)) (h0:I 0 w)
 (a₁:Nat->Act)
 (hassign:∀ (l k:Nat) (W:World) (K:Act->World->Prop),K (a₁ k) W->
  assign.wpIn (Fence.wide.inRound l) 0 P (Exit.then K (fun _ _ _=>False)) { tmps:=(ps.zip (encs k)).foldl (fun t (p,v)=>t.setIfInBounds p v) a.tmps,defers:=[] } W)
 (hbody:∀ (l k:Nat) (W:World),k<N->I k W->(∀ b,(b=w.heap.size\/b=w.heap.size+1\/T b)->b<W.heap.size)->body.wpIn (Fence.wide.inRound l) 0 P (xu (fun b=>b=w.heap.size\/b=w.heap.size+1\/T b) W (I (k+1)) Ix) (a₁ k) W)
 (hdone:∀ (W:World),I N W->W.heap[w.heap.size]?=Z (.deferred (Z []))->Q .normal { a with defers:={ target:=.collected w.heap.size,args:=#[] } :: a.defers } W)
 (hstop:∀ (c:Code) (W:World),Ix c W->W.heap[w.heap.size]?=Z (.deferred (Z []))->c.wpIn Fence.wide 0 P Q { a with defers:={ target:=.collected w.heap.size,args:=#[] } :: a.defers } W):
 (Code.rangeFunc g ps assign body).wpIn Fence.wide 0 P Q a w:=by
 refine wpIn_rangeFunc ?_
 intro fn hfn
 obtain⟨rec,hrec⟩:∃ rec:LoopState->Option Code->Loop,rec=fun st pe=>{ state:=st,pending:=pe,fn,tmps:=a.tmps,params:=ps,assign,body,defers:=w.heap.size }:=⟨_,rfl⟩
 obtain⟨W1,hW1⟩:∃ W1,(w.alloc (.deferred (Z []))).alloc (.loop (rec .ready O))=W1:=⟨_,rfl⟩
 have hL1:W1.heap[w.heap.size+1]?=Z (.loop (rec .ready O)):=by
  rw[<-hW1];have:=World.alloc_heap_new (w.alloc (.deferred (Z []))) (.loop (rec .ready O));rwa [World.size_alloc] at this
 have hK1:W1.heap[w.heap.size]?=Z (.deferred (Z [])):=by
  rw[<-hW1];exact(Below.heap_alloc _ _ _ (by simp)).trans (World.alloc_heap_new w _)
 have hw1:ab w W1 (fun _=>False):=by rw[<-hW1];exact((ab.refl w _).alloc _).alloc _
 have hb1:Below w.heap.size w W1:=hw1.below (by simp)
 have hz1:W1.heap.size=w.heap.size+2:=by rw[<-hW1];simp
 have hI1:I 0 W1:=hI 0 _ _ h0 (hw1.wide (by simp))
 refine⟨w.heap.size+1,[{ target:=.collected w.heap.size,args:=#[] }],W1,{ target:=.fn (.func gf) lb,args:=#[.func (.yield (w.heap.size+1)) #[] #[]] },W1,gf,
  #[.func (.yield (w.heap.size+1)) #[] #[]]++lb,W1,?_,?_,(fun _ _=>trivial),?_,(fun h=>(by cases h)),?_⟩
 ·rw[<-hW1,hrec];exact run_enterLoop_outer _ _ _ _ _
 ·simp only[resolve,hg]
  simp[go_sem]
 ·simp[invoke,go_sem,eg]
 ·refine(hseq W1 hb1 hz1
   (fun k W=>I k W/\W.heap[w.heap.size+1]?=Z (.loop (rec .ready O))/\W.heap[w.heap.size]?=Z (.deferred (Z [])))
   (fun W=>∃ c,Ix c W/\W.heap[w.heap.size+1]?=Z (.loop (rec .done (Z c)))/\W.heap[w.heap.size]?=Z (.deferred (Z [])))
   ?_ ?_ ?_ ⟨hI1,hL1,hK1⟩).mono ?_
  ·rintro k A B ⟨hi,hl,hk⟩ hw
   exact⟨hI k A B hi (hw.wide fun i hi _=>.inr (.inr hi)),(hw.block _ (Array.getElem?_eq_some_iff.1 hl).1 hT1).trans hl,(hw.block _ (Array.getElem?_eq_some_iff.1 hk).1 hT0).trans hk⟩
  ·rintro A B ⟨c,hi,hl,hk⟩ hw
   exact⟨c,hIx c A B hi (hw.wide fun i hi _=>.inr (.inr hi)),(hw.block _ (Array.getElem?_eq_some_iff.1 hl).1 hT1).trans hl,(hw.block _ (Array.getElem?_eq_some_iff.1 hk).1 hT0).trans hk⟩
  ·
   rintro k W hk ⟨hi,hl,hd⟩ hT
   have hlt:w.heap.size+1<W.heap.size:=(Array.getElem?_eq_some_iff.1 hl).1
   have hy:=run_yield (P:=P) (args:=encs k) hl (by rw[hrec];exact hps k)
   rw[hrec] at hy
   refine⟨fn,_,assign,body,hy,roundIn_of_wpIn trivial (hassign _ k W _ ?_)⟩
   clear hy
   refine⟨_,run_beginRound hl (by rw[hrec]),?_⟩
   obtain⟨W2,hW2⟩:∃ W2,W.putObj (w.heap.size+1) (.loop { rec .ready O with state:=.busy })=W2:=⟨_,rfl⟩
   have hl2:W2.heap[w.heap.size+1]?=Z (.loop { rec .ready O with state:=.busy }):=by rw[<-hW2];exact World.putObj_heap_same hlt
   have hd2:W2.heap[w.heap.size]?=Z (.deferred (Z [])):=by rw[<-hW2];exact(World.putObj_heap_other (by omega)).trans hd
   have hz2:W2.heap.size=W.heap.size:=by rw[<-hW2];simp[World.putObj]
   have hh2:gI T W W2:=⟨by omega,fun b hb=>by rw[<-hW2];exact World.putObj_heap_other (fun e=>hT1 (e ▸ hb))⟩
   have hi2:I k W2:=by rw[<-hW2];exact hI k _ _ hi (cE _ _ _ _ (.inr (.inl rfl)))
   rw[hW2]
   clear hW2
   refine wpIn_mono (hbody _ k W2 hk hi2 (by
    rintro b (rfl|rfl | hb)
    ·omega
    ·omega
    ·rw[hz2];exact hT b hb)) ?_
   have fin:∀ (jump:Option Code) (W3:World),gI (fun b=>b=w.heap.size\/b=w.heap.size+1\/T b) W2 W3->
    ∃ W4,(Instr.endRound (w.heap.size+1) jump).run P W3=.ok (.bool jump.isNone) W4/\ab W3 W4 (fun b=>b=w.heap.size\/b=w.heap.size+1\/T b)/\gI T W3 W4/\
    W4.heap[w.heap.size+1]?=Z (.loop (rec (if jump.isNone then .ready else .done) jump))/\W4.heap[w.heap.size]?=Z (.deferred (Z [])):=fun jump W3 hh=>by
    have hl3:=(hh.2 _ (.inr (.inl rfl))).trans hl2
    have hd3:=(hh.2 _ (.inl rfl)).trans hd2
    have:=run_endRound (P:=P) jump hl3
    rw[hrec] at this ⊢
    exact⟨_,this,cE _ _ _ _ (.inr (.inl rfl)),⟨by simp[World.putObj],fun b hb=>World.putObj_heap_other (fun e=>hT1 (e ▸ hb))⟩,
     World.putObj_heap_same (Array.getElem?_eq_some_iff.1 hl3).1,(World.putObj_heap_other (by omega)).trans hd3⟩
   rintro e a3 W3 hp
   cases e with
   | normal=>
    obtain⟨hh,hi3⟩:=hp
    obtain⟨W4,hr,hw4,hh4,hl4,hd4⟩:=fin O W3 hh
    exact⟨_,_,hr,hh2.trans ((hh.less fun b hb=>.inr (.inr hb)).trans hh4),.inl ⟨rfl,hI _ _ _ hi3 hw4,hl4,hd4⟩⟩
   | ret=>
    obtain⟨hh,hi3⟩:=hp
    obtain⟨W4,hr,hw4,hh4,hl4,hd4⟩:=fin (Z .ret) W3 hh
    exact⟨_,_,hr,hh2.trans ((hh.less fun b hb=>.inr (.inr hb)).trans hh4),.inr ⟨rfl,.ret,hIx _ _ _ hi3 hw4,hl4,hd4⟩⟩
   | exit id=>
    obtain⟨hh,hi3⟩:=hp
    obtain⟨W4,hr,hw4,hh4,hl4,hd4⟩:=fin (Z (.exit id)) W3 hh
    exact⟨_,_,hr,hh2.trans ((hh.less fun b hb=>.inr (.inr hb)).trans hh4),.inr ⟨rfl,.exit id,hIx _ _ _ hi3 hw4,hl4,hd4⟩⟩
   | goto t=>
    obtain⟨hh,hi3⟩:=hp
    obtain⟨W4,hr,hw4,hh4,hl4,hd4⟩:=fin (Z (.goto t)) W3 hh
    exact⟨_,_,hr,hh2.trans ((hh.less fun b hb=>.inr (.inr hb)).trans hh4),.inr ⟨rfl,.goto t,hIx _ _ _ hi3 hw4,hl4,hd4⟩⟩
   | panic ch=>exact hp.elim
   | outgrown=>exact hp.elim
  ·
   rintro e W2 ⟨⟨v,rfl⟩,(⟨hi,hl,hd⟩ | ⟨c,hi,hl,hd⟩)⟩
   ·exact⟨O,_,by have:=run_endLoop (P:=P) hl (by rw[hrec];simp);rw[hrec] at this;exact this,hdone _ (hI _ _ _ hi (cE _ _ _ _ (.inr (.inl rfl)))) ((World.putObj_heap_other (by omega)).trans hd)⟩
   ·exact⟨Z c,_,by have:=run_endLoop (P:=P) hl (by rw[hrec];simp);rw[hrec] at this;exact this,hstop c _ (hIx c _ _ hi (cE _ _ _ _ (.inr (.inl rfl)))) ((World.putObj_heap_other (by omega)).trans hd)⟩
def left (listed:Array Bool):Nat:=(listed.toList.filter fun b=>!b).length
theorem ni:∀ (l:List Bool) (i:Nat),l[i]?=Z V->((l.set i R).filter fun b=>!b).length+1=(l.filter fun b=>!b).length
 | [],i,h=>by simp at h
 | b :: l,0,h=>by simp at h;subst h;simp
 | b :: l,i+1,h=>by
  have ih:=ni l i (by simpa using h)
  cases b <;> simp at ih ⊢ <;> omega
theorem kI:∀ (l:List Bool) (i:Nat),(l.filter fun b=>!b).length=0->l[i]?≠Z V
 | [],i,h=>by simp
 | b :: l,0,h=>by cases b <;> simp at h ⊢
 | b :: l,i+1,h=>by
  have ih:=kI l i (by cases b <;> simp at h ⊢;exact h)
  simpa using ih
section
variable {P:Program}{ops:Array Oper}{Q:Exit->Act->World->Prop}
theorem gY {listed:Array Bool}{i:Nat}(h:i∈Region.ready .any ops listed):listed.toList[i]?=Z V:=by
 unfold Region.ready at h
 rw[List.mem_filter] at h
 have h2:=h.2
 simp only[Bool.and_eq_true,Bool.not_eq_true'] at h2
 have h3:=h2.1
 rw[Array.getElem?_toList]
 rw[Array.getD_eq_getD_getElem?] at h3
 cases e:listed[i]? with
 | none=>rw[e] at h3;simp at h3
 | some b=>rw[e] at h3;simp at h3;rw[h3]
theorem nU (Inv:Array Bool->Act->World->Prop)
 (hstep:∀ listed a w i,Inv listed a w->i∈Region.ready .any ops listed->wpOp P ops Q i (fun a' w'=>Inv (listed.setIfInBounds i R) a' w') a w)
 (hend:∀ listed a w,Inv listed a w->Region.ready .any ops listed=[]->Q .normal a w):
 ∀ (fuel:Nat) (listed:Array Bool) (a:Act) (w:World),Inv listed a w->left listed<=fuel->wpAny P .any ops Q fuel listed a w
 | 0,listed,a,w,hi,hf=>by
  have e:Region.ready .any ops listed=[]:=by
   rw[List.eq_nil_iff_forall_not_mem]
   intro i h
   exact kI listed.toList i (by unfold left at hf;omega) (gY h)
  exact⟨e,hend _ _ _ hi e⟩
 | fuel+1,listed,a,w,hi,hf=>by
  refine⟨fun e=>hend _ _ _ hi e,fun i h=>wpOp_mono (fun a' w' h2=>?_) (hstep listed a w i hi h)⟩
  refine nU Inv hstep hend fuel _ a' w' h2 ?_
  have:=ni listed.toList i (gY h)
  unfold left at hf ⊢
  rw[Array.toList_setIfInBounds]
  omega
theorem nD {id:Nat}{a:Act}{w:World}(hm:P.follows .mixedOrders=R)(Inv:Array Bool->Act->World->Prop)(h0:Inv (Array.replicate ops.size V) a w.drew)
 (hstep:∀ listed a w i,Inv listed a w->i∈Region.ready .any ops listed->wpOp P ops Q i (fun a' w'=>Inv (listed.setIfInBounds i R) a' w') a w)
 (hend:∀ listed a w,Inv listed a w->Region.ready .any ops listed=[]->Q .normal a w):(Code.region id ops R).wp P Q a w:=
 wp_region_any hm (nU Inv hstep hend _ _ _ _ h0 (by unfold left;exact Nat.le_trans (List.length_filter_le _ _) (by simp)))
end
def zL (ops:Array Oper)(i:Nat):Option Tmp:=(ops[i]?).bind (·.dst)
def fb (ops:Array Oper)(t:Nat):Option Nat:=(List.range ops.size).find? fun i=>zL ops i==Z t
def bm (ops:Array Oper)(i:Nat):List Nat:=match ops[i]? with
 | some o=>(o.after.toList.filter fun e=>Region.binds .any e).map (·.on)
 | none=>[]
def rI:Op->Bool
 | .select ..=>V
 | _=>R
def nL (ops:Array Oper):Bool:=(List.range ops.size).all fun i=>match ops[i]? with
 | some o=>rI o.op && ((o.looksAt ops).all fun t=>match fb ops t with
  | some j=>(bm ops i).contains j
  | none=>R) && (match o.dst with
  | some d=>fb ops d==Z i
  | none=>R) && ((bm ops i).all fun j=>decide (j<i))
 | none=>V
def over (f:Nat->Option Value):List Value->Nat->List Value
 | [],_=>[]
 | x :: xs,t=>(f t).getD x :: over f xs (t+1)
theorem uc (f:Nat->Option Value):∀ (xs:List Value) (t k:Nat),(over f xs t)[k]?=(xs[k]?).map fun x=>(f (t+k)).getD x
 | [],t,k=>by simp[over]
 | x :: xs,t,0=>by simp[over]
 | x :: xs,t,k+1=>by
  have ih:=uc f xs (t+1) k
  simp[over,ih,Nat.add_assoc,Nat.add_comm 1 k]
def aH (ops:Array Oper)(a:Act)(d:Nat->Bool)(vs:Nat->Value):Act:=
 { a with tmps:=(over (fun t=>match fb ops t with
  | some i=>if d i=R then Z (vs i) else O
  | none=>O) a.tmps.toList 0).toArray }
theorem fy (ops:Array Oper)(a:Act)(d:Nat->Bool)(vs:Nat->Value)(t:Nat):(aH ops a d vs).tmps[t]?=(a.tmps[t]?).map fun x=>(match fb ops t with
 | some i=>if d i=R then Z (vs i) else O
 | none=>O).getD x:=by
 simp[aH,uc]
theorem mt (ops:Array Oper)(a:Act)(vs:Nat->Value):aH ops a (fun _=>V) vs=a:=by
 obtain⟨tmps,defers⟩:=a
 have e:(aH ops ⟨tmps,defers⟩ (fun _=>V) vs).tmps=tmps:=by
  apply Array.ext_getElem?
  intro t
  rw[fy]
  cases h:tmps[t]? with
  | none=>simp
  | some x=>cases h2:fb ops t <;> simp
 have e2:aH ops ⟨tmps,defers⟩ (fun _=>V) vs=⟨(aH ops ⟨tmps,defers⟩ (fun _=>V) vs).tmps,defers⟩:=rfl
 rw[e2,e]
theorem oG (ops:Array Oper)(a:Act)(d:Nat->Bool)(vs:Nat->Value)(i:Nat)(o:Oper)(ho:ops[i]?=Z o)(hd:∀ x,o.dst=Z x->fb ops x=Z i)(hn:∀ t,fb ops t=Z i->o.dst=Z t)(hdi:d i=V)(v:Value):
 (aH ops a d vs).put o.dst v=aH ops a (fun j=>if j=i then R else d j) (fun j=>if j=i then v else vs j):=by
 have wS:((aH ops a d vs).put o.dst v).tmps=(aH ops a (fun j=>if j=i then R else d j) (fun j=>if j=i then v else vs j)).tmps:=by
  apply Array.ext_getElem?
  intro t
  rw[fy]
  cases hx:o.dst with
  | none=>
   show (aH ops a d vs).tmps[t]?=_
   rw[fy]
   cases h2:fb ops t with
   | none=>rfl
   | some j=>
    have hj:j≠i:=fun e=>by have:=hn t (e ▸ h2);rw[hx] at this;cases this
    simp[hj]
  | some x=>
   show ((aH ops a d vs).tmps.setIfInBounds x v)[t]?=_
   rw[Array.getElem?_setIfInBounds]
   by_cases e:x=t
   ·subst e
    rw[if_pos rfl,hd x hx]
    have hsz:(aH ops a d vs).tmps.size=a.tmps.size:=by
     have l:∀ (f:Nat->Option Value) (xs:List Value) (t:Nat),(over f xs t).length=xs.length:=by
      intro f xs
      induction xs with
      | nil=>intro t;rfl
      | cons x xs ih=>intro t;simp[over,ih]
     simp[aH,l]
    rw[hsz]
    by_cases hlt:x<a.tmps.size
    ·simp[hlt]
    ·simp[hlt]
   ·rw[if_neg e,fy]
    cases h2:fb ops t with
    | none=>rfl
    | some j=>
     have hj:j≠i:=fun e3=>by have:=hn t (e3 ▸ h2);rw[hx] at this;injection this with this;exact e this
     simp[hj]
 have e1:(aH ops a d vs).put o.dst v=⟨((aH ops a d vs).put o.dst v).tmps,a.defers⟩:=by cases o.dst <;> rfl
 have e2:aH ops a (fun j=>if j=i then R else d j) (fun j=>if j=i then v else vs j)=⟨(aH ops a (fun j=>if j=i then R else d j) (fun j=>if j=i then v else vs j)).tmps,a.defers⟩:=rfl
 rw[e1,e2,wS]
theorem jm (ops:Array Oper)(a:Act)(d:Nat->Bool)(vs:Nat->Value)(o:Oper)(hs:rI o.op=R)(h:∀ t∈o.looksAt ops,∀ i,fb ops t=Z i->d i=R):
 execOp (aH ops a d vs).eval o=execOp (aH ops a (fun _=>R) vs).eval o/\Region.wanted o (yielded ops (aH ops a d vs).tmps)=Region.wanted o (yielded ops (aH ops a (fun _=>R) vs).tmps):=by
 have wS:∀ t∈o.looksAt ops,(aH ops a d vs).tmps[t]?=(aH ops a (fun _=>R) vs).tmps[t]?:=by
  intro t ht
  rw[fy,fy]
  cases h2:fb ops t with
  | none=>rfl
  | some i=>simp[h t ht i h2]
 constructor
 ·refine execOp_congr o (fun cs b e=>by rw[e] at hs;cases hs) fun x hx=>?_
  cases x with
  | tmp t=>
   have:=wS t (List.mem_append_left _ (List.mem_filterMap.2 ⟨.tmp t,by simpa using hx,rfl⟩))
   show (aH ops a d vs).tmps.getD t M=(aH ops a (fun _=>R) vs).tmps.getD t M
   rw[Array.getD_eq_getD_getElem?,Array.getD_eq_getD_getElem?,this]
  | _=>rfl
 ·unfold Region.wanted
  cases hg:o.guard with
  | none=>rfl
  | some g=>
   obtain⟨g,want⟩:=g
   simp only
   have:yielded ops (aH ops a d vs).tmps g=yielded ops (aH ops a (fun _=>R) vs).tmps g:=by
    unfold yielded
    cases hb:(ops[g]?).bind (·.dst) with
    | none=>rfl
    | some t=>
     have:=wS t (by unfold Oper.looksAt;rw[hg];simp only;rw[hb];simp)
     simp only[Option.bind_some,this]
   rw[this]
def lu (P:Program)(F:Value->World->Prop)(W:World):Result Next->Prop
 | .ok (.value v) W'=>F v W'/\Below W.heap.size W W'
 | .ok .skip W'=>F M W'/\Below W.heap.size W W'
 | .ok (.enter f args) W'=>Calls P f args W' fun e W2=>∃ v,e=.returned v/\F v W2/\Below W.heap.size W W2
 | _=>False
def cZ (P:Program)(ops:Array Oper)(F:Value->World->Prop)(o:Oper)(a:Act)(W:World):Prop:=
 if Region.wanted o (yielded ops a.tmps)=R then lu P F W ((execOp a.eval o).run P W) else F M W
theorem aa {P:Program}{ops:Array Oper}{F:Value->World->Prop}{o:Oper}{a:Act}{W:World}(hg:o.guard=O)(h:lu P F W ((execOp a.eval o).run P W)):cZ P ops F o a W:=by
 unfold cZ
 rw[if_pos (by simp[Region.wanted,hg])]
 exact h
def tP (P:Program)(ops:Array Oper)(F:Nat->Value->World->Prop)(lit:(Nat->Value)->Act)(w:World):List Oper->Nat->Prop
 | [],_=>True
 | o :: rest,i=>(∀ (vs:Nat->Value) W,Below w.heap.size w W->(∀ j∈bm ops i,F j (vs j) W)->cZ P ops (F i) o (lit vs) W)/\tP P ops F lit w rest (i+1)
theorem oI {P:Program}{ops:Array Oper}{F:Nat->Value->World->Prop}{lit:(Nat->Value)->Act}{w:World}:∀ (l:List Oper) (n:Nat),tP P ops F lit w l n->∀ i o,l[i]?=Z o->∀ (vs:Nat->Value) W,Below w.heap.size w W->(∀ j∈bm ops (n+i),F j (vs j) W)->cZ P ops (F (n+i)) o (lit vs) W
 | [],n,_,i,o,h=>by simp at h
 | x :: l,n,hx,0,o,h=>by
  simp at h
  subst h
  exact hx.1
 | x :: l,n,hx,i+1,o,h=>by
  have:=oI l (n+1) hx.2 i o (by simpa using h)
  rw[show n+1+i=n+(i+1) by omega] at this
  exact this
section
variable {P:Program}{ops:Array Oper}{Q:Exit->Act->World->Prop}
theorem mh:∀ (f:Nat) (listed:Array Bool) (a:Act) (w:World),wpAny P .any ops Q f listed a w->wpAny P .any ops Q (f+1) listed a w
 | 0,listed,a,w,h=>⟨fun _=>h.2,fun i hi=>by rw[h.1] at hi;cases hi⟩
 | f+1,listed,a,w,h=>⟨h.1,fun i hi=>wpOp_mono (fun a' w' h'=>mh f _ a' w' h') (h.2 i hi)⟩
theorem kY {f:Nat}{listed:Array Bool}{a:Act}{w:World}(h:wpAny P .any ops Q f listed a w):∀ d,wpAny P .any ops Q (f+d) listed a w
 | 0=>h
 | d+1=>mh _ _ _ _ (kY h d)
end
def nO (n m:Nat):Array Bool:=(List.replicate n R++List.replicate m V).toArray
def BV (ops:Array Oper)(n:Nat):Bool:=
 decide (n<ops.size) && Region.sinkB .any ops n && Region.chainB .any ops n && Region.seqB .any ops (ops.size-n) n (nO n (ops.size-n))
theorem sH (n m:Nat):left (nO n m)=m:=by
 unfold left nO
 simp[List.filter_append]
theorem qv (ops:Array Oper)(a:Act)(d d2:Nat->Bool)(vs:Nat->Value)(o:Oper)(hs:rI o.op=R)(h:∀ t∈o.looksAt ops,∀ i,fb ops t=Z i->d i=R/\d2 i=R):
 execOp (aH ops a d vs).eval o=execOp (aH ops a d2 vs).eval o/\Region.wanted o (yielded ops (aH ops a d vs).tmps)=Region.wanted o (yielded ops (aH ops a d2 vs).tmps):=by
 have h1:=jm ops a d vs o hs fun t ht i hi=>(h t ht i hi).1
 have h2:=jm ops a d2 vs o hs fun t ht i hi=>(h t ht i hi).2
 exact⟨h1.1.trans h2.1.symm,h1.2.trans h2.2.symm⟩
theorem cK {P:Program}{l:List Oper}{Q:Exit->Act->World->Prop}{id:Nat}{a:Act}{w:World}(n:Nat)(lit:(Nat->Value)->Act)(F:Nat->Value->World->Prop)(hm:P.follows .mixedOrders=R)(hr:nL l.toArray=R)(ht:BV l.toArray n=R)
 (hlit:∀ vs,aH l.toArray a (fun i=>decide (i<n)) vs=lit vs)
 (hst:∀ i v W W',F i v W->Below W.heap.size W W'->F i v W') (hop:tP P l.toArray F lit w (l.take n) 0)
 (hend:∀ (vs:Nat->Value) W,Below w.heap.size w W->(∀ i,i<n->F i (vs i) W)->wpList P l.toArray Q (l.drop n) (lit vs) W):(Code.region id l.toArray R).wp P Q a w:=by
 generalize hops:l.toArray=ops at *
 have hsz:ops.size=l.length:=by rw[<-hops];simp
 unfold BV at ht
 simp only[Bool.and_eq_true,decide_eq_true_eq] at ht
 obtain⟨⟨⟨hn,hsink⟩,hchain⟩,hseq⟩:=ht
 have hR:∀ i o,ops[i]?=Z o->rI o.op=R/\(∀ t∈o.looksAt ops,∀ j,fb ops t=Z j->j∈bm ops i)/\(∀ x,o.dst=Z x->fb ops x=Z i)/\∀ j∈bm ops i,j<i:=by
  intro i o ho
  have hi:i<ops.size:=(Array.getElem?_eq_some_iff.1 ho).1
  unfold nL at hr
  have h:=List.all_eq_true.1 hr i (List.mem_range.2 hi)
  rw[ho] at h
  simp only[Bool.and_eq_true] at h
  refine⟨h.1.1.1,fun t ht j hj=>?_,fun x hx=>?_,fun j hj=>?_⟩
  ·have:=List.all_eq_true.1 h.1.1.2 t ht
   rw[hj] at this
   simpa using this
  ·have:=h.1.2
   rw[hx] at this
   simpa using this
  ·have:=List.all_eq_true.1 h.2 j hj
   simpa using this
 have hN:∀ t i o,ops[i]?=Z o->fb ops t=Z i->o.dst=Z t:=by
  intro t i o ho h
  have:=List.find?_some h
  simp only[zL,ho,Option.bind_some,beq_iff_eq] at this
  exact this
 have hop2:∀ i o,ops[i]?=Z o->i<n->∀ (vs:Nat->Value) W,Below w.heap.size w W->(∀ j∈bm ops i,F j (vs j) W)->cZ P ops (F i) o (lit vs) W:=by
  intro i o ho hi vs W hB hd
  have h1:(l.take n)[i]?=Z o:=by
   rw[List.getElem?_take,if_pos hi]
   rw[<-hops] at ho
   simpa using ho
  have:=oI (l.take n) 0 hop i o h1 vs W hB (by rw[Nat.zero_add];exact hd)
  rw[Nat.zero_add] at this
  exact this
 have wS:∀ (fuel:Nat) (listed:Array Bool) (a':Act) (W:World),HeadInv .any ops n listed->
  (∃ vs:Nat->Value,a'=aH ops a (fun i=>listed.getD i V) vs/\Below w.heap.size w W/\∀ i,listed.getD i V=R->F i (vs i) W)->
  left listed<=fuel->wpAny P .any ops Q fuel listed a' W:=by
  intro fuel
  induction fuel with
  | zero=>
   intro listed a' W hinv hI hf
   exfalso
   have h1:=hinv.tail n (L _) hn
   refine kI listed.toList n (by unfold left at hf;omega) ?_
   have hlt:n<listed.size:=by rw[hinv.size];exact hn
   rw[Array.getElem?_toList,Array.getElem?_eq_getElem hlt]
   simpa [hlt] using h1
  | succ fuel ih=>
   rintro listed a' W hinv ⟨vs,rfl,hB,hF⟩ hf
   by_cases hall:∀ i,i<n->listed.getD i V=R
   ·
    have el:listed=nO n (ops.size-n):=by
     apply Array.ext
     ·rw[hinv.size];simp[nO];omega
     ·intro i h1 h2
      rw[hinv.size] at h1
      by_cases hi:i<n
      ·have:=hall i hi
       have hlt:i<listed.size:=by rw[hinv.size];exact h1
       simp only[nO,List.getElem_toArray,List.getElem_append,List.length_replicate,hi,dite_true,List.getElem_replicate]
       simpa [hlt] using this
      ·have:=hinv.tail i (by omega) h1
       have hlt:i<listed.size:=by rw[hinv.size];exact h1
       simp only[nO,List.getElem_toArray,List.getElem_append,List.length_replicate,hi,dite_false,List.getElem_replicate]
       simpa [hlt] using this
    have hd:aH ops a (fun i=>listed.getD i V) vs=lit vs:=by
     rw[<-hlit vs]
     congr 1
     funext i
     by_cases hi:i<n
     ·rw[hall i hi];simp[hi]
     ·simp only[hi,decide_false]
      by_cases h2:i<ops.size
      ·exact getD_both (hinv.tail i (by omega) h2)
      ·have:listed.size<=i:=by rw[hinv.size];omega
       simp[Array.getElem?_eq_none this]
    have hw:=hend vs W hB fun i hi=>hF i (hall i hi)
    rw[hd]
    have hlen:(l.drop n).length=ops.size-n:=by rw[List.length_drop,hsz]
    have h1:=wpAny_of_seq (P:=P) (md:=.any) (ops:=ops) (Q':=Q) (l.drop n) n listed (lit vs) W (fun j=>by rw[<-hops];simp[List.getElem?_drop]) (by rw[hlen,el];exact hseq) hw
    rw[hlen] at h1
    have hle:ops.size-n<=fuel+1:=by
     have:=sH n (ops.size-n)
     rw[el] at hf
     omega
    have h2:=kY h1 (fuel+1-(ops.size-n))
    rw[show ops.size-n+(fuel+1-(ops.size-n))=fuel+1 by omega] at h2
    exact h2
   ·
    have hex:∃ i,i<n/\listed.getD i V=V/\∀ j,j<i->listed.getD j V=R:=by
     have:∀ m,m<=n->(∀ j,j<m->listed.getD j V=R)\/∃ i,i<n/\listed.getD i V=V/\∀ j,j<i->listed.getD j V=R:=by
      intro m
      induction m with
      | zero=>intro _;exact .inl fun j hj=>by omega
      | succ m ihm=>
       intro hmn
       rcases ihm (by omega) with h | h
       ·cases hl:listed.getD m V with
        | true=>
         refine .inl fun j hj=>?_
         by_cases e:j=m
         ·subst e;exact hl
         ·exact h j (by omega)
        | false=>exact .inr ⟨m,by omega,hl,h⟩
       ·exact .inr h
     rcases this n (L _) with h | h
     ·exact absurd h hall
     ·exact h
    obtain⟨i0,hi0,hu0,hbef⟩:=hex
    have hready:i0∈Region.ready .any ops listed:=by
     have hlt:i0<listed.size:=by rw[hinv.size];omega
     have ho:ops[i0]?=Z ops[i0]:=Array.getElem?_eq_getElem (by omega)
     refine mem_ready.2 ⟨getD_in hlt hu0,_,ho,fun e he hb=>hbef _ ?_⟩
     refine(hR i0 _ ho).2.2.2 _ ?_
     unfold bm
     rw[ho]
     simp only[List.mem_map,List.mem_filter]
     exact⟨e,⟨by simpa using he,hb⟩,rfl⟩
    refine⟨fun e=>(by rw[e] at hready;cases hready),fun i hi=>?_⟩
    have hin:i<n:=by
     rcases Nat.lt_or_ge i n with h | h
     ·exact h
     ·exact absurd hi (tail_waits hsink hchain hn hinv (n-i0) i0 rfl hi0 (getD_in (by rw[hinv.size];omega) hu0) i h)
    obtain⟨hfr,o,ho,hdeps⟩:=mem_ready.1 hi
    obtain⟨r1,r2,r3,r4⟩:=hR i o ho
    have hdep:∀ j∈bm ops i,listed.getD j V=R:=by
     intro j hj
     unfold bm at hj
     rw[ho] at hj
     simp only[List.mem_map,List.mem_filter] at hj
     obtain⟨e,⟨he,hb⟩,rfl⟩:=hj
     exact hdeps e (by simpa using he) hb
    have hdn:∀ j∈bm ops i,j<n:=fun j hj=>by have:=r4 j hj;omega
    obtain⟨s1,s2⟩:=qv ops a (fun i=>listed.getD i V) (fun i=>decide (i<n)) vs o r1 fun t ht j hj=>⟨hdep j (r2 t ht j hj),by simpa using hdn j (r2 t ht j hj)⟩
    rw[hlit] at s1 s2
    have hl:=hop2 i o ho hin vs W hB fun j hj=>hF j (hdep j hj)
    have hif:listed.getD i V=V:=getD_both hfr
    have hlt:i<ops.size:=(Array.getElem?_eq_some_iff.1 ho).1
    have hfree:=gY hi
    have hleft:left (listed.setIfInBounds i R)<=fuel:=by
     have:=ni listed.toList i hfree
     unfold left at hf ⊢
     rw[Array.toList_setIfInBounds]
     omega
    have next:∀ v W',F i v W'->Below W.heap.size W W'->wpAny P .any ops Q fuel (listed.setIfInBounds i R) ((aH ops a (fun i=>listed.getD i V) vs).put o.dst v) W':=by
     intro v W' hf2 hb
     have eg:(fun j=>(listed.setIfInBounds i R).getD j V)=fun j=>if j=i then R else listed.getD j V:=by
      funext j
      rw[Array.getD_eq_getD_getElem?,Array.getElem?_setIfInBounds,Array.getD_eq_getD_getElem?]
      by_cases e:j=i
      ·subst e
       simp[hinv.size,hlt]
      ·rw[if_neg (fun e2=>e e2.symm),if_neg e]
     refine ih _ _ _ (hinv.set hi hin) ⟨fun j=>if j=i then v else vs j,?_,hB.trans (hb.mono hB.size),fun j hj=>?_⟩ hleft
     ·rw[eg]
      exact oG ops a _ vs i o ho r3 (fun t ht=>hN t i o ho ht) hif v
     ·have hj2:=congrFun eg j
      rw[hj2] at hj
      show F j (if j=i then v else vs j) W'
      by_cases e:j=i
      ·subst e;rw[if_pos rfl];exact hf2
      ·rw[if_neg e] at hj ⊢
       exact hst j _ _ _ (hF j hj) hb
    unfold wpOp
    rw[ho]
    simp only
    unfold cZ at hl
    rw[s2]
    by_cases hw:Region.wanted o (yielded ops (lit vs).tmps)=R
    ·rw[if_pos hw] at hl ⊢
     refine .inl ?_
     unfold Oper.wp
     rw[s1]
     generalize (execOp (lit vs).eval o).run P W=r at *
     cases r with
     | ok x W'=>
      cases x <;> simp only[lu] at hl
      ·rw[Oper.upon_value];exact next _ _ hl.1 hl.2
      ·rw[Oper.upon_skip];exact next _ _ hl.1 hl.2
      ·rw[Oper.upon_enter]
       refine hl.mono ?_
       rintro e W2 ⟨v,rfl,h1,h2⟩
       exact next _ _ h1 h2
     | halt x W'=>simp only[lu] at hl
    ·rw[if_neg hw] at hl ⊢
     exact next _ _ hl (G _ _)
 refine wp_region_any hm ?_
 refine wS _ _ _ _ ⟨by simp,fun j oj _ h=>(by rw[getD_replicate_false] at h;cases h),fun t _ h2=>getD_in (by simpa using h2) (getD_replicate_false _ _)⟩ ⟨fun _=>M,?_,(G _ _).drew,fun i h=>by rw[getD_replicate_false] at h;cases h⟩ ?_
 ·have e:(fun i=>(Array.replicate ops.size V).getD i V)=fun _=>V:=by
   funext i
   exact getD_replicate_false _ _
  rw[e,mt]
 ·unfold left
  exact Nat.le_trans (List.length_filter_le _ _) (by simp)
def oP (l:List Value)(i:Nat)(v:Value)(_:World):Prop:=v=l.getD i M
theorem df {l:List Value}:∀ i v W W',oP l i v W->Below W.heap.size W W'->oP l i v W':=fun _ _ _ _ h _=>h
def lE (ps:List (Nat×(Value->World->Prop)))(l:List Value)(i:Nat)(v:Value)(W:World):Prop:=match ps.lookup i with
 | some p=>p v W
 | none=>v=l.getD i M
theorem dB {ps:List (Nat×(Value->World->Prop))}{l:List Value}(h:∀ x∈ps,∀ v W W',x.2 v W->Below W.heap.size W W'->x.2 v W'):∀ i v W W',lE ps l i v W->Below W.heap.size W W'->lE ps l i v W':=by
 intro i v W W' hm hb
 unfold lE at *
 cases hl:ps.lookup i with
 | none=>rw[hl] at hm;exact hm
 | some p=>
  rw[hl] at hm
  have:(i,p)∈ps:=by
   clear hm h
   induction ps with
   | nil=>cases hl
   | cons x ps ih=>
    obtain⟨k,q⟩:=x
    rw[List.lookup_cons] at hl
    by_cases e:i=k
    ·subst e;simp at hl;subst hl;exact List.mem_cons_self
    ·have e2:(i==k)=V:=by simpa using e
     rw[e2] at hl
     exact List.mem_cons_of_mem _ (ih hl)
  exact h _ this v W W' hm hb
structure fZ (w:World) where
 x:World
 ok:Below w.heap.size w x
def fZ.here (w:World):fZ w:=⟨w,G _ _⟩
instance grwThere (w:World):Nonempty (fZ w):=⟨fZ.here w⟩
def fZ.more {w:World}(g:fZ w){y:World}(h:Below g.x.heap.size g.x y):fZ w:=⟨y,g.ok.trans (h.mono g.ok.size)⟩
theorem fZ.cell {w:World}(g:fZ w){p:Addr}{v:Value}(h:w.cell? p=Z v):g.x.cell? p=Z v:=
 (g.ok.cell (World.block_lt_of_cell? w _ h)).trans h
theorem dj {w y:World}(h:Below w.drew.heap.size w.drew y):Below w.heap.size w y:=⟨h.os,h.tape,h.output,h.size,h.block⟩
theorem ar {P:Program}{id:Nat}{Q:Exit->Act->World->Prop}{a:Act}{w:World}{l:List Oper}(hm:P.follows .mixedOrders=R)(hB:Region.lexB .any l.toArray=R)
 (h:wpQuiet P l.toArray (fun y=>∃ g:fZ w,y=g.x) (fun a'=>∀ y,(∃ g:fZ w,y=g.x)->Q .normal a' y) l a):(Code.region id l.toArray R).wp P Q a w:=
 wp_region_quiet (C:=fun y=>∃ g:fZ w,y=g.x) hm hB ⟨⟨w.drew,(G _ _).drew⟩,rfl⟩ (by simpa using h)
theorem ag {P:Program}{f:FuncId}{args:Array Value}{w:World}{g:fZ w}{v:Value}
 (h:Calls P f args g.x fun e y=>e=.returned v/\Below g.x.heap.size g.x y):Calls P f args g.x fun e y=>e=.returned v/\∃ g':fZ w,y=g'.x:=
 h.mono fun _ _ ⟨he,hb⟩=>⟨he,g.more hb,rfl⟩
theorem rd {P:Program}{f:FuncId}{args:Array Value}{w:World}{g:fZ w}{v:Value}
 (h:Calls P f args g.x fun e y=>e=.returned v/\g.x=y):Calls P f args g.x fun e y=>e=.returned v/\∃ g':fZ w,y=g'.x:=
 h.mono fun _ _ ⟨he,hb⟩=>⟨he,g,hb.symm⟩
end
section
theorem lX (d s t u a k pl p:Int)(hd:0<=d/\d<=7)(hs:0<=s/\s<=7)(ht:0<=t/\t<=7)(hu:0<=u/\u<=7)(ha:0<=a/\a<=7)(k0:0<=k)(k1:k<4294967296):
 au ⟨1,d,s,t,u,a,k,pl⟩ p=(du ⟨1,d,0,0,0,0,k,0⟩ ⟨1,d,s,t,u,a,k,pl⟩):=by
 rw[Bool.eq_iff_iff]
 simp[au,cM,oT,eR,ep,aZ,oV,cH,qC,du]
 omega
theorem lW (d s t u a k pl p:Int)(hd:0<=d/\d<=7)(hs:0<=s/\s<=7)(ht:0<=t/\t<=7)(hu:0<=u/\u<=7)(ha:0<=a/\a<=7)(k0:0<=k)(k1:k<4294967296):
 au ⟨2,d,s,t,u,a,k,pl⟩ p=(du ⟨2,d,s,0,0,0,0,0⟩ ⟨2,d,s,t,u,a,k,pl⟩):=by
 rw[Bool.eq_iff_iff]
 simp[au,cM,oT,eR,ep,aZ,oV,cH,qC,du]
 omega
theorem lV (d s t u a k pl p:Int)(hd:0<=d/\d<=7)(hs:0<=s/\s<=7)(ht:0<=t/\t<=7)(hu:0<=u/\u<=7)(ha:0<=a/\a<=7)(k0:0<=k)(k1:k<4294967296):
 au ⟨3,d,s,t,u,a,k,pl⟩ p=(du ⟨3,d,s,0,0,0,k,0⟩ ⟨3,d,s,t,u,a,k,pl⟩):=by
 rw[Bool.eq_iff_iff]
 simp[au,cM,oT,eR,ep,aZ,oV,cH,qC,du]
 omega
theorem lU (d s t u a k pl p:Int)(hd:0<=d/\d<=7)(hs:0<=s/\s<=7)(ht:0<=t/\t<=7)(hu:0<=u/\u<=7)(ha:0<=a/\a<=7)(k0:0<=k)(k1:k<4294967296):
 au ⟨4,d,s,t,u,a,k,pl⟩ p=(du ⟨4,d,s,0,0,0,k,0⟩ ⟨4,d,s,t,u,a,k,pl⟩):=by
 rw[Bool.eq_iff_iff]
 simp[au,cM,oT,eR,ep,aZ,oV,cH,qC,du]
 omega
theorem j6 (d s t u a k pl p:Int)(hd:0<=d/\d<=7)(hs:0<=s/\s<=7)(ht:0<=t/\t<=7)(hu:0<=u/\u<=7)(ha:0<=a/\a<=7)(k0:0<=k)(k1:k<4294967296):
 au ⟨5,d,s,t,u,a,k,pl⟩ p=(du ⟨5,d,s,0,0,0,k,0⟩ ⟨5,d,s,t,u,a,k,pl⟩ && decide (k<=31)):=by
 rw[Bool.eq_iff_iff]
 simp[au,cM,oT,eR,ep,aZ,oV,cH,qC,du]
 omega
theorem jZ (d s t u a k pl p:Int)(hd:0<=d/\d<=7)(hs:0<=s/\s<=7)(ht:0<=t/\t<=7)(hu:0<=u/\u<=7)(ha:0<=a/\a<=7)(k0:0<=k)(k1:k<4294967296):
 au ⟨6,d,s,t,u,a,k,pl⟩ p=(du ⟨6,d,s,0,0,0,k,0⟩ ⟨6,d,s,t,u,a,k,pl⟩ && decide (k<=31)):=by
 rw[Bool.eq_iff_iff]
 simp[au,cM,oT,eR,ep,aZ,oV,cH,qC,du]
 omega
theorem lT (d s t u a k pl p:Int)(hd:0<=d/\d<=7)(hs:0<=s/\s<=7)(ht:0<=t/\t<=7)(hu:0<=u/\u<=7)(ha:0<=a/\a<=7)(k0:0<=k)(k1:k<4294967296):
 au ⟨7,d,s,t,u,a,k,pl⟩ p=(du ⟨7,d,s,t,0,0,0,0⟩ ⟨7,d,s,t,u,a,k,pl⟩):=by
 rw[Bool.eq_iff_iff]
 simp[au,cM,oT,eR,ep,aZ,oV,cH,qC,du]
 omega
theorem lS (d s t u a k pl p:Int)(hd:0<=d/\d<=7)(hs:0<=s/\s<=7)(ht:0<=t/\t<=7)(hu:0<=u/\u<=7)(ha:0<=a/\a<=7)(k0:0<=k)(k1:k<4294967296):
 au ⟨8,d,s,t,u,a,k,pl⟩ p=(du ⟨8,0,s,t,0,0,0,pl⟩ ⟨8,d,s,t,u,a,k,pl⟩ && (decide (0<=pl) && decide (pl<p))):=by
 rw[Bool.eq_iff_iff]
 simp[au,cM,oT,eR,ep,aZ,oV,cH,qC,du]
 omega
theorem lR (d s t u a k pl p:Int)(hd:0<=d/\d<=7)(hs:0<=s/\s<=7)(ht:0<=t/\t<=7)(hu:0<=u/\u<=7)(ha:0<=a/\a<=7)(k0:0<=k)(k1:k<4294967296):
 au ⟨9,d,s,t,u,a,k,pl⟩ p=(du ⟨9,0,s,t,0,0,0,pl⟩ ⟨9,d,s,t,u,a,k,pl⟩ && (decide (0<=pl) && decide (pl<p))):=by
 rw[Bool.eq_iff_iff]
 simp[au,cM,oT,eR,ep,aZ,oV,cH,qC,du]
 omega
theorem jR (d s t u a k pl p:Int)(hd:0<=d/\d<=7)(hs:0<=s/\s<=7)(ht:0<=t/\t<=7)(hu:0<=u/\u<=7)(ha:0<=a/\a<=7)(k0:0<=k)(k1:k<4294967296):
 au ⟨10,d,s,t,u,a,k,pl⟩ p=(du ⟨10,0,0,0,0,0,0,pl⟩ ⟨10,d,s,t,u,a,k,pl⟩ && (decide (0<=pl) && decide (pl<p))):=by
 rw[Bool.eq_iff_iff]
 simp[au,cM,oT,eR,ep,aZ,oV,cH,qC,du]
 omega
theorem jQ (d s t u a k pl p:Int)(hd:0<=d/\d<=7)(hs:0<=s/\s<=7)(ht:0<=t/\t<=7)(hu:0<=u/\u<=7)(ha:0<=a/\a<=7)(k0:0<=k)(k1:k<4294967296):
 au ⟨11,d,s,t,u,a,k,pl⟩ p=(du ⟨11,d,0,0,0,0,0,0⟩ ⟨11,d,s,t,u,a,k,pl⟩):=by
 rw[Bool.eq_iff_iff]
 simp[au,cM,oT,eR,ep,aZ,oV,cH,qC,du]
 omega
theorem jK (d s t u a k pl p:Int)(hd:0<=d/\d<=7)(hs:0<=s/\s<=7)(ht:0<=t/\t<=7)(hu:0<=u/\u<=7)(ha:0<=a/\a<=7)(k0:0<=k)(k1:k<4294967296):
 au ⟨22,d,s,t,u,a,k,pl⟩ p=(du ⟨22,d,0,0,0,0,0,0⟩ ⟨22,d,s,t,u,a,k,pl⟩):=by
 rw[Bool.eq_iff_iff]
 simp[au,cM,oT,eR,ep,aZ,oV,cH,qC,du]
 omega
theorem iJ (d s t u a k pl p:Int)(hd:0<=d/\d<=7)(hs:0<=s/\s<=7)(ht:0<=t/\t<=7)(hu:0<=u/\u<=7)(ha:0<=a/\a<=7)(k0:0<=k)(k1:k<4294967296):
 au ⟨12,d,s,t,u,a,k,pl⟩ p=(du ⟨12,0,0,0,0,0,k,0⟩ ⟨12,d,s,t,u,a,k,pl⟩ && (decide (1<=k) && decide (k<=4))):=by
 rw[Bool.eq_iff_iff]
 simp[au,cM,oT,eR,ep,aZ,oV,cH,qC,du]
 omega
theorem iI (d s t u a k pl p:Int)(hd:0<=d/\d<=7)(hs:0<=s/\s<=7)(ht:0<=t/\t<=7)(hu:0<=u/\u<=7)(ha:0<=a/\a<=7)(k0:0<=k)(k1:k<4294967296):
 au ⟨13,d,s,t,u,a,k,pl⟩ p=(du ⟨13,0,0,0,0,0,k,0⟩ ⟨13,d,s,t,u,a,k,pl⟩ && decide (k<=3)):=by
 rw[Bool.eq_iff_iff]
 simp[au,cM,oT,eR,ep,aZ,oV,cH,qC,du]
 omega
theorem jP (d s t u a k pl p:Int)(hd:0<=d/\d<=7)(hs:0<=s/\s<=7)(ht:0<=t/\t<=7)(hu:0<=u/\u<=7)(ha:0<=a/\a<=7)(k0:0<=k)(k1:k<4294967296):
 au ⟨16,d,s,t,u,a,k,pl⟩ p=(du ⟨16,d,s,0,0,a,0,0⟩ ⟨16,d,s,t,u,a,k,pl⟩):=by
 rw[Bool.eq_iff_iff]
 simp[au,cM,oT,eR,ep,aZ,oV,cH,qC,du]
 omega
theorem jO (d s t u a k pl p:Int)(hd:0<=d/\d<=7)(hs:0<=s/\s<=7)(ht:0<=t/\t<=7)(hu:0<=u/\u<=7)(ha:0<=a/\a<=7)(k0:0<=k)(k1:k<4294967296):
 au ⟨17,d,s,t,u,a,k,pl⟩ p=(du ⟨17,0,s,t,0,a,0,0⟩ ⟨17,d,s,t,u,a,k,pl⟩):=by
 rw[Bool.eq_iff_iff]
 simp[au,cM,oT,eR,ep,aZ,oV,cH,qC,du]
 omega
theorem jN (d s t u a k pl p:Int)(hd:0<=d/\d<=7)(hs:0<=s/\s<=7)(ht:0<=t/\t<=7)(hu:0<=u/\u<=7)(ha:0<=a/\a<=7)(k0:0<=k)(k1:k<4294967296):
 au ⟨18,d,s,t,u,a,k,pl⟩ p=(du ⟨18,d,s,t,0,a,0,0⟩ ⟨18,d,s,t,u,a,k,pl⟩):=by
 rw[Bool.eq_iff_iff]
 simp[au,cM,oT,eR,ep,aZ,oV,cH,qC,du]
 omega
theorem jM (d s t u a k pl p:Int)(hd:0<=d/\d<=7)(hs:0<=s/\s<=7)(ht:0<=t/\t<=7)(hu:0<=u/\u<=7)(ha:0<=a/\a<=7)(k0:0<=k)(k1:k<4294967296):
 au ⟨19,d,s,t,u,a,k,pl⟩ p=(du ⟨19,d,s,t,u,a,0,0⟩ ⟨19,d,s,t,u,a,k,pl⟩):=by
 rw[Bool.eq_iff_iff]
 simp[au,cM,oT,eR,ep,aZ,oV,cH,qC,du]
 omega
theorem jL (d s t u a k pl p:Int)(hd:0<=d/\d<=7)(hs:0<=s/\s<=7)(ht:0<=t/\t<=7)(hu:0<=u/\u<=7)(ha:0<=a/\a<=7)(k0:0<=k)(k1:k<4294967296):
 au ⟨20,d,s,t,u,a,k,pl⟩ p=(du ⟨20,d,s,0,0,a,k,0⟩ ⟨20,d,s,t,u,a,k,pl⟩):=by
 rw[Bool.eq_iff_iff]
 simp[au,cM,oT,eR,ep,aZ,oV,cH,qC,du]
 omega
theorem gR (d s t u a k pl p:Int)(hd:0<=d/\d<=7)(hs:0<=s/\s<=7)(ht:0<=t/\t<=7)(hu:0<=u/\u<=7)(ha:0<=a/\a<=7)(k0:0<=k)(k1:k<4294967296):
 au ⟨21,d,s,t,u,a,k,pl⟩ p=(du ⟨21,d,s,t,0,a,k,pl⟩ ⟨21,d,s,t,u,a,k,pl⟩ && (decide (k<=1) && (decide (-1<=pl) && (decide (pl=-1) || decide (pl<p))))):=by
 rw[Bool.eq_iff_iff]
 simp[au,cM,oT,eR,ep,aZ,oV,cH,qC,du]
 split <;> omega
theorem jJ (d s t u a k pl p:Int)(hd:0<=d/\d<=7)(hs:0<=s/\s<=7)(ht:0<=t/\t<=7)(hu:0<=u/\u<=7)(ha:0<=a/\a<=7)(k0:0<=k)(k1:k<4294967296):
 au ⟨23,d,s,t,u,a,k,pl⟩ p=(du ⟨23,0,s,0,0,0,0,0⟩ ⟨23,d,s,t,u,a,k,pl⟩):=by
 rw[Bool.eq_iff_iff]
 simp[au,cM,oT,eR,ep,aZ,oV,cH,qC,du]
 omega
theorem eB (i:aN)(p:Int)(h:au i p=R):(0<=i.d/\i.d<=7)/\(0<=i.s/\i.s<=7)/\(0<=i.t/\i.t<=7)/\(0<=i.u/\i.u<=7)/\(0<=i.a/\i.a<=7):=by
 obtain⟨op,d,s,t,u,a,k,pl⟩:=i
 rcases cq op with rfl|rfl|rfl|rfl|rfl|rfl|rfl|rfl|rfl|rfl|rfl|rfl|rfl|rfl|rfl|rfl|rfl|rfl|rfl|rfl|rfl | hn
 rotate_right
 ·have:=dA hn
  unfold au at h
  simp only[this.1] at h
  cases h
 all_goals
  simp[au,cM,oT,eR,ep,aZ,oV,cH,qC] at h
  simp only
  omega
end
section
open Go.ChangeShapes Go.WideShapes Go.ChangeAt Go.RowKit
section
variable {P:Program}{ops:Array Oper}{rest:List Oper}{o:Oper}{a:Act}{w:World}{Q:Exit->Act->World->Prop}
theorem fm (hg:o.guard=O)(t:TypeId)(parts:Array (Nat×Operand))(ho:o.op=.build t parts)(cs:Array Value)
 (hf:P.built t (parts.map fun(i,x)=>(i,a.eval x)).toList=Z cs) (h:wpList P ops Q rest (a.put o.dst (.agg cs)) w):wpList P ops Q (o :: rest) a w:=
 wpList_build hg t parts ho (by rw[hf];rfl) (by rw[hf];exact h)
theorem eS (hgd:o.guard=O)(ty:TypeId)(x y:Operand)(ho:o.op=.store ty x y)(old cells:Array Value)(hx:a.eval x=.pointer (Z ⟨w.heap.size,0,O⟩))(hy:a.eval y=.agg cells)
 (hi:(P.info? ty).map (·.size)=Z cells.size) (hold:old.size=cells.size) (h1:cells.all (·.oneCell')=R)
 (h:wpList P ops Q rest (a.put o.dst M) (w.alloc (.cells cells ty))):wpList P ops Q (o :: rest) a (w.alloc (.cells old ty)):=
 wpList_store_row hgd ty x y ho w.heap.size cells hx hy ty old (heap_alloc_new w _) hi hold h1 (by rw[World.setRow_alloc_new];exact h)
end
end
section
def gT (n:Nat):List Int:=List.replicate n 0
theorem uD (n:Nat):fC (gT n):=by
 intro x hx
 obtain⟨_,rfl⟩:=List.mem_replicate.1 hx
 omega
theorem ku (n:Nat):(gT n).length=n:=List.length_replicate
end
section
open Go.ChangeShapes Go.WideShapes Go.ChangeAt Go.RowKit Go.Deep
def BR (w:World)(a:Option Addr)(len S:Nat)(what:Nat->Value->Prop):Prop:=
 0<len->∃ b off,a=Z ⟨b,off,O⟩/\b<w.heap.size/\∀ i,i<len->∀ j,j<S->∃ u,w.cell? ⟨b,off+i*S+j,O⟩=Z u/\what j u
theorem BR.at_ {w:World}{a:Option Addr}{len S:Nat}{what:Nat->Value->Prop}(h:BR w a len S what){i:Nat}(hi:i<len){wr:World}(hb:Below w.heap.size w wr):
 ∃ b off,a=Z ⟨b,off,O⟩/\∀ j,j<S->∃ u,wr.cell? ⟨b,off+i*S+j,O⟩=Z u/\what j u:=by
 obtain⟨b,off,e,hlt,hc⟩:=h (by omega)
 refine⟨b,off,e,fun j hj=>?_⟩
 obtain⟨u,hu,hw⟩:=hc i hi j hj
 exact⟨u,(hb.cell (p:=⟨b,off+i*S+j,O⟩) hlt).trans hu,hw⟩
section
variable {H:Type}{enc:TypeId×Value->H}{P:Program}{w:World}{base:Nat}{spare:Nat->Bool}{held:Bool}
theorem lK {e:TypeId}{ds:List (DataW H)}{d:DataW H}(h:d∈ds):∀ q∈d.weights P e,q∈DataW.weightsAll P e ds:=by
 intro q hq
 induction ds with
 | nil=>simp at h
 | cons d' r ih=>
  simp only[DataW.weightsAll,List.mem_append]
  rcases List.mem_cons.1 h with rfl | h
  ·exact .inl hq
  ·exact .inr (ih h)
theorem lp {ts:List TypeId}{ds:List (DataW H)}{j:Nat}{t:TypeId}{d:DataW H}(ht:ts[j]?=Z t)(hd:ds[j]?=Z d):∀ q∈d.weights P t,q∈DataW.weightsEach P ts ds:=by
 intro q hq
 induction ts generalizing ds j with
 | nil=>simp at ht
 | cons t0 ts ih=>
  cases ds with
  | nil=>simp at hd
  | cons d0 ds=>
   simp only[DataW.weightsEach,List.mem_append]
   cases j with
   | zero=>
    simp only[List.getElem?_cons_zero,Option.some.injEq] at ht hd
    subst ht;subst hd
    exact .inl hq
   | succ j=>exact .inr (ih (by simpa using ht) (by simpa using hd))
theorem qq {t e:TypeId}{fs:Array Field}{fuel:Nat}{a:Option Addr}{len cap:Nat}{x:DataW H×List MemPlace}(ht:P.underlying t=Z (.slice e))(he:P.underlying e=Z (.struct fs))
 (hone:oneCellFields P fs=R) (hC:P.cellsOf e=fs.size) (h0:0<fs.size) (h:DataW.trod enc P w base spare held fuel t [U a len cap]=Z x):
 len<=maxLen/\BR w a len fs.size (fun j u=>∀ f,fs[j]?=Z f->∃ n y,DataW.trod enc P w base spare held n f.type [u]=Z y/\∀ q∈y.1.weights P f.type,q∈x.1.weights P t):=by
 rcases open_slice ht h with ⟨hcs,_⟩ | ⟨ad,l,c,m,n,D,Pl,hcs,_,hl,hm,hmm,hX,hx⟩
 ·simp only[List.cons.injEq,Value.slice.injEq,and_true] at hcs
  obtain⟨rfl,rfl,rfl⟩:=hcs
  exact⟨by simp,fun hh=>absurd hh (by omega)⟩
 ·simp only[List.cons.injEq,Value.slice.injEq,and_true] at hcs
  obtain⟨rfl,rfl,rfl⟩:=hcs
  refine⟨by omega,fun hlen=>?_⟩
  have hml:len<=m:=by rw[hmm];split <;> omega
  have hcell:∀ i,i<len->∀ j,j<fs.size->∃ u,w.cell? (ad.add (i*fs.size+j))=Z u/\∀ f,fs[j]?=Z f->∃ n y,DataW.trod enc P w base spare held n f.type [u]=Z y/\∀ q∈y.1.weights P f.type,q∈x.1.weights P t:=by
   intro i hi j hj
   obtain⟨cs',hc,ht'⟩:=hx i (by omega)
   rw[hC] at hc
   obtain⟨ys,n',_,hys,hlen',hyl,hf⟩:=DataW.trod_struct he ht'
   obtain⟨_,hcl,hat⟩:=World.cells?_some hc
   have hjc:j<cs'.length:=by omega
   refine⟨cs'[j],?_,fun f hj'=>?_⟩
   ·have:=hat j hj
    rw[Go.Deep.add_add] at this
    rw[this,List.getElem?_eq_getElem hjc]
   ·obtain⟨ho,hk⟩:=hone_of hone j f hj'
    have h1:=hf j f hj'
    rw[ho,hk,List.drop_eq_getElem_cons hjc] at h1
    have hyj:j<ys.length:=by omega
    refine⟨n',_,h1.trans (List.getElem?_eq_getElem hyj),fun q hq=>?_⟩
    rw[hX]
    simp only[DataW.weights,ht,List.mem_cons,List.mem_append]
    right;left
    refine lK (d:=D i) (List.mem_map.2 ⟨i,List.mem_range.2 hi,rfl⟩) q ?_
    have hD:D i=.agg (ys.map (·.1)):=by injection hys
    rw[hD]
    simp only[DataW.weights,he]
    refine lp (j:=j) (t:=f.type) (d:=ys[j].1) ?_ ?_ q hq
    ·rw[List.getElem?_map,Array.getElem?_toList,hj'];rfl
    ·rw[List.getElem?_map,List.getElem?_eq_getElem hyj];rfl
  obtain⟨u0,hu0,_⟩:=hcell 0 hlen 0 h0
  have e0:ad.add (0*fs.size+0)=ad:=by unfold Addr.add;simp
  rw[e0] at hu0
  obtain⟨_,_,_,_,hsp⟩:=World.shape?_of_cell? hu0
  obtain⟨b,off,sp⟩:=ad
  simp only at hsp
  subst hsp
  refine⟨b,off,rfl,World.block_lt_of_cell? w _ hu0,fun i hi j hj=>?_⟩
  obtain⟨u,hu,hw⟩:=hcell i hi j hj
  refine⟨u,?_,hw⟩
  have e1:(⟨b,off,O⟩:Addr).add (i*fs.size+j)=⟨b,off+i*fs.size+j,O⟩:=by
   rw[Nat.add_assoc];unfold Addr.add;split
   ·rename_i hz;rw[hz];rfl
   ·rfl
  rw[<-e1];exact hu
theorem vb {t e:TypeId}{fs:Array Field}{fuel:Nat}{a:Option Addr}{len cap:Nat}{x:DataW H×List MemPlace}(ht:P.underlying t=Z (.slice e))(he:P.underlying e=Z (.struct fs))
 (hone:oneCellFields P fs=R) (hC:P.cellsOf e=fs.size) (h0:0<fs.size) (h:DataW.trod enc P w base spare held fuel t [U a len cap]=Z x):
 len<=maxLen/\BR w a len fs.size (fun j u=>∀ f,fs[j]?=Z f->∃ n y,DataW.trod enc P w base spare held n f.type [u]=Z y):=by
 obtain⟨hl,hr⟩:=qq ht he hone hC h0 h
 refine⟨hl,fun h1=>?_⟩
 obtain⟨b,off,e,hlt,hc⟩:=hr h1
 refine⟨b,off,e,hlt,fun i hi j hj=>?_⟩
 obtain⟨u,hu,hw⟩:=hc i hi j hj
 exact⟨u,hu,fun f hf=>by obtain⟨n,y,hy,_⟩:=hw f hf;exact⟨n,y,hy⟩⟩
end
end
