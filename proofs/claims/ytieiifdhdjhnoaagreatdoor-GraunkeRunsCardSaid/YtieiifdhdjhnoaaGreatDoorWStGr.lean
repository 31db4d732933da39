import Derived.Test.YtieiifdhdjhnoaaGreatDoorWEyB
import Derived.Test.YtieiifdhdjhnoaaGreatDoorWEyD3
import Derived.Test.YtieiifdhdjhnoaaGreatDoorWEyE2
import Derived.Test.YtieiifdhdjhnoaaGreatDoorWEyE6
import Derived.Test.YtieiifdhdjhnoaaGreatDoorWEyF
import Derived.Test.YtieiifdhdjhnoaaGreatDoorWRuD
import Derived.Test.YtieiifdhdjhnoaaGreatDoorWEyN
import Derived.Test.YtieiifdhdjhnoaaGreatDoorWCell
import Derived.Test.YtieiifdhdjhnoaaGreatDoorWMem
import Derived.Test.YtieiifdhdjhnoaaGreatDoorWAsmF
import Derived.Test.YtieiifdhdjhnoaaGreatDoorWAsmD
import Derived.Test.YtieiifdhdjhnoaaGreatDoorWExG
import Derived.Test.YtieiifdhdjhnoaaGreatDoorWWdB
import Derived.BigQuiet
import Derived.Deep.CutBlock
import Derived.Deep.QuietTactic
import Derived.Deep.DeepCutAuto
import Derived.ProofKit
import Derived.OpenShut
import Derived.Lib.SmallJoins
import Derived.ArgAppend
set_option linter.unusedVariables false
set_option maxRecDepth 100000
open Option renaming none->I,some->Q
namespace Go.Proofs.YtieiifdhdjhnoaaGreatDoor
section
open Go.ChangeShapes Go.WideShapes Go.ChangeAt Go.RowKit
def pU (i:aN):Bool:=decide (i.op≠19) && (decide (i.op≠20) && (decide (i.op≠22) && (decide (i.op≠23) && ((decide (i.op≠21) || decide (i.pl<0))))))
theorem Am {k:Lk}(hq:k.l.all pU=true):zC k:=by
 intro w Y m t L h ht
 cases hm:iq k (m.cs t).pc with
 | none=>
  rw[nZ hm]
  exact DZ h t ht _ hm
 | some i=>
  have hop:=(h.lk.DS hm).op
  have hi:pU i=true:=List.all_eq_true.1 hq i (List.mem_of_getElem? (fg hm).2.2.1)
  simp only[pU,Bool.and_eq_true,Bool.or_eq_true,decide_eq_true_eq] at hi
  obtain⟨h19,h20,h22,h23,h21p⟩:=hi
  cases hf:fc k.zs i.a (aF (m.cs t).xs i.s.toNat) with
  | none=>exact Aa h t ht _ L hm ⟨h22,h23⟩ hf
  | some A=>
   by_cases h16:i.op=16
   ·exact Co h t ht _ L hm h16 hf
   by_cases h17:i.op=17
   ·exact Ab h t ht _ L hm h17 hf
   by_cases h18:i.op=18
   ·exact Cn h t ht _ L hm h18 hf
   have h21:i.op=21:=by omega
   have hl:i.pl<0:=by
    rcases h21p with e | e
    ·exact absurd h21 e
    ·exact e
   cases hh:(decide (aF m.ws A=aF (m.cs t).xs i.t.toNat) != decide (i.k=1)) with
   | true=>exact qh h t ht _ L hm h21 hf hh
   | false=>
    exact oZ h t ht L hm h21 hf hh (.inr hl)
structure DU where
 kd:Int
 t:Int
 L:Int
def DU.op (x:DU):FQ:=⟨x.kd,x.t,decide (x.L≠0)⟩
def rF (base:Nat)(w:World)(a:Option Addr)(l:List DU):Prop:=
 0<l.length->∃ b off,a=Q ⟨b,off,I⟩/\b<base/\∀ i x,l[i]?=Q x->w.cell? ⟨b,off+i*3,I⟩=Q (.int .i64 x.kd)/\w.cell? ⟨b,off+i*3+1,I⟩=Q (.int .i64 x.t)/\w.cell? ⟨b,off+i*3+2,I⟩=Q (.int .i64 x.L)
theorem rF.within {base:Nat}{w w':World}{a:Option Addr}{l:List DU}{S:Nat->Prop}(h:rF base w a l)(hw:ab w w' S)(hb:base<=w.heap.size)(hs:∀ i,S i->base<=i):rF base w' a l:=by
 intro h0
 obtain⟨b,off,e,h1,h2⟩:=h h0
 have hk:∀ j,w'.cell? ⟨b,j,I⟩=w.cell? ⟨b,j,I⟩:=fun j=>by
  have:=hw.block b (Nat.lt_of_lt_of_le h1 hb) (fun e=>by have:=hs b e;omega)
  unfold World.cell?
  simp only[this]
 refine⟨b,off,e,h1,fun i x hx=>?_⟩
 obtain⟨c0,c1,c2⟩:=h2 i x hx
 exact⟨(hk _).trans c0,(hk _).trans c1,(hk _).trans c2⟩
structure zT (w:World)(k:Lk)(X:XP)(Y:YP)(m1 m2:Mc)(W:World):Prop where
 ex:Ex W X k m1
 ey:Ey W Y k m2
 bel:Below w.heap.size w W
 ap:∀ i,X.Own k.n i->¬ Y.Own k.n i
 gx:∀ i,X.Own k.n i->w.heap.size<=i
 gy:∀ i,Y.Own k.n i->w.heap.size<=i
section
variable {w W W':World}{k:Lk}{X X':XP}{Y Y':YP}{m1 m2 m':Mc}
theorem zT.below (h:zT w k X Y m1 m2 W)(hb:Below W.heap.size W W'):zT w k X Y m1 m2 W':=⟨h.ex.below hb,h.ey.below hb,h.bel.trans (hb.mono h.bel.size),h.ap,h.gx,h.gy⟩
theorem zT.x (h:zT w k X Y m1 m2 W)(e:Ex W' X' k m')(s:bc W k.n X W' X'):zT w k X' Y m' m2 W':=by
 obtain⟨b1,b2⟩:=qj h.bel h.gx s
 refine⟨e,h.ey.kept s.1 (fun i hi hx=>h.ap i (XP.i4 hx) hi),b1,fun i hi hy=>?_,b2,h.gy⟩
 rcases s.2.1 i hi with q | q
 ·exact h.ap i q hy
 ·have:=h.ey.lt hy;omega
theorem zT.y (h:zT w k X Y m1 m2 W)(e:Ey W' Y' k m')(s:bC W k.n Y W' Y'):zT w k X Y' m1 m' W':=by
 refine⟨h.ex.kept s.1 (fun i hi hy=>h.ap i hi hy),e,⟨s.1.os.trans h.bel.os,s.1.tape.trans h.bel.tape,s.1.output.trans h.bel.output,Nat.le_trans h.bel.size s.1.size,fun i hi=>(s.1.block i (Nat.lt_of_lt_of_le hi h.bel.size) (fun e=>by have:=h.gy i e;omega)).trans (h.bel.block i hi)⟩,fun i hi hy=>?_,h.gx,fun i hi=>?_⟩
 ·rcases s.2.1 i hy with q | q
  ·exact h.ap i hi q
  ·have:=h.ex.lt hi;omega
 ·rcases s.2.1 i hi with q | q
  ·exact h.gy i q
  ·exact Nat.le_trans h.bel.size q
end
end
section
open Go.Joins Go.ChangeShapes Go.WideShapes Go.ChangeAt Go.RowKit Go.Deep
theorem vd {H:Type}{enc:TypeId×Value->H}{W:World}{base:Nat}{sp:Nat->Bool}{held:Bool}{fuel:Nat}{a:Option Addr}{len cap:Nat}{x:DataW H×List MemPlace}
 (hf:DataW.trod enc Tryz.prog W base sp held fuel 44 [.slice a len cap]=Q x):∃ l:List DU,len=l.length/\rF W.heap.size W a l/\l.length<=maxLen:=by
 obtain⟨hle,hr⟩:=vb Tryz.underlying44 Tryz.underlying58 (by kernel_rfl) (by kernel_rfl) (by decide) hf
 by_cases h0:0<len
 ·obtain⟨b,off,rfl,hlt,hc⟩:=hr h0
  have one:∀ i,i<len->∃ x:DU,W.cell? ⟨b,off+i*3,I⟩=Q (.int .i64 x.kd)/\W.cell? ⟨b,off+i*3+1,I⟩=Q (.int .i64 x.t)/\W.cell? ⟨b,off+i*3+2,I⟩=Q (.int .i64 x.L):=by
   intro i hi
   have get:∀ j,j<3->∃ n:Int,W.cell? ⟨b,off+i*3+j,I⟩=Q (.int .i64 n):=by
    intro j hj
    obtain⟨u,hu,hw⟩:=hc i hi j hj
    match j,hj with
    | 0,_=>obtain⟨n,y,hy⟩:=hw _ rfl;obtain⟨x,e,_,wx⟩:=DataW.trod_int Tryz.underlying3 hy;simp at e;subst e;exact⟨x,hu⟩
    | 1,_=>obtain⟨n,y,hy⟩:=hw _ rfl;obtain⟨x,e,_,wx⟩:=DataW.trod_int Tryz.underlying3 hy;simp at e;subst e;exact⟨x,hu⟩
    | 2,_=>obtain⟨n,y,hy⟩:=hw _ rfl;obtain⟨x,e,_,wx⟩:=DataW.trod_int Tryz.underlying3 hy;simp at e;subst e;exact⟨x,hu⟩
   obtain⟨k,hk⟩:=get 0 (by omega)
   obtain⟨t,ht⟩:=get 1 (by omega)
   obtain⟨n,hn⟩:=get 2 (by omega)
   exact⟨⟨k,t,n⟩,hk,ht,hn⟩
  obtain⟨l,hl,hp⟩:=uh len one
  subst hl
  exact⟨l,rfl,fun _=>⟨b,off,rfl,hlt,fun k x hk=>hp k x hk⟩,hle⟩
 ·obtain rfl:len=0:=by omega
  exact⟨[],rfl,fun h=>by simp at h,by simp⟩
theorem xH {H:Type}{enc:TypeId×Value->H}{W:World}{base b0:Nat}{sp:Nat->Bool}{held:Bool}{r:Reach}{v:Value}{d:DataW H}{ps:List MemPlace}
 (hval:Value.okWide Tryz.prog W r b0 44 v) (h:DataW.Trod enc Tryz.prog W base sp held 44 v d ps):
 ∃ (l:List DU) (a:Option Addr) (cap:Nat),v=.slice a l.length cap/\rF W.heap.size W a l/\l.length<=maxLen:=by
 obtain⟨a,len,cap,rfl⟩:=okWide_slice Tryz.underlying44 hval
 obtain⟨fuel,hf⟩:=h
 obtain⟨l,rfl,h1,h2⟩:=vd (by simpa [Value.cells] using hf)
 exact⟨l,a,cap,rfl,h1,h2⟩
theorem rF.grow {B B':Nat}{w w':World}{a:Option Addr}{l:List DU}(h:rF B w a l)(hw:Below B w w')(hB:B<=w.heap.size)(hBB:B<=B'):rF B' w' a l:=by
 intro h0
 obtain⟨b,off,e,h1,h2⟩:=h h0
 have hk:∀ j,w'.cell? ⟨b,j,I⟩=w.cell? ⟨b,j,I⟩:=fun j=>by
  have:=hw.block b h1
  unfold World.cell?
  simp only[this]
 refine⟨b,off,e,Nat.lt_of_lt_of_le h1 hBB,fun i x hx=>?_⟩
 obtain⟨c0,c1,c2⟩:=h2 i x hx
 exact⟨(hk _).trans c0,(hk _).trans c1,(hk _).trans c2⟩
end
section
open Go.ChangeShapes Go.WideShapes Go.ChangeAt Go.RowKit
theorem Ex.pH {w:World}{k:Lk}{X:XP}{m:Mc}{g:Nat}{t:TypeId}{cs:Array Value}(h:Ex w X k m)(hb:Bk w g t cs)
 (t1:t≠104) (t2:t≠117) (t3:t≠107) (t4:t≠167) (t5:t≠221) (t6:t≠225) (t7:t≠3) (t8:t≠172) (t9:t≠173) (ta:t≠253) (tb:t≠70):¬ X.Own k.n g:=by
 obtain⟨fr,os,c,hp,hs⟩:=h.dV
 rintro(e | e | e | e | e | e | e | e | e | e)
 ·exact Bk.aj h.ptr hb (fun e=>t1 e.symm) e.symm
 ·obtain⟨cs',hcs⟩:=bf h.code e
  exact Bk.aj hcs hb (fun e=>t2 e.symm) rfl
 ·exact Bk.aj h.cores hb (fun e=>t3 e.symm) e.symm
 ·exact Bk.aj h.mem.ptr hb (fun e=>t4 e.symm) e.symm
 ·exact Bk.aj h.mem.cel.ptr hb (fun e=>t5 e.symm) e.symm
 ·exact Bk.aj h.mem.cel.row hb (fun e=>t6 e.symm) e.symm
 ·exact Bk.aj h.mem.row hb (fun e=>t7 e.symm) e.symm
 ·exact Bk.aj hp.ptr hb (fun e=>t8 e.symm) e.symm
 ·exact Bk.aj hp.row hb (fun e=>t9 e.symm) e.symm
 ·exact hp.dz hb ta tb e
theorem Fw {w:World}{k:Lk}{Y:YP}{m:Mc}{g:Nat}{cs:Array Value}(h:Ey w Y k m)(hb:Bk w g 58 cs):¬ Y.Own k.n g:=by
 rintro(e | e | e | e | e | e | e)
 ·exact Bk.aj h.ptr hb (by decide) e.symm
 ·obtain⟨cs',hcs⟩:=bf h.code e
  exact Bk.aj hcs hb (by decide) rfl
 ·obtain⟨cs',hcs⟩:=bf h.cells e
  exact Bk.aj hcs hb (by decide) rfl
 ·obtain⟨cs',hcs⟩:=h.words.bk e
  exact Bk.aj hcs hb (by decide) rfl
 ·exact Bk.aj h.dV.ptr hb (by decide) e.symm
 ·obtain⟨cs',hcs⟩:=bf h.cores e
  exact Bk.aj hcs hb (by decide) rfl
 ·exact Rf.dz h.dV hb (by decide) (by decide) e
section
variable {w w5 w7 z0:World}{k:Lk}{X:XP}{Y:YP}{m m1 m2:Mc}{qb:Nat}{cs:Array Value}
theorem Af (bw:Below w.heap.size w w5)(hX:Ex w5 X k m1)(hXO:∀ i,X.Own k.n i->w.heap.size<=i)(hY:Ey w7 Y k m2)(h7:Below w5.heap.size w5 w7)
 (hYO:∀ i,Y.Own k.n i->w.heap.size<=i/\(Y.cv.ownBlock=Q i\/w5.heap.size<=i)):zT w k X Y m1 m2 w7:=by
 refine⟨hX.below h7,hY,bw.trans (h7.mono bw.size),fun i hi hy=>?_,hXO,fun i hi=>(hYO i hi).1⟩
 rcases(hYO i hy).2 with e | e
 ·obtain⟨cs,hcs⟩:=bf hY.code e
  exact(hX.below h7).pH hcs (by decide) (by decide) (by decide) (by decide) (by decide) (by decide) (by decide) (by decide) (by decide) (by decide) (by decide) hi
 ·have:=hX.lt hi;omega
def i8 (w z0:World)(k:Lk)(X:XP)(Y:YP)(m m':Mc)(qb:Nat)(cs:Array Value)(j:Nat)(V:World):Prop:=
 Bk V qb 58 cs/\z0.heap.size<=V.heap.size/\(match j with
  | 0=>Below z0.heap.size z0 V
  | 1=>∃ M3,zT w k { X with M:=M3 } Y m' m V
  | _=>∃ M3 Y4,Y4.y=Y.y/\zT w k { X with M:=M3 } Y4 m' m' V)
theorem i8.below {m':Mc}{j:Nat}{V V2:World}(h:i8 w z0 k X Y m m' qb cs j V)(hb:Below V.heap.size V V2):i8 w z0 k X Y m m' qb cs j V2:=by
 obtain⟨h1,h2,h3⟩:=h
 refine⟨(hb.block _ h1.lt).trans h1,Nat.le_trans h2 hb.size,?_⟩
 match j,h3 with
 | 0,h=>exact h.trans (hb.mono h2)
 | 1,⟨M3,h⟩=>exact⟨M3,h.below hb⟩
 | _+2,⟨M3,Y4,e,h⟩=>exact⟨M3,Y4,e,h.below hb⟩
def wO (z0:World)(j:Nat)(V V':World):Prop:=j<2/\ab V V' (fun i=>i<z0.heap.size)
def iG (z0:World)(o:Ot)(_:Nat)(v:Value)(V:World):Prop:=∃ a,v=zP a o/\dH z0.heap.size V a o.ms
def iF (o:Ot)(j:Nat)(v:Value)(V:World):Prop:=2<=j/\∃ b,v=BJ b o/\eH .i64 3 V b o.ms
theorem iG.below {o:Ot}{j:Nat}{v:Value}{V V2:World}(h:iG z0 o j v V)(hb:Below V.heap.size V V2):iG z0 o j v V2:=by
 obtain⟨a,e,h⟩:=h
 exact⟨a,e,h.within (ay hb) (by simp)⟩
theorem iF.below {o:Ot}{j:Nat}{v:Value}{V V2:World}(h:iF o j v V)(hb:Below V.heap.size V V2):iF o j v V2:=by
 obtain⟨h2,b,e,h⟩:=h
 exact⟨h2,b,e,h.within (ay hb) (by simp)⟩
theorem iG.keep {o:Ot}{j:Nat}{v:Value}{V V2:World}(h:iG z0 o j v V)(hs:wO z0 j V V2):iG z0 o (j+1) v V2:=by
 obtain⟨a,e,h⟩:=h
 exact⟨a,e,h.within hs.2 (fun g e hg=>by have:=h.2 g e;omega)⟩
theorem iF.keep {o:Ot}{j:Nat}{v:Value}{V V2:World}(h:iF o j v V)(hs:wO z0 j V V2):iF o (j+1) v V2:=by
 have h1:=h.1
 have h2:=hs.1
 omega
theorem zG {f:FuncId}{args:Array Value}{r:Mc×Ot}(h:zT w k X Y m m z0)(hC:∀ V,Ex V X k m->Calls Tryz.prog f args V (zY V X k r))(V:World)(hV:i8 w z0 k X Y m r.1 qb cs 0 V):
 Calls Tryz.prog f args V (fun e zz=>∃ v,e=.returned v/\iG z0 r.2 1 v zz/\i8 w z0 k X Y m r.1 qb cs 1 zz/\wO z0 0 V zz):=by
 obtain⟨hq,hz,hb⟩:=hV
 have hT:=h.below hb
 refine(hC V hT.ex).mono ?_
 rintro e zz ⟨a,M3,rfl,hl,hx,hs⟩
 exact⟨_,rfl,⟨a,rfl,hl.mono hz⟩,⟨Bk.within hq hs.1 (fun e=>hT.ex.pH hq (by decide) (by decide) (by decide) (by decide) (by decide) (by decide) (by decide) (by decide) (by decide) (by decide) (by decide) (XP.i4 e)),Nat.le_trans hz hs.1.size,M3,hT.x hx hs⟩,by omega,hs.1.wide (fun i hi _=>h.ex.lt (XP.i4 hi))⟩
theorem zF {f:FuncId}{args:Array Value}{m':Mc}{o:Ot}(h:zT w k X Y m m z0)(hC:∀ V,Ey V Y k m->Calls Tryz.prog f args V (eP V Y k (m',o)))(V:World)(hV:i8 w z0 k X Y m m' qb cs 1 V):
 Calls Tryz.prog f args V (fun e zz=>∃ v,e=.returned v/\iF o 2 v zz/\i8 w z0 k X Y m m' qb cs 2 zz/\wO z0 1 V zz):=by
 obtain⟨hq,hz,M3,hT⟩:=hV
 refine(hC V hT.ey).mono ?_
 rintro e zz ⟨b,Y4,rfl,hl,hy,hs⟩
 exact⟨_,rfl,⟨Nat.le_refl _,b,rfl,hl⟩,⟨Bk.within hq hs.1 (Fw hT.ey hq),Nat.le_trans hz hs.1.size,M3,Y4,hs.2.2,hT.y hy hs⟩,by omega,hs.1.wide (fun i hi _=>h.ey.lt hi)⟩
theorem mS {o:Ot}{j:Nat}{a b:Value}{V:World}(ha:iG z0 o j a V)(hb:iF o j b V):Calls Tryz.prog 21 #[a,b] V fun e w'=>e=.returned (.bool true)/\Below V.heap.size V w':=by
 obtain⟨a,rfl,ha⟩:=ha
 obtain⟨_,b,rfl,hb⟩:=hb
 exact AY V o a b ha.1 hb
end
end
