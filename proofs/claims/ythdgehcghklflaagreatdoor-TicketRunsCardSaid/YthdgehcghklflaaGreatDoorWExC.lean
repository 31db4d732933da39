import Derived.Test.YthdgehcghklflaaGreatDoorWAsmD
import Derived.Test.YthdgehcghklflaaGreatDoorWRecs
import Derived.Test.YthdgehcghklflaaGreatDoorWCoreV
import Derived.Deep.RegionHeld3
import Derived.Deep.DeepCutAuto
import Derived.BigQuiet
import Derived.Deep.QuietTactic
set_option linter.unusedVariables false
set_option maxHeartbeats 4000000
set_option maxRecDepth 100000
open Go.Value renaming int->I,slice->U,pointer->K
open Go.IntKind renaming i64->Q,u32->O
open Option renaming none->Z,some->P
open Bool renaming false->T
open Go.Obj renaming cells->J
open Go.Lib renaming hid->H
open Go.RowKit.Below renaming refl->G
open Nat renaming le_refl->F
open Go renaming undef->C
namespace Go.Proofs.YthdgehcghklflaaGreatDoor
open Go.ChangeShapes Go.WideShapes Go.ChangeAt Go.RowKit
structure jd (w x:World)(n:Nat)(xs:List Int)(pc:Int)(i:aJ)(o:Ot):Prop where
 c:Cb x n xs pc
 i:Ib x (n+1) i
 r:Cb x (n+1+1) [0,0,0,0,0,0,0,0] 0
 e:Bk x (n+1+1+1) 64 #[U Z 0 0,I Q 0,I Q 0,.bool T,.bool T,I Q 0]
 o:Bk x (n+1+1+1+1) 64 #[U Z 0 0,I Q o.done,I Q o.addr,.bool o.wrote,.bool o.stay,I Q o.e]
theorem jd.within {w x y:World}{n:Nat}{xs:List Int}{pc:Int}{i:aJ}{o:Ot}{S:Nat->Prop}(h:jd w x n xs pc i o)(hw:ab x y S)(hn:∀ j,n<=j->¬ S j):jd w y n xs pc i o:=
 ⟨Bk.within h.c hw (hn _ (by omega)),Bk.within h.i hw (hn _ (by omega)),Bk.within h.r hw (hn _ (by omega)),h.e.within hw (hn _ (by omega)),h.o.within hw (hn _ (by omega))⟩
theorem jd.cells {w x:World}{n:Nat}{xs:List Int}{pc:Int}{i:aJ}{o:Ot}(h:jd w x n xs pc i o):
 x.cell? ⟨n+1+1+1+1,0,Z⟩=P (U Z 0 0)/\x.cell? ⟨n+1+1+1+1,1,Z⟩=P (I Q o.done)/\x.cell? ⟨n+1+1+1+1,2,Z⟩=P (I Q o.addr)/\
 x.cell? ⟨n+1+1+1+1,3,Z⟩=P (.bool o.wrote)/\x.cell? ⟨n+1+1+1+1,4,Z⟩=P (.bool o.stay)/\x.cell? ⟨n+1+1+1+1,5,Z⟩=P (I Q o.e):=
 ⟨h.o.cell 0,h.o.cell 1,h.o.cell 2,h.o.cell 3,h.o.cell 4,h.o.cell 5⟩
def Fm (w:World)(p q g s:Nat)(zs:List Int)(A:Ac)(a:Nat)(e:Ending)(w':World):Prop:=
 e=.returned (.tuple #[cv A.c.xs A.c.pc,zC (U Z 0 0) ⟨[],-1,a,A.wrote,A.stay,0⟩])/\Mm w' p q g s zs A.ws/\fE w w' g
def Dm (w:World)(pc:Int)(i:aJ)(a:Nat)(p q g s:Nat)(zs:List Int)(A:Ac)(y:World):Prop:=
 ∃ xs' wr,xs'.length=8/\jd w y w.heap.size xs' pc i ⟨[],-1,a,wr,T,0⟩/\Mm y p q g s zs A.ws/\fE w y g/\Hid (A.c=⟨xs',pc+1⟩/\A.wrote=wr/\A.stay=T)
structure pN (n p q g s:Nat):Prop where
 p:p<n
 q:q<n
 g:g<n
 s:s<n
section
variable {w y y':World}{xs:List Int}{pc:Int}{i:aJ}{o:Ot}{p q g s:Nat}{zs ws ys:List Int}
theorem jN (hI:jd w y w.heap.size xs pc i o)(hM:Mm y p q g s zs ws)(hG:fE w y g)(hA:pN w.heap.size p q g s){b:Nat}(hb:w.heap.size<=b)(j:Nat)(u:Value):
 Mm (y.setCell ⟨b,j,Z⟩ u) p q g s zs ws/\fE w (y.setCell ⟨b,j,Z⟩ u) g:=by
 obtain⟨a1,a2,a3,a4⟩:=hA
 refine⟨hM.within (S:=fun i=>i=b) ((ab.refl y _).put b j u (.inl rfl)) (by omega) (by omega) (by omega) (by omega),aQ hG (dt y b j u) (.inr fun x e=>by injection e with e;omega)⟩
theorem Bc (hI:jd w y w.heap.size xs pc i o)(h8:xs.length=8){d:Nat}(hd:d<8)(v:Int):jd w (y.setCell ⟨w.heap.size,d,Z⟩ (I O v)) w.heap.size (xs.set d v) pc i o:=
 ⟨hI.c.set h8 hd v,Bk.off hI.i (p:=⟨w.heap.size,d,Z⟩) (by show w.heap.size+1≠w.heap.size;omega) _,Bk.off hI.r (p:=⟨w.heap.size,d,Z⟩) (by show w.heap.size+1+1≠w.heap.size;omega) _,Bk.off hI.e (p:=⟨w.heap.size,d,Z⟩) (by show w.heap.size+1+1+1≠w.heap.size;omega) _,Bk.off hI.o (p:=⟨w.heap.size,d,Z⟩) (by show w.heap.size+1+1+1+1≠w.heap.size;omega) _⟩
theorem oI (hI:jd w y w.heap.size xs pc i o)(b:Bool):jd w (y.setCell ⟨w.heap.size+1+1+1+1,3,Z⟩ (.bool b)) w.heap.size xs pc i { o with wrote:=b }:=
 ⟨Bk.off hI.c (p:=⟨w.heap.size+1+1+1+1,3,Z⟩) (by show w.heap.size≠w.heap.size+1+1+1+1;omega) _,Bk.off hI.i (p:=⟨w.heap.size+1+1+1+1,3,Z⟩) (by show w.heap.size+1≠w.heap.size+1+1+1+1;omega) _,Bk.off hI.r (p:=⟨w.heap.size+1+1+1+1,3,Z⟩) (by show w.heap.size+1+1≠w.heap.size+1+1+1+1;omega) _,Bk.off hI.e (p:=⟨w.heap.size+1+1+1+1,3,Z⟩) (by show w.heap.size+1+1+1≠w.heap.size+1+1+1+1;omega) _,hI.o.put 3 (.bool b)⟩
theorem oJ (hI:jd w y w.heap.size xs pc i o)(hM:Mm y p q g s zs ws)(hG:fE w y g)(hA:pN w.heap.size p q g s)(hc:pf y' q g ys)(ho:fE y y' g)(hl:ys.length=ws.length):
 jd w y' w.heap.size xs pc i o/\Mm y' p q g s zs ys/\fE w y' g:=
 ⟨hI.within (S:=fun i=>i=g) (.ay ho (by rintro i e;injection e with e;exact .inl e.symm)) (fun j hj e=>by have:=hA.g;omega),hM.only hc ho hl,aQ hG ho (.inl rfl)⟩
end
def cC (y:World)(g:Nat)(a b c d e f:Value):World:=((((((y.setCell ⟨g,0,Z⟩ a).setCell ⟨g,1,Z⟩ b).setCell ⟨g,2,Z⟩ c).setCell ⟨g,3,Z⟩ d).setCell ⟨g,4,Z⟩ e).setCell ⟨g,5,Z⟩ f)
theorem cE {y:World}{g:Nat}{t:TypeId}{x0 x1 x2 x3 x4 x5:Value}(h:Bk y g t #[x0,x1,x2,x3,x4,x5])(a b c d e f:Value):Bk (cC y g a b c d e f) g t #[a,b,c,d,e,f]:=by
 have h8:=(((((h.put 0 a).put 1 b).put 2 c).put 3 d).put 4 e).put 5 f
 unfold cC
 simpa only[List.setIfInBounds_toArray,List.set_cons_zero,List.set_cons_succ] using h8
theorem mU {y:World}{g b:Nat}{t:TypeId}{cs:Array Value}(h:Bk y b t cs)(hne:b≠g)(a b' c d e f:Value):Bk (cC y g a b' c d e f) b t cs:=
 (((((h.off hne _).off hne _).off hne _).off hne _).off hne _).off hne _
theorem ba {y:World}{g:Nat}(a b c d e f:Value):ab y (cC y g a b c d e f) (fun i=>i=g):=
 ((((((ab.refl y (fun i=>i=g)).put g 0 a (.inl rfl)).put g 1 b (.inl rfl)).put g 2 c (.inl rfl)).put g 3 d (.inl rfl)).put g 4 e (.inl rfl)).put g 5 f (.inl rfl)
theorem sj {B:Nat}{w y:World}{g:Nat}(h:Below B w y)(hg:B<=g)(a b c d e f:Value):Below B w (cC y g a b c d e f):=
 (((((h.setCell hg _).setCell hg _).setCell hg _).setCell hg _).setCell hg _).setCell hg _
theorem gj {y:World}{g:Nat}(a b c d e f h i j:Value):ab y (bm y g a b c d e f h i j) (fun x=>x=g):=by
 unfold bm
 exact(((((((((ab.refl y (fun x=>x=g)).put _ 0 _ (.inl rfl)).put _ 1 _ (.inl rfl)).put _ 2 _ (.inl rfl)).put _ 3 _ (.inl rfl)).put _ 4 _ (.inl rfl)).put _ 5 _ (.inl rfl)).put _ 6 _ (.inl rfl)).put _ 7 _ (.inl rfl)).put _ 8 _ (.inl rfl)
theorem uu {w y:World}{xs0:List Int}{pc PC:Int}{i:aJ}{o:Ot}{p q g s:Nat}{zs ws:List Int}(hI:jd w y w.heap.size xs0 pc i o)(hM:Mm y p q g s zs ws)(hG:fE w y g)(hA:pN w.heap.size p q g s){s0 s1 s2 s3 s4 s5 s6 s7:Int}{v0 v1 v2 v3 v4 v5:Value}:
 Cb ((cC (bm y (w.heap.size+1+1) (I O s0) (I O s1) (I O s2) (I O s3) (I O s4) (I O s5) (I O s6) (I O s7) (I Q PC)) (w.heap.size+1+1+1) v0 v1 v2 v3 v4 v5).drew) (w.heap.size+1+1) [s0,s1,s2,s3,s4,s5,s6,s7] PC/\
 Bk ((cC (bm y (w.heap.size+1+1) (I O s0) (I O s1) (I O s2) (I O s3) (I O s4) (I O s5) (I O s6) (I O s7) (I Q PC)) (w.heap.size+1+1+1) v0 v1 v2 v3 v4 v5).drew) (w.heap.size+1+1+1) 64 #[v0,v1,v2,v3,v4,v5]/\
 Mm ((cC (bm y (w.heap.size+1+1) (I O s0) (I O s1) (I O s2) (I O s3) (I O s4) (I O s5) (I O s6) (I O s7) (I Q PC)) (w.heap.size+1+1+1) v0 v1 v2 v3 v4 v5).drew) p q g s zs ws/\
 fE w ((cC (bm y (w.heap.size+1+1) (I O s0) (I O s1) (I O s2) (I O s3) (I O s4) (I O s5) (I O s6) (I O s7) (I Q PC)) (w.heap.size+1+1+1) v0 v1 v2 v3 v4 v5).drew) g:=by
 obtain⟨a1,a2,a3,a4⟩:=hA
 have hW1:=gj (y:=y) (g:=w.heap.size+1+1) (I O s0) (I O s1) (I O s2) (I O s3) (I O s4) (I O s5) (I O s6) (I O s7) (I Q PC)
 have h9:Cb (bm y (w.heap.size+1+1) (I O s0) (I O s1) (I O s2) (I O s3) (I O s4) (I O s5) (I O s6) (I O s7) (I Q PC)) (w.heap.size+1+1) [s0,s1,s2,s3,s4,s5,s6,s7] PC:=bx hI.r (I O s0) (I O s1) (I O s2) (I O s3) (I O s4) (I O s5) (I O s6) (I O s7) (I Q PC)
 have h9':Bk (bm y (w.heap.size+1+1) (I O s0) (I O s1) (I O s2) (I O s3) (I O s4) (I O s5) (I O s6) (I O s7) (I Q PC)) (w.heap.size+1+1+1) _ _:=dU hI.e (by omega) (I O s0) (I O s1) (I O s2) (I O s3) (I O s4) (I O s5) (I O s6) (I O s7) (I Q PC)
 generalize bm y (w.heap.size+1+1) (I O s0) (I O s1) (I O s2) (I O s3) (I O s4) (I O s5) (I O s6) (I O s7) (I Q PC)=z1 at *
 have hW2:=ba (y:=z1) (g:=w.heap.size+1+1+1) v0 v1 v2 v3 v4 v5
 have r1:Cb (cC z1 (w.heap.size+1+1+1) v0 v1 v2 v3 v4 v5) _ _ _:=mU h9 (by omega) v0 v1 v2 v3 v4 v5
 have r2:=cE h9' v0 v1 v2 v3 v4 v5
 generalize cC z1 (w.heap.size+1+1+1) v0 v1 v2 v3 v4 v5=z2 at *
 have hW:ab y z2 (fun i=>i=w.heap.size+1+1\/i=w.heap.size+1+1+1):=(hW1.wide (fun i e _=>.inl e)).bz hW2 (fun i e=>.inl (.inr e))
 refine⟨r1,r2,(hM.within hW (by omega) (by omega) (by omega) (by omega)).drewN 1,?_⟩
 have h1:w.grownBy y (P g):=hG
 refine eD (n:=1) ⟨hW.os.trans h1.os,hW.tape.trans h1.tape,hW.output.trans h1.output,Nat.le_trans h1.size hW.size,fun i hi hne=>?_⟩
 exact(hW.block i (Nat.lt_of_lt_of_le hi h1.size) (by omega)).trans (h1.block i hi hne)
structure gY (w:World)(xs:List Int)(pc:Int)(i:aJ)(o:Ot)(p q g s:Nat)(zs ws:List Int)(x:Nat)(W:World):Prop where
 ai:jd w W w.heap.size xs pc i o
 am:Mm W p q g s zs ws
 ao:fE w W g
 ax:W.cell? ⟨x,3,Z⟩=P (K (P ⟨p,0,Z⟩))
 al:x<w.heap.size
theorem gY.below {w W W':World}{xs:List Int}{pc:Int}{i:aJ}{o:Ot}{p q g s:Nat}{zs ws:List Int}{x:Nat}(h:gY w xs pc i o p q g s zs ws x W)(hb:Below W.heap.size W W'):gY w xs pc i o p q g s zs ws x W':=
 ⟨h.ai.within (av hb) (by simp),h.am.grown (bN hb),aQ h.ao (bN hb) (.inr (by simp)),(hb.cell (p:=⟨x,3,Z⟩) (Nat.lt_of_lt_of_le h.al h.ao.size)).trans h.ax,h.al⟩
def Dl (w:World)(i:aJ)(a p q g s:Nat)(zs ws:List Int)(x:Nat)(c0 c1:kF)(st:Bool):Nat->World->Prop
 | 0,W=>gY w c0.xs c0.pc i ⟨[],-1,a,T,T,0⟩ p q g s zs ws x W
 | 1,W=>gY w c1.xs c1.pc i ⟨[],-1,a,T,T,0⟩ p q g s zs ws x W
 | _,W=>gY w c1.xs c1.pc i ⟨[],-1,a,T,st,0⟩ p q g s zs ws x W
theorem tm {w:World}{i:aJ}{a p q g s:Nat}{zs ws:List Int}{x:Nat}{c0 c1:kF}{st:Bool}{k:Nat}{W W':World}(h:Dl w i a p q g s zs ws x c0 c1 st k W)(hb:Below W.heap.size W W'):Dl w i a p q g s zs ws x c0 c1 st k W':=by
 match k,h with
 | 0,h=>exact gY.below h hb
 | 1,h=>exact gY.below h hb
 | _+2,h=>exact gY.below h hb
theorem wk {w W:World}{r0 r1 r2 r3 r4 r5 r6 r7 s0 s1 s2 s3 s4 s5 s6 s7 pc PC:Int}{i:aJ}{o:Ot}{p q g s:Nat}{zs ws:List Int}{x:Nat}(hA:pN w.heap.size p q g s)(h:gY w [r0,r1,r2,r3,r4,r5,r6,r7] pc i o p q g s zs ws x W):
 gY w [s0,s1,s2,s3,s4,s5,s6,s7] PC i o p q g s zs ws x (bm W w.heap.size (I O s0) (I O s1) (I O s2) (I O s3) (I O s4) (I O s5) (I O s6) (I O s7) (I Q PC)):=by
 obtain⟨j1,j2,j3,j4,j5⟩:=h
 obtain⟨a1,a2,a3,a4⟩:=hA
 have hW:=gj (y:=W) (g:=w.heap.size) (I O s0) (I O s1) (I O s2) (I O s3) (I O s4) (I O s5) (I O s6) (I O s7) (I Q PC)
 have h1:Cb (bm W w.heap.size (I O s0) (I O s1) (I O s2) (I O s3) (I O s4) (I O s5) (I O s6) (I O s7) (I Q PC)) w.heap.size [s0,s1,s2,s3,s4,s5,s6,s7] PC:=bx j1.c (I O s0) (I O s1) (I O s2) (I O s3) (I O s4) (I O s5) (I O s6) (I O s7) (I Q PC)
 generalize bm W w.heap.size (I O s0) (I O s1) (I O s2) (I O s3) (I O s4) (I O s5) (I O s6) (I O s7) (I Q PC)=z at *
 refine⟨⟨h1,Bk.within j1.i hW (by omega),Bk.within j1.r hW (by omega),j1.e.within hW (by omega),j1.o.within hW (by omega)⟩,j2.within hW (by omega) (by omega) (by omega) (by omega),?_,?_,j5⟩
 ·have h2:w.grownBy W (P g):=j3
  exact⟨hW.os.trans h2.os,hW.tape.trans h2.tape,hW.output.trans h2.output,Nat.le_trans h2.size hW.size,fun i hi hne=>(hW.block i (Nat.lt_of_lt_of_le hi h2.size) (by omega)).trans (h2.block i hi hne)⟩
 ·rw[<-j4]
  exact World.cell?_of_block (hW.block x (Nat.lt_of_lt_of_le j5 j3.size) (by omega))
theorem wj {w W:World}{xs:List Int}{pc:Int}{i:aJ}{a p q g s:Nat}{zs ws:List Int}{x:Nat}(hA:pN w.heap.size p q g s)(h:gY w xs pc i ⟨[],-1,a,T,T,0⟩ p q g s zs ws x W)(st:Bool):
 gY w xs pc i ⟨[],-1,a,T,st,0⟩ p q g s zs ws x (W.setCell ⟨w.heap.size+1+1+1+1,4,Z⟩ (.bool st)):=by
 obtain⟨j1,j2,j3,j4,j5⟩:=h
 obtain⟨k1,k2⟩:=jN j1 j2 j3 hA (b:=w.heap.size+1+1+1+1) (by omega) 4 (.bool st)
 refine⟨⟨Bk.off j1.c (p:=⟨w.heap.size+1+1+1+1,4,Z⟩) (by show w.heap.size≠w.heap.size+1+1+1+1;omega) _,Bk.off j1.i (p:=⟨w.heap.size+1+1+1+1,4,Z⟩) (by show w.heap.size+1≠w.heap.size+1+1+1+1;omega) _,Bk.off j1.r (p:=⟨w.heap.size+1+1+1+1,4,Z⟩) (by show w.heap.size+1+1≠w.heap.size+1+1+1+1;omega) _,Bk.off j1.e (p:=⟨w.heap.size+1+1+1+1,4,Z⟩) (by show w.heap.size+1+1+1≠w.heap.size+1+1+1+1;omega) _,j1.o.put 4 (.bool st)⟩,k1,k2,?_,j5⟩
 rw[<-j4]
 exact cq (by omega)
def Fl (w:World)(X:XP)(k:Lk)(m:Mc)(c:kF)(r:Option Dn)(e:Ending)(w':World):Prop:=match r with
 | none=>e=.returned (.tuple #[cv c.xs c.pc,zC (U Z 0 0) eZ])/\Below w.heap.size w w'
 | some r=>e=.returned (.tuple #[cv r.c.xs r.c.pc,zC (U Z 0 0) ⟨[],-1,r.addr,r.wrote,r.stay,0⟩])/\∃ M',Ex w' { X with M:=M' } k r.m/\bh w k.n X w' { X with M:=M' }
structure wK (x:World)(n b:Nat)(xs:List Int)(pc:Int)(i:aJ):Prop where
 di:Ib x n i
 dr:Cb x (n+1) [0,0,0,0,0,0,0,0] 0
 de:Bk x (n+1+1) 64 #[U Z 0 0,I Q 0,I Q 0,.bool T,.bool T,I Q 0]
 dc:Cb x b xs pc
 lt:n+1+1<b
theorem wK.within {x y:World}{n b:Nat}{xs:List Int}{pc:Int}{i:aJ}{S:Nat->Prop}(h:wK x n b xs pc i)(hw:ab x y S)(hn:∀ j,n<=j->j<x.heap.size->¬ S j):wK y n b xs pc i:=
 ⟨Bk.within h.di hw (hn _ (F _) (Bk.lt h.di)),Bk.within h.dr hw (hn _ (by omega) (Bk.lt h.dr)),h.de.within hw (hn _ (by omega) (Bk.lt h.de)),Bk.within h.dc hw (hn _ (by have:=h.lt;omega) (Bk.lt h.dc)),h.lt⟩
theorem wK.Do {x:World}{n b:Nat}{xs:List Int}{pc:Int}{i:aJ}(h:wK x n b xs pc i)(h8:xs.length=8){d:Nat}(hd:d<8)(v:Int):wK (x.setCell ⟨b,d,Z⟩ (I O v)) n b (xs.set d v) pc i:=by
 have hl:=h.lt
 exact⟨Bk.off h.di (p:=⟨b,d,Z⟩) (by show n≠b;omega) _,Bk.off h.dr (p:=⟨b,d,Z⟩) (by show n+1≠b;omega) _,Bk.off h.de (p:=⟨b,d,Z⟩) (by show n+1+1≠b;omega) _,h.dc.set h8 hd v,hl⟩
theorem wK.place {x:World}{n b:Nat}{r0 r1 r2 r3 r4 r5 r6 r7:Int}{pc:Int}{i:aJ}(h:wK x n b [r0,r1,r2,r3,r4,r5,r6,r7] pc i)(v:Int):wK (x.setCell ⟨b,8,Z⟩ (I Q v)) n b [r0,r1,r2,r3,r4,r5,r6,r7] v i:=by
 have hl:=h.lt
 exact⟨Bk.off h.di (p:=⟨b,8,Z⟩) (by show n≠b;omega) _,Bk.off h.dr (p:=⟨b,8,Z⟩) (by show n+1≠b;omega) _,Bk.off h.de (p:=⟨b,8,Z⟩) (by show n+1+1≠b;omega) _,Bk.put h.dc 8 (I Q v),hl⟩
theorem wK.end_ {w y:World}{b:Nat}{xs0:List Int}{pc PC:Int}{i:aJ}(hI:wK y w.heap.size b xs0 pc i){s0 s1 s2 s3 s4 s5 s6 s7:Int}{v0 v1 v2 v3 v4 v5:Value}:
 Cb (cC (bm y (w.heap.size+1) (I O s0) (I O s1) (I O s2) (I O s3) (I O s4) (I O s5) (I O s6) (I O s7) (I Q PC)) (w.heap.size+1+1) v0 v1 v2 v3 v4 v5) (w.heap.size+1) [s0,s1,s2,s3,s4,s5,s6,s7] PC/\
 Bk (cC (bm y (w.heap.size+1) (I O s0) (I O s1) (I O s2) (I O s3) (I O s4) (I O s5) (I O s6) (I O s7) (I Q PC)) (w.heap.size+1+1) v0 v1 v2 v3 v4 v5) (w.heap.size+1+1) 64 #[v0,v1,v2,v3,v4,v5]/\
 ab y (cC (bm y (w.heap.size+1) (I O s0) (I O s1) (I O s2) (I O s3) (I O s4) (I O s5) (I O s6) (I O s7) (I Q PC)) (w.heap.size+1+1) v0 v1 v2 v3 v4 v5) (fun i=>w.heap.size<=i/\i<=b):=by
 have hbl:=hI.lt
 have hW1:=gj (y:=y) (g:=w.heap.size+1) (I O s0) (I O s1) (I O s2) (I O s3) (I O s4) (I O s5) (I O s6) (I O s7) (I Q PC)
 have h9:Cb (bm y (w.heap.size+1) (I O s0) (I O s1) (I O s2) (I O s3) (I O s4) (I O s5) (I O s6) (I O s7) (I Q PC)) (w.heap.size+1) [s0,s1,s2,s3,s4,s5,s6,s7] PC:=bx hI.dr (I O s0) (I O s1) (I O s2) (I O s3) (I O s4) (I O s5) (I O s6) (I O s7) (I Q PC)
 have h9':Bk (bm y (w.heap.size+1) (I O s0) (I O s1) (I O s2) (I O s3) (I O s4) (I O s5) (I O s6) (I O s7) (I Q PC)) (w.heap.size+1+1) _ _:=dU hI.de (by omega) (I O s0) (I O s1) (I O s2) (I O s3) (I O s4) (I O s5) (I O s6) (I O s7) (I Q PC)
 generalize bm y (w.heap.size+1) (I O s0) (I O s1) (I O s2) (I O s3) (I O s4) (I O s5) (I O s6) (I O s7) (I Q PC)=z1 at *
 have hW2:=ba (y:=z1) (g:=w.heap.size+1+1) v0 v1 v2 v3 v4 v5
 have r1:Cb (cC z1 (w.heap.size+1+1) v0 v1 v2 v3 v4 v5) _ _ _:=mU h9 (by omega) v0 v1 v2 v3 v4 v5
 have r2:=cE h9' v0 v1 v2 v3 v4 v5
 generalize cC z1 (w.heap.size+1+1) v0 v1 v2 v3 v4 v5=z2 at *
 exact⟨r1,r2,(hW1.wide (fun i e _=>by omega)).bz (hW2.wide (fun i e _=>(by omega:w.heap.size<=i/\i<=b))) (fun i e=>.inl e)⟩
section
variable {w w':World}{X:XP}{k:Lk}{m:Mc}
theorem xQ {n each c:Nat}{free:Nat->List Nat}{gen out:List Int}{fr:Nat->List Int}{os:Int->Bool}(h:mu n each free gen out fr os c){q:Nat}(hq:q<n*each):0<=lw gen q/\lw gen q<4294967296:=by
 have:=h.le
 obtain⟨f1,f2,_⟩:=kt h.gens (q:=q) (by omega)
 omega
theorem Ex.iI {n b:Nat}(h:Ex w X k m)(hw:ab w w' (fun i=>n<=i/\i<=b))(hn:∀ i,X.Own k.n i->i<n\/b<i):Ex w' X k m:=h.kept hw fun i hi e=>by have:=hn i hi;omega
theorem bh.iI {n N b:Nat}{v:World}{X':XP}(h:bh v N X w X')(hw:ab w w' (fun i=>n<=i/\i<=b))(hn:v.heap.size<=n):bh v N X w' X':=
 ⟨h.1.bz hw (fun i e=>.inr (by omega)),h.2.1,h.2.2⟩
def Ft (w:World)(b:Nat)(xs:List Int)(pc:Int)(i:aJ)(cs:List Value):Nat->World->Prop
 | 0,W=>wK W w.heap.size b xs pc i/\Below w.heap.size w W
 | 1,W=>Bk W (w.heap.size+1) 108 cs.toArray/\Bk W (w.heap.size+1+1) 64 #[U Z 0 0,I Q 0,I Q 0,.bool T,.bool T,I Q 0]/\Below w.heap.size w W
 | _,W=>Bk W (w.heap.size+1) 108 cs.toArray/\Bk W (w.heap.size+1+1) 64 #[U Z 0 0,I Q (-1),I Q (-1),.bool T,.bool T,I Q 11]/\Below w.heap.size w W
theorem vP {w W W':World}{b:Nat}{xs:List Int}{pc:Int}{i:aJ}{cs:List Value}{k:Nat}(h:Ft w b xs pc i cs k W)(hb:Below W.heap.size W W'):Ft w b xs pc i cs k W':=by
 match k,h with
 | 0,h=>exact⟨h.1.within (av hb) (by simp),h.2.trans (hb.mono h.2.size)⟩
 | 1,h=>exact⟨(hb.block _ h.1.lt).trans h.1,(hb.block _ h.2.1.lt).trans h.2.1,h.2.2.trans (hb.mono h.2.2.size)⟩
 | _+2,h=>exact⟨(hb.block _ (Bk.lt h.1)).trans h.1,(hb.block _ (Bk.lt h.2.1)).trans h.2.1,h.2.2.trans (hb.mono h.2.2.size)⟩
theorem Ee {w W:World}{b:Nat}{xs:List Int}{pc:Int}{i:aJ}(h:wK W w.heap.size b xs pc i/\Below w.heap.size w W)(v0 v1 v2 v3 v4 v5 v6 v7 v8:Value):
 Bk (bm W (w.heap.size+1) v0 v1 v2 v3 v4 v5 v6 v7 v8) (w.heap.size+1) 108 #[v0,v1,v2,v3,v4,v5,v6,v7,v8]/\Bk (bm W (w.heap.size+1) v0 v1 v2 v3 v4 v5 v6 v7 v8) (w.heap.size+1+1) 64 #[U Z 0 0,I Q 0,I Q 0,.bool T,.bool T,I Q 0]/\Below w.heap.size w (bm W (w.heap.size+1) v0 v1 v2 v3 v4 v5 v6 v7 v8):=
 ⟨bx h.1.dr v0 v1 v2 v3 v4 v5 v6 v7 v8,dU h.1.de (by omega) v0 v1 v2 v3 v4 v5 v6 v7 v8,aX h.2 (by omega) v0 v1 v2 v3 v4 v5 v6 v7 v8⟩
theorem Ed {w W:World}{cs:Array Value}{x0 x1 x2 x3 x4 x5:Value}(h:Bk W (w.heap.size+1) 108 cs/\Bk W (w.heap.size+1+1) 64 #[x0,x1,x2,x3,x4,x5]/\Below w.heap.size w W)(v0 v1 v2 v3 v4 v5:Value):
 Bk (cC W (w.heap.size+1+1) v0 v1 v2 v3 v4 v5) (w.heap.size+1) 108 cs/\Bk (cC W (w.heap.size+1+1) v0 v1 v2 v3 v4 v5) (w.heap.size+1+1) 64 #[v0,v1,v2,v3,v4,v5]/\Below w.heap.size w (cC W (w.heap.size+1+1) v0 v1 v2 v3 v4 v5):=
 ⟨mU h.1 (by omega) v0 v1 v2 v3 v4 v5,cE h.2.1 v0 v1 v2 v3 v4 v5,sj h.2.2 (by omega) v0 v1 v2 v3 v4 v5⟩
def FK (w:World)(X:XP)(k:Lk)(b:Nat)(pc:Int)(i:aJ)(R:Option Dn)(y:World):Prop:=
 ∃ M' m' xs',xs'.length=8/\wK y w.heap.size b xs' pc i/\Ex y { X with M:=M' } k m'/\bh w k.n X y { X with M:=M' }/\(∀ j,XP.Own { X with M:=M' } k.n j->j<w.heap.size\/b<j)/\Hid (R=P ⟨m',⟨xs',pc+1⟩,-1,T,T⟩)
end
def zI (w:World)(X:XP)(k:Lk)(r:Mc×Ot)(e:Ending)(w':World):Prop:=
 ∃ v M',e=.returned (zC v r.2)/\dF w.heap.size w' v r.2.ms/\Ex w' { X with M:=M' } k r.1/\bh w k.n X w' { X with M:=M' }
theorem fU {W W':World}{m:Value}{ms:List Int}{S:Nat->Prop}(hl:eG .i64 3 W m ms)(hW:ab W W' S)(hS:∀ b,S b->∃ t cs,Bk W b t cs/\t≠3):eG .i64 3 W' m ms:=
 hl.within hW fun g e hg=>by
  obtain⟨cs,hcs⟩:=hl.bk e
  obtain⟨t,cs',h1,h2⟩:=hS g hg
  exact Bk.aj hcs h1 (fun e=>h2 e.symm) rfl
theorem dA {B:Nat}{W W':World}{m:Value}{ms:List Int}{S:Nat->Prop}(hl:dF B W m ms)(hW:ab W W' S)(hS:∀ b,S b->∃ t cs,Bk W b t cs/\t≠3):dF B W' m ms:=⟨fU hl.1 hW hS,hl.2⟩
section
variable {w w':World}{X:XP}{k:Lk}{m:Mc}
theorem yK (h:Ex w X k m)(t:Nat)(ht:t<k.n)(un:Bool):
 Calls Tryz.prog 22 #[K (P ⟨X.x,0,Z⟩),I Q t,.bool un] w (zI w X k (cx k m t un)):=by
 have hnn:=h.lk.n64
 have hl:=h.lk.parts.2.1
 have hx:=h.mc.cs t ht
 obtain⟨r0,r1,r2,r3,r4,r5,r6,r7,pc,ec⟩:=h.bB ht
 have HB0:=fun(v:Value) W hW=>A6 ⟨k.l,k.lo,k.un⟩ v (m.cs t).xs (m.cs t).pc t un W hW hl h.lk.ok hx (by omega) (by omega)
 have hE:=fT h.lk.ok (self:=(t:Int)) (by omega) (by omega) 256 (m.cs t).xs (if un then k.un else k.lo) [] hx
 obtain⟨RR,hRR⟩:∃ R,R=fK (t:Int) k.l 256 (m.cs t).xs (if un then k.un else k.lo) []:=⟨_,rfl⟩
 rw[<-hRR] at hE
 have HR:Hid (cx k m t un=({ m with cs:=eO m.cs t ⟨RR.xs,RR.pc⟩ },⟨RR.ms,RR.done,-1,T,T,RR.e⟩)):=H (by unfold cx ie;simp only[hRR])
 have HX:=H h
 obtain⟨sxs,PC,ms,D,E⟩:=RR
 simp only at hE HR
 obtain⟨s0,s1,s2,s3,s4,s5,s6,s7,rfl⟩:=aC hE.1
 have HE8:=H hE
 have HB:Hid (∀ W,Ex W X k m->Calls Tryz.prog 46 #[.agg #[I O r0,I O r1,I O r2,I O r3,I O r4,I O r5,I O r6,I O r7,I Q pc],.agg #[X.cv,I Q k.lo,I Q k.un],I Q t,.bool un] W fun e w'=>∃ m5,e=.returned (.tuple #[.agg #[I O s0,I O s1,I O s2,I O s3,I O s4,I O s5,I O s6,I O s7,I Q PC],m5,I Q D,I Q E])/\dF W.heap.size w' m5 ms/\Below W.heap.size W w'):=H fun W hW=>by
  have h1:=HB0 _ W hW.pv.1
  rw[ec] at h1 hRR
  simp only at h1
  rw[<-hRR] at h1
  exact h1.mono fun e w' ⟨m5,q1,q2,q3⟩=>⟨m5,q1,q2,q3⟩
 clear HB0 hE hRR hx
 rw[HR.out]
 clear HR
 have q0:=Bk.made w 64 #[U Z 0 0,I Q 0,I Q 0,.bool T,.bool T,I Q 0]
 have b0:Below w.heap.size w (w.alloc (J #[U Z 0 0,I Q 0,I Q 0,.bool T,.bool T,I Q 0] 64)):=(G _ _).alloc (F _) _
 go_enter Tryz.func22,Tryz.ntmps22
 go_upto_region 1 with fail
 generalize w.alloc (J #[U Z 0 0,I Q 0,I Q 0,.bool T,.bool T,I Q 0] 64)=y at *
 have h2:=h.below b0
 go_wp2_with fail
 refine(lC h2 t ht).mono ?_
 rintro e w' ⟨rfl,rfl⟩
 clear h
 go_upto_region 3 with fail
 refine iR 19 20 108 #[I O 0,I O 0,I O 0,I O 0,I O 0,I O 0,I O 0,I O 0,I Q 0] (fun W b=>bm W b (I O s0) (I O s1) (I O s2) (I O s3) (I O s4) (I O s5) (I O s6) (I O s7) (I Q PC)) (fun W b=>Cb W b [s0,s1,s2,s3,s4,s5,s6,s7] PC) (fun vs=>{ tmps:=#[K (P ⟨X.x,0,Z⟩),I Q (t:Int),.bool un,C,C,C,K (P ⟨w.heap.size,0,Z⟩),vs 19,vs 21,vs 22,vs 23,K (P ⟨X.x,0,Z⟩),I Q (t:Int),.bool true,.bool T,C,vs 14,vs 0,vs 1,vs 2,vs 3,vs 4,vs 5,vs 6,vs 7,vs 8,vs 9,vs 10,vs 11,vs 12,vs 13,vs 15,vs 16,vs 17,vs 18,C,C,C,C,C,C,C,C,C,C,C],defers:=[] }) (lh [(13,(gz w.heap.size (.agg #[I O s0,I O s1,I O s2,I O s3,I O s4,I O s5,I O s6,I O s7,I Q PC]) ms D E)),(14,(gz w.heap.size (.agg #[I O s0,I O s1,I O s2,I O s3,I O s4,I O s5,I O s6,I O s7,I Q PC]) ms D E)),(16,(fun v W=>dF w.heap.size W v ms)),(21,(fun v W=>dF w.heap.size W v ms))] [K (P ⟨X.x,0,Z⟩),K (P ⟨X.x,0,Z⟩),K (P ⟨X.x,5,Z⟩),U (P ⟨X.kb,0,Z⟩) k.n k.n,I Q (t:Int),K (P ⟨X.kb,t*9,Z⟩),.agg #[I O r0,I O r1,I O r2,I O r3,I O r4,I O r5,I O r6,I O r7,I Q pc],K (P ⟨X.x,0,Z⟩),K (P ⟨X.x,0,Z⟩),K (P ⟨X.x,0,Z⟩),.agg #[X.cv,I Q k.lo,I Q k.un],I Q (t:Int),.bool un,C,C,.agg #[I O s0,I O s1,I O s2,I O s3,I O s4,I O s5,I O s6,I O s7,I Q PC],C,I Q D,I Q E,C,C,C,I Q D,I Q E]) ?ghm ?ghr ?ghns ?ghlen ?glit ?gst ?gst2 ?gd1 ?gbel ?gdn ?gnew ?gsto ?gops ?gdone
 case ghm=>kernel_rfl
 case ghr=>kernel_rfl
 case ghns=>kernel_rfl
 case ghlen=>rfl
 case glit=>intro vs;rfl
 case gst=>exact dz (by
  intro p hp
  simp only[List.mem_cons,List.not_mem_nil,or_false] at hp
  rcases hp with rfl|rfl|rfl|rfl
  ·exact fun v W W2 h hb=>gz.below h hb
  ·exact fun v W W2 h hb=>gz.below h hb
  ·exact fun v W W2 h hb=>eB h hb
  ·exact fun v W W2 h hb=>eB h hb)
 case gst2=>
  have hk:=gL (R:=fun W W2=>∃ b,Bk W b 108 #[I O 0,I O 0,I O 0,I O 0,I O 0,I O 0,I O 0,I O 0,I Q 0]/\W2=bm W b (I O s0) (I O s1) (I O s2) (I O s3) (I O s4) (I O s5) (I O s6) (I O s7) (I Q PC)) (ps:=[(13,(gz w.heap.size (.agg #[I O s0,I O s1,I O s2,I O s3,I O s4,I O s5,I O s6,I O s7,I Q PC]) ms D E)),(14,(gz w.heap.size (.agg #[I O s0,I O s1,I O s2,I O s3,I O s4,I O s5,I O s6,I O s7,I Q PC]) ms D E)),(16,(fun v W=>dF w.heap.size W v ms)),(21,(fun v W=>dF w.heap.size W v ms))]) (l:=[K (P ⟨X.x,0,Z⟩),K (P ⟨X.x,0,Z⟩),K (P ⟨X.x,5,Z⟩),U (P ⟨X.kb,0,Z⟩) k.n k.n,I Q (t:Int),K (P ⟨X.kb,t*9,Z⟩),.agg #[I O r0,I O r1,I O r2,I O r3,I O r4,I O r5,I O r6,I O r7,I Q pc],K (P ⟨X.x,0,Z⟩),K (P ⟨X.x,0,Z⟩),K (P ⟨X.x,0,Z⟩),.agg #[X.cv,I Q k.lo,I Q k.un],I Q (t:Int),.bool un,C,C,.agg #[I O s0,I O s1,I O s2,I O s3,I O s4,I O s5,I O s6,I O s7,I Q PC],C,I Q D,I Q E,C,C,C,I Q D,I Q E]) (by
   intro p hp
   simp only[List.mem_cons,List.not_mem_nil,or_false] at hp
   rcases hp with rfl|rfl|rfl|rfl
   ·rintro v W W2 ⟨m5,e5,h5⟩ ⟨b,hk,rfl⟩;exact⟨m5,e5,iD h5 hk (by decide) (I O s0) (I O s1) (I O s2) (I O s3) (I O s4) (I O s5) (I O s6) (I O s7) (I Q PC)⟩
   ·rintro v W W2 ⟨m5,e5,h5⟩ ⟨b,hk,rfl⟩;exact⟨m5,e5,iD h5 hk (by decide) (I O s0) (I O s1) (I O s2) (I O s3) (I O s4) (I O s5) (I O s6) (I O s7) (I Q PC)⟩
   ·rintro v W W2 h ⟨b,hk,rfl⟩;exact iD h hk (by decide) (I O s0) (I O s1) (I O s2) (I O s3) (I O s4) (I O s5) (I O s6) (I O s7) (I Q PC)
   ·rintro v W W2 h ⟨b,hk,rfl⟩;exact iD h hk (by decide) (I O s0) (I O s1) (I O s2) (I O s3) (I O s4) (I O s5) (I O s6) (I O s7) (I Q PC))
  exact fun i v W b h hb=>hk i v W _ h ⟨b,hb,rfl⟩
 case gd1=>exact fun W W2 b h hb=>Cb.below h hb
 case gbel=>exact fun W b hb h=>aX h hb (I O s0) (I O s1) (I O s2) (I O s3) (I O s4) (I O s5) (I O s6) (I O s7) (I Q PC)
 case gdn=>exact fun W b h=>bx h (I O s0) (I O s1) (I O s2) (I O s3) (I O s4) (I O s5) (I O s6) (I O s7) (I Q PC)
 case gnew=>
  intro o ho vs W hW
  injection ho with ho
  subst ho
  refine aa rfl ?_
  go_simp
  exact⟨⟨W.heap.size,rfl,hW.size,Cb.made W [0,0,0,0,0,0,0,0] 0⟩,(G _ _).alloc (F _) _⟩
 case gsto=>
  intro o ho vs W b hW hd hb hk
  injection ho with ho
  subst ho
  have ev:vs 15=.agg #[I O s0,I O s1,I O s2,I O s3,I O s4,I O s5,I O s6,I O s7,I Q PC]:=hd 15 (by decide) rfl
  have zf:=Bk.free hk
  obtain⟨z0,z1,z2,z3,z4,z5,z6,z7,z8⟩:=Cb.cells hk
  refine aO rfl ?_
  clear hd
  go_simp
  rfl
 case gops=>
  refine⟨?_,?_,?_,?_,?_,?_,?_,?_,?_,?_,?_,?_,?_,?_,?_,?_,?_,?_,?_,?_,?_,?_,?_,?_,trivial⟩
  ·intro _ vs W hW hd
   refine aa rfl ?_
   go_simp
   exact⟨rfl,G _ _⟩
  ·intro _ vs W hW hd
   refine aa rfl ?_
   have e0:vs 0=K (P ⟨X.x,0,Z⟩):=hd 0 (by decide) rfl
   go_simp
   exact⟨rfl,G _ _⟩
  ·intro _ vs W hW hd
   refine aa rfl ?_
   have e1:vs 1=K (P ⟨X.x,0,Z⟩):=hd 1 (by decide) rfl
   go_simp
   exact⟨rfl,G _ _⟩
  ·intro _ vs W hW hd
   refine aa rfl ?_
   have e2:vs 2=K (P ⟨X.x,5,Z⟩):=hd 2 (by decide) rfl
   have hq:=h2.below hW;have c0x:=hq.c0;have c1x:=hq.c1;have c2x:=hq.c2;have c5x:=hq.c5;obtain⟨c0,c1,c2,c3,c4,c5,c6,c7,c8⟩:=hq.core ht ec;clear hq
   go_simp
   exact⟨rfl,G _ _⟩
  ·intro _ vs W hW hd
   refine aa rfl ?_
   go_simp
   exact⟨rfl,G _ _⟩
  ·intro _ vs W hW hd
   refine aa rfl ?_
   have e3:vs 3=U (P ⟨X.kb,0,Z⟩) k.n k.n:=hd 3 (by decide) rfl
   have e4:vs 4=I Q (t:Int):=hd 4 (by decide) rfl
   go_simp
   exact⟨rfl,G _ _⟩
  ·intro _ vs W hW hd
   refine aa rfl ?_
   have e5:vs 5=K (P ⟨X.kb,t*9,Z⟩):=hd 5 (by decide) rfl
   have hq:=h2.below hW;have c0x:=hq.c0;have c1x:=hq.c1;have c2x:=hq.c2;have c5x:=hq.c5;obtain⟨c0,c1,c2,c3,c4,c5,c6,c7,c8⟩:=hq.core ht ec;clear hq
   go_simp
   exact⟨rfl,G _ _⟩
  ·intro _ vs W hW hd
   refine aa rfl ?_
   go_simp
   exact⟨rfl,G _ _⟩
  ·intro _ vs W hW hd
   refine aa rfl ?_
   have e7:vs 7=K (P ⟨X.x,0,Z⟩):=hd 7 (by decide) rfl
   go_simp
   exact⟨rfl,G _ _⟩
  ·intro _ vs W hW hd
   refine aa rfl ?_
   have e8:vs 8=K (P ⟨X.x,0,Z⟩):=hd 8 (by decide) rfl
   go_simp
   exact⟨rfl,G _ _⟩
  ·intro _ vs W hW hd
   refine aa rfl ?_
   have e9:vs 9=K (P ⟨X.x,0,Z⟩):=hd 9 (by decide) rfl
   have hq:=h2.below hW;have c0x:=hq.c0;have c1x:=hq.c1;have c2x:=hq.c2;have c5x:=hq.c5;obtain⟨c0,c1,c2,c3,c4,c5,c6,c7,c8⟩:=hq.core ht ec;clear hq
   go_simp
   exact⟨rfl,G _ _⟩
  ·intro _ vs W hW hd
   refine aa rfl ?_
   go_simp
   exact⟨rfl,G _ _⟩
  ·intro _ vs W hW hd
   refine aa rfl ?_
   go_simp
   exact⟨rfl,G _ _⟩
  ·intro _ vs W hW hd
   refine aa rfl ?_
   have e6:vs 6=.agg #[I O r0,I O r1,I O r2,I O r3,I O r4,I O r5,I O r6,I O r7,I Q pc]:=hd 6 (by decide) rfl
   have e10:vs 10=.agg #[X.cv,I Q k.lo,I Q k.un]:=hd 10 (by decide) rfl
   have e11:vs 11=I Q (t:Int):=hd 11 (by decide) rfl
   have e12:vs 12=.bool un:=hd 12 (by decide) rfl
   have HS:=H (HB.out W (h2.below hW))
   clear hd
   go_simp
   refine HS.out.mono ?_
   rintro e z ⟨m5,he,hm5,hz⟩
   exact⟨_,he,⟨m5,rfl,hm5.mono (Nat.le_trans b0.size hW.size)⟩,hz⟩
  ·intro _ vs W hW hd
   refine aa rfl ?_
   obtain⟨m5,e13,hm5⟩:gz w.heap.size (.agg #[I O s0,I O s1,I O s2,I O s3,I O s4,I O s5,I O s6,I O s7,I Q PC]) ms D E (vs 13) W:=hd 13 (by decide) rfl
   clear hd
   go_simp
   exact⟨⟨m5,rfl,hm5⟩,G _ _⟩
  ·intro _ vs W hW hd
   refine aa rfl ?_
   obtain⟨m5,e14,hm5⟩:gz w.heap.size (.agg #[I O s0,I O s1,I O s2,I O s3,I O s4,I O s5,I O s6,I O s7,I Q PC]) ms D E (vs 14) W:=hd 14 (by decide) rfl
   clear hd
   go_simp
   exact⟨rfl,G _ _⟩
  ·intro _ vs W hW hd
   refine aa rfl ?_
   obtain⟨m5,e14,hm5⟩:gz w.heap.size (.agg #[I O s0,I O s1,I O s2,I O s3,I O s4,I O s5,I O s6,I O s7,I Q PC]) ms D E (vs 14) W:=hd 14 (by decide) rfl
   clear hd
   go_simp
   exact⟨hm5,G _ _⟩
  ·intro _ vs W hW hd
   refine aa rfl ?_
   obtain⟨m5,e14,hm5⟩:gz w.heap.size (.agg #[I O s0,I O s1,I O s2,I O s3,I O s4,I O s5,I O s6,I O s7,I Q PC]) ms D E (vs 14) W:=hd 14 (by decide) rfl
   clear hd
   go_simp
   exact⟨rfl,G _ _⟩
  ·intro _ vs W hW hd
   refine aa rfl ?_
   obtain⟨m5,e14,hm5⟩:gz w.heap.size (.agg #[I O s0,I O s1,I O s2,I O s3,I O s4,I O s5,I O s6,I O s7,I Q PC]) ms D E (vs 14) W:=hd 14 (by decide) rfl
   clear hd
   go_simp
   exact⟨rfl,G _ _⟩
  ·exact fun h=>absurd h (by decide)
  ·exact fun h=>absurd h (by decide)
  ·intro _ vs W hW hd
   refine aa rfl ?_
   have h8:dF w.heap.size W (vs 16) ms:=hd 16 (by decide) rfl
   clear hd
   go_simp
   exact⟨h8,G _ _⟩
  ·intro _ vs W hW hd
   refine aa rfl ?_
   have e17:vs 17=I Q D:=hd 17 (by decide) rfl
   go_simp
   exact⟨rfl,G _ _⟩
  ·intro _ vs W hW hd
   refine aa rfl ?_
   have e18:vs 18=I Q E:=hd 18 (by decide) rfl
   go_simp
   exact⟨rfl,G _ _⟩
 case gdone=>
  intro vs W b hW hf hgv hgb pb
  have f0:vs 0=K (P ⟨X.x,0,Z⟩):=hf 0 (by decide) rfl
  have f1:vs 1=K (P ⟨X.x,0,Z⟩):=hf 1 (by decide) rfl
  have f2:vs 2=K (P ⟨X.x,5,Z⟩):=hf 2 (by decide) rfl
  have f3:vs 3=U (P ⟨X.kb,0,Z⟩) k.n k.n:=hf 3 (by decide) rfl
  have f4:vs 4=I Q (t:Int):=hf 4 (by decide) rfl
  have f5:vs 5=K (P ⟨X.kb,t*9,Z⟩):=hf 5 (by decide) rfl
  have f6:vs 6=.agg #[I O r0,I O r1,I O r2,I O r3,I O r4,I O r5,I O r6,I O r7,I Q pc]:=hf 6 (by decide) rfl
  have f7:vs 7=K (P ⟨X.x,0,Z⟩):=hf 7 (by decide) rfl
  have f8:vs 8=K (P ⟨X.x,0,Z⟩):=hf 8 (by decide) rfl
  have f9:vs 9=K (P ⟨X.x,0,Z⟩):=hf 9 (by decide) rfl
  have f10:vs 10=.agg #[X.cv,I Q k.lo,I Q k.un]:=hf 10 (by decide) rfl
  have f11:vs 11=I Q (t:Int):=hf 11 (by decide) rfl
  have f12:vs 12=.bool un:=hf 12 (by decide) rfl
  have f15:vs 15=.agg #[I O s0,I O s1,I O s2,I O s3,I O s4,I O s5,I O s6,I O s7,I Q PC]:=hf 15 (by decide) rfl
  have f17:vs 17=I Q D:=hf 17 (by decide) rfl
  have f18:vs 18=I Q E:=hf 18 (by decide) rfl
  have f22:vs 22=I Q D:=hf 22 (by decide) rfl
  have f23:vs 23=I Q E:=hf 23 (by decide) rfl
  simp only[f0,f1,f2,f3,f4,f5,f6,f7,f8,f9,f10,f11,f12,f15,f17,f18,f22,f23]
  have hm2:dF w.heap.size W (vs 21) ms:=hf 21 (by decide) rfl
  simp only[hgv]
  clear hf hgv f0 f1 f2 f3 f4 f5 f6 f7 f8 f9 f10 f11 f12 f15 f17 f18 f22 f23
  generalize vs 21=m2 at *
  generalize vs 13=w13 at *
  generalize vs 14=w14 at *
  generalize vs 16=w16 at *
  have h3:=h2.below hW
  have q3:=(hW.block _ q0.lt).trans q0
  replace b0:=b0.trans (hW.mono b0.size)
  clear h2 q0 hW hgb
  have cx5:=h3.c5
  obtain⟨c0,c1,c2,c3,c4,c5,c6,c7,c8⟩:=h3.core ht ec
  obtain⟨d0,d1,d2,d3,d4,d5,d6,d7,d8⟩:=pb.cells
  have zf:=h3.free
  have hOwn:∀ i,X.Own k.n i->i<w.heap.size:=fun i hi=>HX.out.lt hi
  have hkb:X.kb<w.heap.size:=hOwn _ (.inr (.inr (.inl rfl)))
  have hkb2:w.heap.size≠X.kb:=by omega
  go_upto_region 4 with fail
  go_region
  have h4:=h3.put ht (c:=⟨[s0,s1,s2,s3,s4,s5,s6,s7],PC⟩) HE8.out
  have hw4:ab W (gU W X.kb (t*9) (bQ [s0,s1,s2,s3,s4,s5,s6,s7] PC)) (fun i=>i=X.kb):=.ay (eF _ _ _) (by rintro i e;injection e with e;exact .inl e.symm)
  have q4:=Bk.within q3 hw4 hkb2
  have l4:=dA hm2 hw4 (by rintro b' rfl;exact⟨_,_,h3.cores,by decide⟩)
  have st4:=(bh.ay (n:=k.n) (X:=X) b0).bz (bh.put (X:=X) (n:=k.n) (w:=W) (t:=t*9) (vs:=bQ [s0,s1,s2,s3,s4,s5,s6,s7] PC))
  generalize hv4:(((((((((W.setCell ⟨X.kb,(t*9),Z⟩ (I O s0)).setCell ⟨X.kb,(t*9)+1,Z⟩ (I O s1)).setCell ⟨X.kb,(t*9)+2,Z⟩ (I O s2)).setCell ⟨X.kb,(t*9)+3,Z⟩ (I O s3)).setCell ⟨X.kb,(t*9)+4,Z⟩ (I O s4)).setCell ⟨X.kb,(t*9)+5,Z⟩ (I O s5)).setCell ⟨X.kb,(t*9)+6,Z⟩ (I O s6)).setCell ⟨X.kb,(t*9)+7,Z⟩ (I O s7)).setCell ⟨X.kb,(t*9)+8,Z⟩ (I Q PC))=v4
  replace hv4:gU W X.kb (t*9) (bQ [s0,s1,s2,s3,s4,s5,s6,s7] PC)=v4:=hv4
  rw[hv4] at h4 hw4 q4 l4 st4
  clear hv4 hw4 h3 q3 hm2 b0 c0 c1 c2 c3 c4 c5 c6 c7 c8 d0 d1 d2 d3 d4 d5 d6 d7 d8 zf pb cx5
  replace h4:=h4.below (G _ v4).drew
  replace q4:Bk v4.drew _ _ _:=q4
  replace l4:dF w.heap.size v4.drew m2 ms:=l4
  replace st4:=st4.grown (G _ v4).drew
  generalize v4.drew=v5 at *
  obtain⟨z0,z1,z2,z3,z4,z5⟩:=q4.g9
  have zf:=Bk.free q4
  have p1:=cE q4 m2 (I Q D) (I Q (-1)) (.bool T) (.bool T) (I Q E)
  have p2:=ba (y:=v5) (g:=w.heap.size) m2 (I Q D) (I Q (-1)) (.bool T) (.bool T) (I Q E)
  obtain⟨a9,c9,e9,-⟩:=l4.1.is
  have l6:=dA l4 p2 (by rintro b' rfl;exact⟨_,_,q4,by decide⟩)
  have h6:=h4.iI (n:=w.heap.size) (b:=w.heap.size) (p2.wide (fun i e _=>by omega)) (fun i hi=>.inl (hOwn i hi))
  have st6:=st4.iI (n:=w.heap.size) (b:=w.heap.size) (p2.wide (fun i e _=>by omega)) (F _)
  subst e9
  go_wp2
  generalize hv9:((((((v5.setCell ⟨w.heap.size,0,Z⟩ ((U a9 ms.length c9))).setCell ⟨w.heap.size,1,Z⟩ (I Q D)).setCell ⟨w.heap.size,2,Z⟩ (I Q (-1))).setCell ⟨w.heap.size,3,Z⟩ (.bool T)).setCell ⟨w.heap.size,4,Z⟩ (.bool T)).setCell ⟨w.heap.size,5,Z⟩ (I Q E))=v9
  replace hv9:cC v5 w.heap.size (U a9 ms.length c9) (I Q D) (I Q (-1)) (.bool T) (.bool T) (I Q E)=v9:=hv9
  rw[hv9] at p1 l6 h6 st6
  clear hv9 p2 h4 st4 l4 q4 z0 z1 z2 z3 z4 z5 zf
  obtain⟨o0,o1,o2,o3,o4,o5⟩:=p1.g9
  exact bodyPost_ret (v:=.agg #[(U a9 ms.length c9),I Q D,I Q (-1),.bool T,.bool T,I Q E]) (by simp[results,Tryz.results22,go_sem,o0,o1,o2,o3,o4,o5]) rfl ⟨U a9 ms.length c9,X.M,rfl,l6,h6,st6⟩
end
section
variable {k:Lk}{m:Mc}{t:Nat}{late:Bool}{i:aJ}
theorem gJ (hm:gV k (m.cs t).pc=P i)(h:i.op≠22)(h':i.op≠23):dx k m t late=match fz k.zs i.a (aG (m.cs t).xs i.s.toNat) with
 | none=>(m,eZ)
 | some a=>p5 k m t (m.cs t) late i a:=by
 unfold dx
 simp only[hm,if_neg h,if_neg h']
 rfl
end
theorem zW (xs:List Int)(p:Int)(hx:xs.length=8)(w:World):(binOp .neq 112 (rv xs p) (rv xs p)).run Tryz.prog w=.ok (.bool T) w:=by
 obtain⟨x0,x1,x2,x3,x4,x5,x6,x7,rfl⟩:=aC hx
 unfold rv
 simp only[da,List.map_cons,List.map_nil,List.cons_append,List.nil_append]
 have hu:=Tryz.underlying112
 have hs:=fun W=>uG x0 x1 x2 x3 x4 x5 x6 x7 9997 W
 simp only[Nat.reduceAdd] at hs
 go_simp
section
variable {w w':World}{X:XP}{Y:YP}{k:Lk}{m:Mc}
theorem Ey.many (h:Ey w Y k m)(t:Nat)(ht:t<k.n):
 Calls Tryz.prog 38 #[K (P ⟨Y.x,0,Z⟩),I Q t] w fun e w'=>e=.returned (I Q (nC k.each m.pn t))/\∃ j,w'=w.drewN j:=by
 obtain⟨fr,os,c,hs⟩:=h.same
 have hle:(m.pn.free t).length<=k.each:=by
  have h1:=hs.own t ht
  exact kf k.each (t*k.each) _ (hs.dup t ht) (fun q hq=>⟨(h1 q hq).1,(h1 q hq).2.1⟩)
 have:=Cm h.d9 hs.few hs.eight t ht hle
 refine this.mono ?_
 rintro e w' ⟨rfl,h2⟩
 exact⟨by rw[show ((k.each-(m.pn.free t).length:Nat):Int)=nC k.each m.pn t by unfold nC;omega],h2⟩
theorem tE (hx:Ex w X k m)(hy:Ey w Y k m):
 Calls Tryz.prog 26 #[K (P ⟨X.x,0,Z⟩),K (P ⟨Y.y,0,Z⟩)] w fun e w'=>e=.returned (.bool true)/\Below w.heap.size w w':=by
 have hn64:=hx.lk.n64
 have hwl:m.ws.length<=8192:=by rw[hx.mc.len];exact hx.lk.few
 have hW:=BX hx
 go_enter Tryz.func26,Tryz.ntmps26
 go_wp2_with fail
 refine hW.mono ?_
 rintro e y ⟨q,rfl,hQ,-,hq,hgr⟩
 have hb:=aP hgr
 have hx1:=hx.below hb
 have hy1:=hy.below hb
 clear hW hgr hx hy hq
 obtain⟨aw,capw,ew,hw1,hw2,hw3⟩:=hy1.tq
 unfold maxLen at hw2
 have cx4:=hy1.c4
 rw[ew] at cx4
 obtain⟨gk,capk,ek,hk1,hk2,hkb,hkf,-⟩:=hy1.oO
 unfold maxLen at hk2
 have cx6:=hy1.c6
 rw[ek] at cx6
 go_upto_region 2 with fail
 have g4:=fun g:gp y=>g.cell cx4
 have g6:=fun g:gp y=>g.cell cx6
 have HT:Hid (∀ g:gp y,Calls Tryz.prog 55 #[K (P ⟨X.x,0,Z⟩)] g.x fun e y'=>e=.returned (I Q k.n)/\g.x=y'):=H fun g=>wS (hx1.below g.ok)
 refine ar (by kernel_rfl) (by kernel_rfl) ?_
 repeat (go_big_quiet_step ((go_at_call 55;with_reducible exact qZ (HT.out _))))
 refine wpQuiet_nil ?_
 rintro z ⟨⟨_,hz⟩,rfl⟩
 have HX:=H (hx1.below hz)
 have HY:=H (hy1.below hz)
 replace hQ:=(hz.block _ hQ.lt).trans hQ
 have HB:=H (hb.trans (hz.mono hb.size))
 clear hx1 hy1 hb hz cx4 cx6 g4 g6 HT hw3 hkf hk1
 have HW3:Hid (∀ i,i<m.ws.length->∃ g,aw=P ⟨g,0,Z⟩/\g<z.heap.size/\z.cell? ⟨g,i,Z⟩=P (I O (aG m.ws i))):=H fun i hi=>by
  obtain⟨a2,cap2,e2,_,_,h3⟩:=HY.out.tq
  obtain⟨g,e3,e4,_,h5⟩:=h3 (by omega)
  rw[ew] at e2
  injection e2 with e2
  refine⟨g,by rw[e2];exact e3,HY.out.words.lt e4,h5 i hi⟩
 have HQ:=H hQ
 have q4:z.cell? ⟨Y.y,4,Z⟩=P (U aw m.ws.length capw):=by have:=HY.out.c4;rw[ew] at this;exact this
 clear hQ
 go_wp2
 go_loopw [30] (fun iv wr=>∃ i:Nat,i<=m.ws.length/\iv=I Q i/\Below z.heap.size z wr) (fun iv _=>m.ws.length-(intOf iv).toNat)
 case atStart=>exact⟨0,Nat.zero_le _,rfl,G _ _⟩
 case round=>
  clear q4
  obtain⟨i,hi,rfl,hb⟩:=hrel
  by_cases hlt:i<m.ws.length
  ·obtain⟨gw,rfl,hgl,cw⟩:=HW3.out i hlt
   have c1:=(hb.cell (p:=⟨gw,i,Z⟩) hgl).trans cw
   have q4:wr.cell? ⟨Y.y,4,Z⟩=P (U (P ⟨gw,0,Z⟩) m.ws.length capw):=by
    have:=(HY.out.below hb).c4;rw[ew] at this;exact this
   have c2:wr.cell? ⟨q,i,Z⟩=P (I O (aG m.ws i)):=by
    have h5:Bk wr q _ _:=(hb.block _ (Bk.lt HQ.out)).trans HQ.out
    have:=h5.cell i
    rw[mB _ i hlt] at this
    exact this
   have hil:(i:Int)<m.ws.length:=by omega
   clear cw
   generalize aG m.ws i=V at *
   go_upto_region 7 with fail
   go_quiet (fail)
   have hb2:=hb.trans ((⟨rfl,rfl,rfl,F _,fun _ _=>rfl⟩:Below wr.heap.size wr (wr.drewN nq)).mono hb.size)
   clear c1 c2 q4 hb
   generalize wr.drewN nq=wy at *
   go_wp2
   go_roundw
   case rel=>exact⟨i+1,by omega,by go_num,hb2⟩
   case measure=>simp[intOf];omega
  ·obtain rfl:i=m.ws.length:=by omega
   have q6:wr.cell? ⟨Y.y,6,Z⟩=P (U (P ⟨gk,0,Z⟩) k.n capk):=by
    have:=(HY.out.below hb).c6;rw[ek] at this;exact this
   have HX2:=H (HX.out.below hb)
   have HY2:=H (HY.out.below hb)
   have HB2:=H (HB.out.trans (hb.mono HB.out.size))
   clear hb HW3 HQ HB HX HY
   generalize wr=wq at *
   go_wp2
   clear q6
   go_loopw [51] (fun tv wx=>∃ t:Nat,t<=k.n/\tv=I Q t/\Below wq.heap.size wq wx) (fun tv _=>k.n-(intOf tv).toNat)
   case atStart=>exact⟨0,Nat.zero_le _,rfl,G _ _⟩
   case round=>
    obtain⟨t,ht,rfl,hb⟩:=hrel
    by_cases hlt:t<k.n
    ·have hX:=HX2.out.below hb
     have hY:=HY2.out.below hb
     have d6:=hY.c6
     rw[ek] at d6
     have d5:=hY.c5
     obtain⟨r0,r1,r2,r3,r4,r5,r6,r7,pc,ec⟩:=hY.bB hlt
     have h8:bg [r0,r1,r2,r3,r4,r5,r6,r7]:=by have:=hY.mc.cs t hlt;rw[ec] at this;exact this
     obtain⟨c0,c1,c2,c3,c4,c5,c6,c7,c8⟩:=hY.core hlt ec ek
     have htl:(t:Int)<k.n:=by omega
     have heq:∀ W,(binOp .neq 112 (.agg #[I Q r0,I Q r1,I Q r2,I Q r3,I Q r4,I Q r5,I Q r6,I Q r7,I Q pc]) (.agg #[I Q r0,I Q r1,I Q r2,I Q r3,I Q r4,I Q r5,I Q r6,I Q r7,I Q pc])).run Tryz.prog W=.ok (.bool T) W:=fun W=>zW [r0,r1,r2,r3,r4,r5,r6,r7] pc rfl W
     have HC:Hid (∀ g:gp wr,Calls Tryz.prog 57 #[K (P ⟨X.x,0,Z⟩),I Q t] g.x fun e y'=>e=.returned (.agg #[I O r0,I O r1,I O r2,I O r3,I O r4,I O r5,I O r6,I O r7,I Q pc])/\Below g.x.heap.size g.x y'):=H fun g=>by
      have h1:=DC (hX.below g.ok) t hlt
      rw[ec] at h1
      exact h1
     have HR:Hid (∀ g:gp wr,Calls Tryz.prog 56 #[.agg #[I O r0,I O r1,I O r2,I O r3,I O r4,I O r5,I O r6,I O r7,I Q pc]] g.x fun e y'=>e=.returned (.agg #[I Q r0,I Q r1,I Q r2,I Q r3,I Q r4,I Q r5,I Q r6,I Q r7,I Q pc])/\Below g.x.heap.size g.x y'):=H fun g=>D9 [r0,r1,r2,r3,r4,r5,r6,r7] pc h8 g.x
     obtain⟨MM,hMM⟩:∃ M,M=nC k.each m.pn t:=⟨_,rfl⟩
     have HO:Hid (∀ g:gp wr,Calls Tryz.prog 58 #[K (P ⟨X.x,0,Z⟩),I Q t] g.x fun e y'=>e=.returned (I Q MM)/\Below g.x.heap.size g.x y'):=H fun g=>by
      rw[hMM]
      exact(EY (hX.below g.ok) t hlt).mono fun e y' ⟨h1,j,h2⟩=>⟨h1,h2 ▸ ⟨rfl,rfl,rfl,F _,fun _ _=>rfl⟩⟩
     have HM:Hid (∀ g:gp wr,Calls Tryz.prog 38 #[K (P ⟨Y.x,0,Z⟩),I Q t] g.x fun e y'=>e=.returned (I Q MM)/\Below g.x.heap.size g.x y'):=H fun g=>by
      rw[hMM]
      exact((hY.below g.ok).many t hlt).mono fun e y' ⟨h1,j,h2⟩=>⟨h1,h2 ▸ ⟨rfl,rfl,rfl,F _,fun _ _=>rfl⟩⟩
     clear hX hY hMM h8 ec
     go_upto_region 13 with fail
     have g5:=fun g:gp wr=>g.cell d5
     have g6:=fun g:gp wr=>g.cell d6
     have gc0:=fun g:gp wr=>g.cell c0
     have gc1:=fun g:gp wr=>g.cell c1
     have gc2:=fun g:gp wr=>g.cell c2
     have gc3:=fun g:gp wr=>g.cell c3
     have gc4:=fun g:gp wr=>g.cell c4
     have gc5:=fun g:gp wr=>g.cell c5
     have gc6:=fun g:gp wr=>g.cell c6
     have gc7:=fun g:gp wr=>g.cell c7
     have gc8:=fun g:gp wr=>g.cell c8
     clear d5 d6 c0 c1 c2 c3 c4 c5 c6 c7 c8
     refine ar (by kernel_rfl) (by kernel_rfl) ?_
     repeat (go_big_quiet_step (first | (go_at_call 57;with_reducible exact ag (HC.out _)) | (go_at_call 56;with_reducible exact ag (HR.out _)) | (go_at_call 58;with_reducible exact ag (HO.out _)) | (go_at_call 38;with_reducible exact ag (HM.out _))))
     refine wpQuiet_nil ?_
     rintro wz ⟨⟨_,hz⟩,rfl⟩
     have hF:=hb.trans (hz.mono hb.size)
     clear hb hz HC HR HO HM heq
     go_wp2
     go_roundw
     case rel=>exact⟨t+1,by omega,by go_num,hF⟩
     case measure=>simp[intOf];omega
    ·have hF:=HB2.out.trans (hb.mono HB2.out.size)
     go_wp2
     go_ret
     exact⟨rfl,hF⟩
end
section
variable {w w':World}{Y:YP}{k:Lk}{m:Mc}
theorem Bp (h:Ey w Y k m)(t:Nat)(ht:t<k.n)(c:kF)(hc:bg c.xs)(o:Ot)(v0:Value)(hv0:v0=U Z 0 0):
 Calls Tryz.prog 47 #[K (P ⟨Y.y,0,Z⟩),I Q t,rv c.xs c.pc,Bj v0 o] w (fB w Y k (ie k m t c o)):=by
 subst hv0
 have hnn:=h.lk.n64
 have hl:=h.lk.parts.2.1
 have HR0:=fun(v:Value) W hW=>E6 ⟨k.l,k.lo,k.un⟩ v c.xs c.pc t W hW hl h.lk.ok hc (by omega) (by omega)
 have hE:=fT h.lk.ok (self:=(t:Int)) (by omega) (by omega) 256 c.xs c.pc [] hc
 obtain⟨cxs,pc⟩:=c
 simp only at hc HR0 hE ⊢
 obtain⟨r0,r1,r2,r3,r4,r5,r6,r7,rfl⟩:=aC hc.1
 obtain⟨RR,hRR⟩:∃ R,R=fK (t:Int) k.l 256 [r0,r1,r2,r3,r4,r5,r6,r7] pc []:=⟨_,rfl⟩
 rw[<-hRR] at hE
 obtain⟨oms,od,oa,ow,os,oe⟩:=o
 have HR:Hid (ie k m t ⟨[r0,r1,r2,r3,r4,r5,r6,r7],pc⟩ ⟨oms,od,oa,ow,os,oe⟩=({ m with cs:=eO m.cs t ⟨RR.xs,RR.pc⟩ },⟨RR.ms,RR.done,oa,ow,os,RR.e⟩)):=H (by unfold ie;simp only[hRR])
 have HX:=H h
 obtain⟨sxs,PC,ms,D,E⟩:=RR
 simp only at hE HR
 obtain⟨s0,s1,s2,s3,s4,s5,s6,s7,rfl⟩:=aC hE.1
 have HE8:=H hE
 have HB:Hid (∀ W,Ey W Y k m->Calls Tryz.prog 78 #[.agg #[I Q r0,I Q r1,I Q r2,I Q r3,I Q r4,I Q r5,I Q r6,I Q r7,I Q pc],.agg #[Y.cv,I Q k.lo,I Q k.un],I Q t] W fun e w'=>∃ m5,e=.returned (.tuple #[.agg #[I Q s0,I Q s1,I Q s2,I Q s3,I Q s4,I Q s5,I Q s6,I Q s7,I Q PC],m5,I Q D,I Q E])/\eG .i64 3 w' m5 ms/\Below W.heap.size W w'):=H fun W hW=>by
  have h1:=HR0 _ W hW.pv.1
  rw[<-hRR] at h1
  exact h1.mono fun e w' ⟨m5,q1,q2,q3⟩=>⟨m5,q1,q2,q3⟩
 clear HR0 hE hRR hc
 rw[HR.out]
 clear HR
 unfold Bj rv
 simp only[da,List.map_cons,List.map_nil,List.cons_append,List.nil_append]
 have HOT:Hid (∀ v:Value,Bj v ⟨ms,D,oa,ow,os,E⟩=.agg #[v,I Q D,I Q oa,I Q (aM ow),I Q (aM os),I Q E]):=H fun v=>rfl
 have q0:=((Rb.made w [r0,r1,r2,r3,r4,r5,r6,r7] pc).alloc (J #[U Z 0 0,I Q od,I Q oa,I Q (aM ow),I Q (aM os),I Q oe] 67)).alloc (J #[U Z 0 0,I Q 0,I Q 0,I Q 0,I Q 0,I Q 0] 67)
 have q1:=(Bk.made (w.alloc (J #[I Q r0,I Q r1,I Q r2,I Q r3,I Q r4,I Q r5,I Q r6,I Q r7,I Q pc] 112)) 67 #[U Z 0 0,I Q od,I Q oa,I Q (aM ow),I Q (aM os),I Q oe]).alloc (J #[U Z 0 0,I Q 0,I Q 0,I Q 0,I Q 0,I Q 0] 67)
 have q2:=Bk.made ((w.alloc (J #[I Q r0,I Q r1,I Q r2,I Q r3,I Q r4,I Q r5,I Q r6,I Q r7,I Q pc] 112)).alloc (J #[U Z 0 0,I Q od,I Q oa,I Q (aM ow),I Q (aM os),I Q oe] 67)) 67 #[U Z 0 0,I Q 0,I Q 0,I Q 0,I Q 0,I Q 0]
 simp only[World.size_alloc] at q1 q2
 simp only[da,List.map_cons,List.map_nil,List.cons_append,List.nil_append] at q0
 have b0:Below w.heap.size w (((w.alloc (J #[I Q r0,I Q r1,I Q r2,I Q r3,I Q r4,I Q r5,I Q r6,I Q r7,I Q pc] 112)).alloc (J #[U Z 0 0,I Q od,I Q oa,I Q (aM ow),I Q (aM os),I Q oe] 67)).alloc (J #[U Z 0 0,I Q 0,I Q 0,I Q 0,I Q 0,I Q 0] 67)):=(((G _ _).alloc (F _) _).alloc (by simp) _).alloc (by simp;omega) _
 generalize aM ow=WR at *
 generalize aM os=ST at *
 go_enter Tryz.func47,Tryz.ntmps47
 go_upto_region 1 with fail
 generalize ((w.alloc (J #[I Q r0,I Q r1,I Q r2,I Q r3,I Q r4,I Q r5,I Q r6,I Q r7,I Q pc] 112)).alloc (J #[U Z 0 0,I Q od,I Q oa,I Q WR,I Q ST,I Q oe] 67)).alloc (J #[U Z 0 0,I Q 0,I Q 0,I Q 0,I Q 0,I Q 0] 67)=y at *
 replace q0:Rb y w.heap.size [r0,r1,r2,r3,r4,r5,r6,r7] pc:=q0
 have h2:=h.below b0
 obtain⟨aV,cV,eV⟩:=h.pv.2
 rw[eV] at HB
 have HV:=H eV
 clear h eV
 refine iR 12 13 112 #[I Q 0,I Q 0,I Q 0,I Q 0,I Q 0,I Q 0,I Q 0,I Q 0,I Q 0] (fun W b=>bm W b (I Q s0) (I Q s1) (I Q s2) (I Q s3) (I Q s4) (I Q s5) (I Q s6) (I Q s7) (I Q PC)) (fun W b=>Rb W b [s0,s1,s2,s3,s4,s5,s6,s7] PC) (fun vs=>{ tmps:=#[K (P ⟨Y.y,0,Z⟩),I Q (t:Int),.agg #[I Q r0,I Q r1,I Q r2,I Q r3,I Q r4,I Q r5,I Q r6,I Q r7,I Q pc],.agg #[U Z 0 0,I Q od,I Q oa,I Q WR,I Q ST,I Q oe],C,C,K (P ⟨w.heap.size,0,Z⟩),K (P ⟨w.heap.size+1,0,Z⟩),K (P ⟨w.heap.size+1+1,0,Z⟩),vs 12,vs 14,vs 15,vs 16,vs 7,vs 0,vs 1,vs 2,vs 3,vs 4,vs 5,vs 6,vs 8,vs 9,vs 10,vs 11,C,C,C,C,C,C,C,C,C,C,C,C,C,C],defers:=[] }) (lh [(6,(ll (.agg #[I Q s0,I Q s1,I Q s2,I Q s3,I Q s4,I Q s5,I Q s6,I Q s7,I Q PC]) ms D E)),(7,(ll (.agg #[I Q s0,I Q s1,I Q s2,I Q s3,I Q s4,I Q s5,I Q s6,I Q s7,I Q PC]) ms D E)),(9,(fun v W=>eG .i64 3 W v ms)),(14,(fun v W=>eG .i64 3 W v ms))] [.agg #[I Q r0,I Q r1,I Q r2,I Q r3,I Q r4,I Q r5,I Q r6,I Q r7,I Q pc],K (P ⟨Y.y,0,Z⟩),K (P ⟨Y.y,0,Z⟩),K (P ⟨Y.y,0,Z⟩),.agg #[U aV k.l.length cV,I Q k.lo,I Q k.un],I Q (t:Int),C,C,.agg #[I Q s0,I Q s1,I Q s2,I Q s3,I Q s4,I Q s5,I Q s6,I Q s7,I Q PC],C,I Q D,I Q E,C,C,C,I Q D,I Q E]) ?ghm ?ghr ?ghns ?ghlen ?glit ?gst ?gst2 ?gd1 ?gbel ?gdn ?gnew ?gsto ?gops ?gdone
 case ghm=>kernel_rfl
 case ghr=>kernel_rfl
 case ghns=>kernel_rfl
 case ghlen=>rfl
 case glit=>intro vs;rfl
 case gst=>exact dz (by
  intro p hp
  simp only[List.mem_cons,List.not_mem_nil,or_false] at hp
  rcases hp with rfl|rfl|rfl|rfl
  ·exact fun v W W2 h hb=>ll.below h hb
  ·exact fun v W W2 h hb=>ll.below h hb
  ·exact fun v W W2 h hb=>fO h hb
  ·exact fun v W W2 h hb=>fO h hb)
 case gst2=>
  have hk:=gL (R:=fun W W2=>∃ b,Bk W b 112 #[I Q 0,I Q 0,I Q 0,I Q 0,I Q 0,I Q 0,I Q 0,I Q 0,I Q 0]/\W2=bm W b (I Q s0) (I Q s1) (I Q s2) (I Q s3) (I Q s4) (I Q s5) (I Q s6) (I Q s7) (I Q PC)) (ps:=[(6,(ll (.agg #[I Q s0,I Q s1,I Q s2,I Q s3,I Q s4,I Q s5,I Q s6,I Q s7,I Q PC]) ms D E)),(7,(ll (.agg #[I Q s0,I Q s1,I Q s2,I Q s3,I Q s4,I Q s5,I Q s6,I Q s7,I Q PC]) ms D E)),(9,(fun v W=>eG .i64 3 W v ms)),(14,(fun v W=>eG .i64 3 W v ms))]) (l:=[.agg #[I Q r0,I Q r1,I Q r2,I Q r3,I Q r4,I Q r5,I Q r6,I Q r7,I Q pc],K (P ⟨Y.y,0,Z⟩),K (P ⟨Y.y,0,Z⟩),K (P ⟨Y.y,0,Z⟩),.agg #[U aV k.l.length cV,I Q k.lo,I Q k.un],I Q (t:Int),C,C,.agg #[I Q s0,I Q s1,I Q s2,I Q s3,I Q s4,I Q s5,I Q s6,I Q s7,I Q PC],C,I Q D,I Q E,C,C,C,I Q D,I Q E]) (by
   intro p hp
   simp only[List.mem_cons,List.not_mem_nil,or_false] at hp
   rcases hp with rfl|rfl|rfl|rfl
   ·rintro v W W2 ⟨m5,e5,h5⟩ ⟨b,hk,rfl⟩;exact⟨m5,e5,iy h5 hk (by decide) (I Q s0) (I Q s1) (I Q s2) (I Q s3) (I Q s4) (I Q s5) (I Q s6) (I Q s7) (I Q PC)⟩
   ·rintro v W W2 ⟨m5,e5,h5⟩ ⟨b,hk,rfl⟩;exact⟨m5,e5,iy h5 hk (by decide) (I Q s0) (I Q s1) (I Q s2) (I Q s3) (I Q s4) (I Q s5) (I Q s6) (I Q s7) (I Q PC)⟩
   ·rintro v W W2 h ⟨b,hk,rfl⟩;exact iy h hk (by decide) (I Q s0) (I Q s1) (I Q s2) (I Q s3) (I Q s4) (I Q s5) (I Q s6) (I Q s7) (I Q PC)
   ·rintro v W W2 h ⟨b,hk,rfl⟩;exact iy h hk (by decide) (I Q s0) (I Q s1) (I Q s2) (I Q s3) (I Q s4) (I Q s5) (I Q s6) (I Q s7) (I Q PC))
  exact fun i v W b h hb=>hk i v W _ h ⟨b,hb,rfl⟩
 case gd1=>exact fun W W2 b h hb=>Rb.below h hb
 case gbel=>exact fun W b hb h=>aX h hb (I Q s0) (I Q s1) (I Q s2) (I Q s3) (I Q s4) (I Q s5) (I Q s6) (I Q s7) (I Q PC)
 case gdn=>exact fun W b h=>bx h (I Q s0) (I Q s1) (I Q s2) (I Q s3) (I Q s4) (I Q s5) (I Q s6) (I Q s7) (I Q PC)
 case gnew=>
  intro o ho vs W hW
  injection ho with ho
  subst ho
  refine aa rfl ?_
  go_simp
  exact⟨⟨W.heap.size,rfl,hW.size,Rb.made W [0,0,0,0,0,0,0,0] 0⟩,(G _ _).alloc (F _) _⟩
 case gsto=>
  intro o ho vs W b hW hd hb hk
  injection ho with ho
  subst ho
  have ev:vs 8=.agg #[I Q s0,I Q s1,I Q s2,I Q s3,I Q s4,I Q s5,I Q s6,I Q s7,I Q PC]:=hd 8 (by decide) rfl
  have zf:=Bk.free hk
  obtain⟨z0,z1,z2,z3,z4,z5,z6,z7,z8⟩:=Rb.cells hk
  refine aO rfl ?_
  clear hd
  go_simp
  rfl
 case gops=>
  refine⟨?_,?_,?_,?_,?_,?_,?_,?_,?_,?_,?_,?_,?_,?_,?_,?_,?_,trivial⟩
  ·intro _ vs W hW hd
   refine aa rfl ?_
   have hq:=h2.below hW;have c0x:=hq.c0;rw[HV.out] at c0x;have c1x:=hq.c1;have c2x:=hq.c2;obtain⟨c0,c1,c2,c3,c4,c5,c6,c7,c8⟩:=(Rb.below q0 hW).cells;clear hq
   go_simp
   exact⟨rfl,G _ _⟩
  ·intro _ vs W hW hd
   refine aa rfl ?_
   go_simp
   exact⟨rfl,G _ _⟩
  ·intro _ vs W hW hd
   refine aa rfl ?_
   have e1:vs 1=K (P ⟨Y.y,0,Z⟩):=hd 1 (by decide) rfl
   go_simp
   exact⟨rfl,G _ _⟩
  ·intro _ vs W hW hd
   refine aa rfl ?_
   have e2:vs 2=K (P ⟨Y.y,0,Z⟩):=hd 2 (by decide) rfl
   go_simp
   exact⟨rfl,G _ _⟩
  ·intro _ vs W hW hd
   refine aa rfl ?_
   have e3:vs 3=K (P ⟨Y.y,0,Z⟩):=hd 3 (by decide) rfl
   have hq:=h2.below hW;have c0x:=hq.c0;rw[HV.out] at c0x;have c1x:=hq.c1;have c2x:=hq.c2;obtain⟨c0,c1,c2,c3,c4,c5,c6,c7,c8⟩:=(Rb.below q0 hW).cells;clear hq
   go_simp
   exact⟨rfl,G _ _⟩
  ·intro _ vs W hW hd
   refine aa rfl ?_
   go_simp
   exact⟨rfl,G _ _⟩
  ·intro _ vs W hW hd
   refine aa rfl ?_
   have e0:vs 0=.agg #[I Q r0,I Q r1,I Q r2,I Q r3,I Q r4,I Q r5,I Q r6,I Q r7,I Q pc]:=hd 0 (by decide) rfl
   have e4:vs 4=.agg #[U aV k.l.length cV,I Q k.lo,I Q k.un]:=hd 4 (by decide) rfl
   have e5:vs 5=I Q (t:Int):=hd 5 (by decide) rfl
   have HS:=H (HB.out W (h2.below hW))
   clear hd
   go_simp
   refine HS.out.mono ?_
   rintro e z ⟨m5,he,hm5,hz⟩
   exact⟨_,he,⟨m5,rfl,hm5⟩,hz⟩
  ·intro _ vs W hW hd
   refine aa rfl ?_
   obtain⟨m5,e6,hm5⟩:ll (.agg #[I Q s0,I Q s1,I Q s2,I Q s3,I Q s4,I Q s5,I Q s6,I Q s7,I Q PC]) ms D E (vs 6) W:=hd 6 (by decide) rfl
   clear hd
   go_simp
   exact⟨⟨m5,rfl,hm5⟩,G _ _⟩
  ·intro _ vs W hW hd
   refine aa rfl ?_
   obtain⟨m5,e7,hm5⟩:ll (.agg #[I Q s0,I Q s1,I Q s2,I Q s3,I Q s4,I Q s5,I Q s6,I Q s7,I Q PC]) ms D E (vs 7) W:=hd 7 (by decide) rfl
   clear hd
   go_simp
   exact⟨rfl,G _ _⟩
  ·intro _ vs W hW hd
   refine aa rfl ?_
   obtain⟨m5,e7,hm5⟩:ll (.agg #[I Q s0,I Q s1,I Q s2,I Q s3,I Q s4,I Q s5,I Q s6,I Q s7,I Q PC]) ms D E (vs 7) W:=hd 7 (by decide) rfl
   clear hd
   go_simp
   exact⟨hm5,G _ _⟩
  ·intro _ vs W hW hd
   refine aa rfl ?_
   obtain⟨m5,e7,hm5⟩:ll (.agg #[I Q s0,I Q s1,I Q s2,I Q s3,I Q s4,I Q s5,I Q s6,I Q s7,I Q PC]) ms D E (vs 7) W:=hd 7 (by decide) rfl
   clear hd
   go_simp
   exact⟨rfl,G _ _⟩
  ·intro _ vs W hW hd
   refine aa rfl ?_
   obtain⟨m5,e7,hm5⟩:ll (.agg #[I Q s0,I Q s1,I Q s2,I Q s3,I Q s4,I Q s5,I Q s6,I Q s7,I Q PC]) ms D E (vs 7) W:=hd 7 (by decide) rfl
   clear hd
   go_simp
   exact⟨rfl,G _ _⟩
  ·exact fun h=>absurd h (by decide)
  ·exact fun h=>absurd h (by decide)
  ·intro _ vs W hW hd
   refine aa rfl ?_
   have h8:eG .i64 3 W (vs 9) ms:=hd 9 (by decide) rfl
   clear hd
   go_simp
   exact⟨h8,G _ _⟩
  ·intro _ vs W hW hd
   refine aa rfl ?_
   have e10:vs 10=I Q D:=hd 10 (by decide) rfl
   go_simp
   exact⟨rfl,G _ _⟩
  ·intro _ vs W hW hd
   refine aa rfl ?_
   have e11:vs 11=I Q E:=hd 11 (by decide) rfl
   go_simp
   exact⟨rfl,G _ _⟩
 case gdone=>
  intro vs W b hW hf hgv hgb pb
  have f0:vs 0=.agg #[I Q r0,I Q r1,I Q r2,I Q r3,I Q r4,I Q r5,I Q r6,I Q r7,I Q pc]:=hf 0 (by decide) rfl
  have f1:vs 1=K (P ⟨Y.y,0,Z⟩):=hf 1 (by decide) rfl
  have f2:vs 2=K (P ⟨Y.y,0,Z⟩):=hf 2 (by decide) rfl
  have f3:vs 3=K (P ⟨Y.y,0,Z⟩):=hf 3 (by decide) rfl
  have f4:vs 4=.agg #[U aV k.l.length cV,I Q k.lo,I Q k.un]:=hf 4 (by decide) rfl
  have f5:vs 5=I Q (t:Int):=hf 5 (by decide) rfl
  have f8:vs 8=.agg #[I Q s0,I Q s1,I Q s2,I Q s3,I Q s4,I Q s5,I Q s6,I Q s7,I Q PC]:=hf 8 (by decide) rfl
  have f10:vs 10=I Q D:=hf 10 (by decide) rfl
  have f11:vs 11=I Q E:=hf 11 (by decide) rfl
  have f15:vs 15=I Q D:=hf 15 (by decide) rfl
  have f16:vs 16=I Q E:=hf 16 (by decide) rfl
  simp only[f0,f1,f2,f3,f4,f5,f8,f10,f11,f15,f16]
  have hm2:eG .i64 3 W (vs 14) ms:=hf 14 (by decide) rfl
  simp only[hgv]
  clear hf hgv f0 f1 f2 f3 f4 f5 f8 f10 f11 f15 f16
  generalize vs 14=m2 at *
  generalize vs 6=w6 at *
  generalize vs 7=w7 at *
  generalize vs 9=w9 at *
  have h3:=h2.below hW
  replace q1:=(hW.block _ q1.lt).trans q1
  replace q2:=(hW.block _ q2.lt).trans q2
  replace b0:=b0.trans (hW.mono b0.size)
  clear h2 q0 hW hgb
  obtain⟨gk,capk,ek,hk1,hk2,hkb,hkf,-⟩:=h3.oO
  have cx6:=h3.c6
  rw[ek] at cx6
  obtain⟨u0,u1,u2,u3,u4,u5,u6,u7,pcu,ecu⟩:=h3.bB ht
  obtain⟨c0,c1,c2,c3,c4,c5,c6,c7,c8⟩:=h3.core ht ecu ek
  obtain⟨d0,d1,d2,d3,d4,d5,d6,d7,d8⟩:=pb.cells
  unfold maxLen at hk2
  go_upto_region 2 with fail
  go_region
  obtain⟨h4,st4⟩:=h3.put ht (c:=⟨[s0,s1,s2,s3,s4,s5,s6,s7],PC⟩) HE8.out ek
  have hw4:ab W (gU W gk (t*9) (da [s0,s1,s2,s3,s4,s5,s6,s7] PC)) (fun i=>i=gk):=.ay (eF _ _ _) (by rintro i e;injection e with e;exact .inl e.symm)
  have hgl:gk<w.heap.size:=HX.out.lt (.inr (.inr (.inr (.inr (.inr (.inl hkb))))))
  have p1:=Bk.within q1 hw4 (by omega)
  have p2:=Bk.within q2 hw4 (by omega)
  have l4:=fU hm2 hw4 (by rintro b' rfl;obtain⟨cs0,hb0⟩:=aZ h3.cores hkb;exact⟨_,_,hb0,by decide⟩)
  have st5:=(bA.ay (n:=k.n) (Y:=Y) b0).bz st4
  generalize hv4:(((((((((W.setCell ⟨gk,(t*9),Z⟩ (I Q s0)).setCell ⟨gk,(t*9)+1,Z⟩ (I Q s1)).setCell ⟨gk,(t*9)+2,Z⟩ (I Q s2)).setCell ⟨gk,(t*9)+3,Z⟩ (I Q s3)).setCell ⟨gk,(t*9)+4,Z⟩ (I Q s4)).setCell ⟨gk,(t*9)+5,Z⟩ (I Q s5)).setCell ⟨gk,(t*9)+6,Z⟩ (I Q s6)).setCell ⟨gk,(t*9)+7,Z⟩ (I Q s7)).setCell ⟨gk,(t*9)+8,Z⟩ (I Q PC))=v4
  replace hv4:gU W gk (t*9) (da [s0,s1,s2,s3,s4,s5,s6,s7] PC)=v4:=hv4
  rw[hv4] at h4 p1 p2 l4 st5
  clear hv4 hw4 h3 q1 q2 hm2 b0 st4 c0 c1 c2 c3 c4 c5 c6 c7 c8 d0 d1 d2 d3 d4 d5 d6 d7 d8 hkf pb cx6 hgl
  replace h4:=h4.below (G _ v4).drew
  replace p1:Bk v4.drew _ _ _:=p1
  replace p2:Bk v4.drew _ _ _:=p2
  replace l4:eG .i64 3 v4.drew m2 ms:=l4
  replace st5:=st5.grown (G _ v4).drew
  generalize v4.drew=v5 at *
  obtain⟨a9,c9,e9,-⟩:=l4.is
  subst e9
  have hOwn:∀ i,Y.Own k.n i->i<w.heap.size:=fun i hi=>HX.out.lt hi
  have hw5:ab v5 (((v5.setCell ⟨w.heap.size+1,0,Z⟩ (U a9 ms.length c9)).setCell ⟨w.heap.size+1,1,Z⟩ (I Q D)).setCell ⟨w.heap.size+1,5,Z⟩ (I Q E)) (fun i=>i=w.heap.size+1):=(((ab.refl v5 (fun i=>i=w.heap.size+1)).put _ 0 _ (.inl rfl)).put _ 1 _ (.inl rfl)).put _ 5 _ (.inl rfl)
  have p1':Bk (((v5.setCell ⟨w.heap.size+1,0,Z⟩ (U a9 ms.length c9)).setCell ⟨w.heap.size+1,1,Z⟩ (I Q D)).setCell ⟨w.heap.size+1,5,Z⟩ (I Q E)) (w.heap.size+1) 67 #[U a9 ms.length c9,I Q D,I Q oa,I Q WR,I Q ST,I Q E]:=((p1.put 0 (U a9 ms.length c9)).put 1 (I Q D)).put 5 (I Q E)
  have p2':=p2.within hw5 (by omega)
  have h6:=h4.kept hw5 (fun i hi e=>by have:=hOwn i hi;omega)
  have st6:=st5.oP hw5 (fun i e=>by omega)
  have l6:=fU l4 hw5 (by rintro b' rfl;exact⟨_,_,p1,by decide⟩)
  obtain⟨y0,y1,y2,y3,y4,y5⟩:=p1.g9
  have zf:=Bk.free p1
  go_upto_region 4 with fail
  generalize ((v5.setCell ⟨w.heap.size+1,0,Z⟩ (U a9 ms.length c9)).setCell ⟨w.heap.size+1,1,Z⟩ (I Q D)).setCell ⟨w.heap.size+1,5,Z⟩ (I Q E)=v6 at *
  clear y0 y1 y2 y3 y4 y5 zf hw5 p1 p2 h4 st5 l4
  obtain⟨y0,y1,y2,y3,y4,y5⟩:=p1'.g9
  obtain⟨x0,x1,x2,x3,x4,x5⟩:=p2'.g9
  have zf:=Bk.free p2'
  have o1:=cE p2' (U a9 ms.length c9) (I Q D) (I Q oa) (I Q WR) (I Q ST) (I Q E)
  have o2:=ba (y:=v6) (g:=w.heap.size+1+1) (U a9 ms.length c9) (I Q D) (I Q oa) (I Q WR) (I Q ST) (I Q E)
  have l7:=fU l6 o2 (by rintro b' rfl;exact⟨_,_,p2',by decide⟩)
  have h7:=h6.kept o2 (fun i hi e=>by have:=hOwn i hi;omega)
  have st7:=st6.oP o2 (fun i e=>by omega)
  clear h6 st6 l6
  go_wp2
  generalize hv9:((((((v6.setCell ⟨w.heap.size+1+1,0,Z⟩ (U a9 ms.length c9)).setCell ⟨w.heap.size+1+1,1,Z⟩ (I Q D)).setCell ⟨w.heap.size+1+1,2,Z⟩ (I Q oa)).setCell ⟨w.heap.size+1+1,3,Z⟩ (I Q WR)).setCell ⟨w.heap.size+1+1,4,Z⟩ (I Q ST)).setCell ⟨w.heap.size+1+1,5,Z⟩ (I Q E))=v9
  replace hv9:cC v6 (w.heap.size+1+1) (U a9 ms.length c9) (I Q D) (I Q oa) (I Q WR) (I Q ST) (I Q E)=v9:=hv9
  rw[hv9] at o1 l7 h7 st7
  clear hv9 o2 p1' p2' y0 y1 y2 y3 y4 y5 x0 x1 x2 x3 x4 x5 zf
  obtain⟨o0,o1,o2,o3,o4,o5⟩:=o1.g9
  exact bodyPost_ret (v:=.agg #[U a9 ms.length c9,I Q D,I Q oa,I Q WR,I Q ST,I Q E]) (by simp[results,Tryz.results47,go_sem,o0,o1,o2,o3,o4,o5]) rfl ⟨U a9 ms.length c9,Y,(by rw[HOT.out]),l7,h7,st7⟩
end
def dV (W W2:World):Prop:=∃ b t cs,Bk W b t cs/\t≠3/\ab W W2 (fun i=>i=b)
theorem dV.Db {B:Nat}{W W2:World}{m:Value}{ms:List Int}(h:dV W W2)(hl:dF B W m ms):dF B W2 m ms:=by
 obtain⟨b,t,cs,h1,h2,h3⟩:=h
 exact dA hl h3 (by rintro b' rfl;exact⟨t,cs,h1,h2⟩)
theorem bh.oP {v w w':World}{N:Nat}{X X':XP}{S:Nat->Prop}(h:bh v N X w X')(hw:ab w w' S)(hs:∀ i,S i->v.heap.size<=i):bh v N X w' X':=
 ⟨h.1.bz hw (fun i e=>.inr (hs i e)),h.2.1,h.2.2⟩
structure uv (w:World)(X X':XP)(k:Lk)(m:Mc)(W:World):Prop where
 ex:Ex W X' k m
 st:bh w k.n X W X'
 q:Bk W w.heap.size 64 #[U Z 0 0,I Q 0,I Q 0,.bool T,.bool T,I Q 0]
structure ET (w:World)(X':XP)(n b9 b10:Nat):Prop where
 iI:∀ i,X'.Own n i->i≠w.heap.size/\i≠b9/\i≠b10
 n9:w.heap.size<b9
 n10:b9<b10
def BS (w:World)(X X':XP)(k:Lk)(m:Mc)(b9 b10:Nat)(c0 c1:kF)(ad:Int)(wr:Bool)(ms:List Int)(D E:Int):Nat->World->Prop
 | 0,W=>uv w X X' k m W/\Cb W b9 c0.xs c0.pc/\Bk W b10 64 #[U Z 0 0,I Q (-1),I Q ad,.bool wr,.bool T,I Q 0]
 | 1,W=>uv w X X' k m W/\Cb W b9 c1.xs c1.pc/\Bk W b10 64 #[U Z 0 0,I Q (-1),I Q ad,.bool wr,.bool T,I Q 0]
 | 2,W=>uv w X X' k m W/\Cb W b9 c1.xs c1.pc/\∃ v,dF w.heap.size W v ms/\Bk W b10 64 #[v,I Q (-1),I Q ad,.bool wr,.bool T,I Q 0]
 | 3,W=>uv w X X' k m W/\Cb W b9 c1.xs c1.pc/\∃ v,dF w.heap.size W v ms/\Bk W b10 64 #[v,I Q D,I Q ad,.bool wr,.bool T,I Q 0]
 | _,W=>uv w X X' k m W/\Cb W b9 c1.xs c1.pc/\∃ v,dF w.heap.size W v ms/\Bk W b10 64 #[v,I Q D,I Q ad,.bool wr,.bool T,I Q E]
section
variable {w W W':World}{X X':XP}{k:Lk}{m:Mc}{b9 b10:Nat}{c0 c1:kF}{ad:Int}{wr:Bool}{ms:List Int}{D E:Int}
theorem uv.below (h:uv w X X' k m W)(hb:Below W.heap.size W W'):uv w X X' k m W':=⟨h.ex.below hb,h.st.grown hb,(hb.block _ h.q.lt).trans h.q⟩
theorem uv.iI (h:uv w X X' k m W)(hf:ET w X' k.n b9 b10){S:Nat->Prop}(hw:ab W W' S)(hs:∀ i,S i->i=b9\/i=b10):uv w X X' k m W':=
 ⟨h.ex.kept hw (fun i hi e=>by have:=hf.iI i hi;have:=hs i e;omega),h.st.oP hw (fun i e=>by have:=hs i e;have:=hf.n9;have:=hf.n10;omega),h.q.within hw (fun e=>by have:=hs _ e;have:=hf.n9;have:=hf.n10;omega)⟩
theorem uF {j:Nat}(h:BS w X X' k m b9 b10 c0 c1 ad wr ms D E j W)(hb:Below W.heap.size W W'):BS w X X' k m b9 b10 c0 c1 ad wr ms D E j W':=by
 match j,h with
 | 0,⟨h1,h2,h3⟩=>exact⟨h1.below hb,Cb.below h2 hb,(hb.block _ h3.lt).trans h3⟩
 | 1,⟨h1,h2,h3⟩=>exact⟨h1.below hb,Cb.below h2 hb,(hb.block _ h3.lt).trans h3⟩
 | 2,⟨h1,h2,v,h4,h3⟩=>exact⟨h1.below hb,Cb.below h2 hb,v,eB h4 hb,(hb.block _ h3.lt).trans h3⟩
 | 3,⟨h1,h2,v,h4,h3⟩=>exact⟨h1.below hb,Cb.below h2 hb,v,eB h4 hb,(hb.block _ h3.lt).trans h3⟩
 | _+4,⟨h1,h2,v,h4,h3⟩=>exact⟨h1.below hb,Cb.below h2 hb,v,eB h4 hb,(hb.block _ (Bk.lt h3)).trans h3⟩
theorem DU {s0 s1 s2 s3 s4 s5 s6 s7 u0 u1 u2 u3 u4 u5 u6 u7 PC P2:Int}(hf:ET w X' k.n b9 b10)(h:BS w X X' k m b9 b10 ⟨[s0,s1,s2,s3,s4,s5,s6,s7],PC⟩ ⟨[u0,u1,u2,u3,u4,u5,u6,u7],P2⟩ ad wr ms D E 0 W):
 BS w X X' k m b9 b10 ⟨[s0,s1,s2,s3,s4,s5,s6,s7],PC⟩ ⟨[u0,u1,u2,u3,u4,u5,u6,u7],P2⟩ ad wr ms D E 1 (bm W b9 (I O u0) (I O u1) (I O u2) (I O u3) (I O u4) (I O u5) (I O u6) (I O u7) (I Q P2))/\dV W (bm W b9 (I O u0) (I O u1) (I O u2) (I O u3) (I O u4) (I O u5) (I O u6) (I O u7) (I Q P2)):=by
 obtain⟨h1,h2,h3⟩:=h
 have hW:=gj (y:=W) (g:=b9) (I O u0) (I O u1) (I O u2) (I O u3) (I O u4) (I O u5) (I O u6) (I O u7) (I Q P2)
 have h4:Cb (bm W b9 (I O u0) (I O u1) (I O u2) (I O u3) (I O u4) (I O u5) (I O u6) (I O u7) (I Q P2)) b9 [u0,u1,u2,u3,u4,u5,u6,u7] P2:=bx h2 (I O u0) (I O u1) (I O u2) (I O u3) (I O u4) (I O u5) (I O u6) (I O u7) (I Q P2)
 generalize bm W b9 (I O u0) (I O u1) (I O u2) (I O u3) (I O u4) (I O u5) (I O u6) (I O u7) (I Q P2)=z at *
 exact⟨⟨h1.iI hf hW (fun i e=>.inl e),h4,h3.within hW (by have:=hf.n10;omega)⟩,b9,_,_,h2,by decide,hW⟩
theorem DT {v:Value}(hf:ET w X' k.n b9 b10)(h:BS w X X' k m b9 b10 c0 c1 ad wr ms D E 1 W)(hl:dF w.heap.size W v ms):
 BS w X X' k m b9 b10 c0 c1 ad wr ms D E 2 (W.setCell ⟨b10,0,Z⟩ v)/\dV W (W.setCell ⟨b10,0,Z⟩ v):=by
 obtain⟨h1,h2,h3⟩:=h
 have hW:ab W (W.setCell ⟨b10,0,Z⟩ v) (fun i=>i=b10):=(ab.refl _ _).put _ _ _ (.inl rfl)
 have h5:dV W (W.setCell ⟨b10,0,Z⟩ v):=⟨b10,_,_,h3,by decide,hW⟩
 exact⟨⟨h1.iI hf hW (fun i e=>.inr e),Bk.within h2 hW (by have:=hf.n10;omega),v,h5.Db hl,h3.put 0 v⟩,h5⟩
theorem DS (hf:ET w X' k.n b9 b10)(h:BS w X X' k m b9 b10 c0 c1 ad wr ms D E 2 W):
 BS w X X' k m b9 b10 c0 c1 ad wr ms D E 3 (W.setCell ⟨b10,1,Z⟩ (I Q D))/\dV W (W.setCell ⟨b10,1,Z⟩ (I Q D)):=by
 obtain⟨h1,h2,v,hl,h3⟩:=h
 have hW:ab W (W.setCell ⟨b10,1,Z⟩ (I Q D)) (fun i=>i=b10):=(ab.refl _ _).put _ _ _ (.inl rfl)
 have h5:dV W (W.setCell ⟨b10,1,Z⟩ (I Q D)):=⟨b10,_,_,h3,by decide,hW⟩
 exact⟨⟨h1.iI hf hW (fun i e=>.inr e),Bk.within h2 hW (by have:=hf.n10;omega),v,h5.Db hl,h3.put 1 (I Q D)⟩,h5⟩
theorem DR (hf:ET w X' k.n b9 b10)(h:BS w X X' k m b9 b10 c0 c1 ad wr ms D E 3 W):
 BS w X X' k m b9 b10 c0 c1 ad wr ms D E 4 (W.setCell ⟨b10,5,Z⟩ (I Q E))/\dV W (W.setCell ⟨b10,5,Z⟩ (I Q E)):=by
 obtain⟨h1,h2,v,hl,h3⟩:=h
 have hW:ab W (W.setCell ⟨b10,5,Z⟩ (I Q E)) (fun i=>i=b10):=(ab.refl _ _).put _ _ _ (.inl rfl)
 have h5:dV W (W.setCell ⟨b10,5,Z⟩ (I Q E)):=⟨b10,_,_,h3,by decide,hW⟩
 exact⟨⟨h1.iI hf hW (fun i e=>.inr e),Bk.within h2 hW (by have:=hf.n10;omega),v,h5.Db hl,h3.put 5 (I Q E)⟩,h5⟩
end
section
variable {w w':World}{X:XP}{k:Lk}{m:Mc}
theorem yj (h:Ex w X k m){t:Nat}(ht:t<k.n){i:aJ}{late:Bool}{c:kF}(hc:bg c.xs){r:Dn}(hr:Ds k m t c late i=P r):bg r.c.xs:=by
 unfold Ds at hr
 split at hr
 ·injection hr with hr
  subst hr
  obtain⟨fr,os,cn,hp,hs⟩:=h.d9
  refine hc.put _ ?_
  unfold ww
  cases he:m.pn.free t with
  | nil=>simp only;omega
  | cons q rest=>exact xQ hs (hs.take ht he).1
 ·split at hr
  ·split at hr
   ·cases hr
   ·injection hr with hr
    subst hr
    exact hc
  ·split at hr
   ·cases hr
   ·injection hr with hr
    subst hr
    exact mq h.mc.ws hc
end
theorem yU {k:IntKind}{t:TypeId}{w:World}{v:Value}{xs:List Int}(h:eG k t w v xs):∃ a cap,v=U a xs.length cap/\xs.length<=maxLen/\∀ i,i<xs.length->∃ g,a=P ⟨g,0,Z⟩/\w.cell? ⟨g,i,Z⟩=P (.int k (aG xs i)):=by
 obtain⟨a,cap,e,h1,h2,h3⟩:=h.is
 refine⟨a,cap,e,by omega,fun i hi=>?_⟩
 obtain⟨g,e2,e3,hf,hc⟩:=h3 (by omega)
 exact⟨g,e2,hc i hi⟩
theorem AC (w:World)(o:Ot)(a b:Value)(ha:eG .i64 3 w a o.ms)(hb:eG .i64 3 w b o.ms):
 Calls Tryz.prog 21 #[zC a o,Bj b o] w fun e w'=>e=.returned (.bool true)/\Below w.heap.size w w':=by
 obtain⟨aA,cA,rfl,hm,hA⟩:=yU ha
 obtain⟨aB,cB,rfl,_,hB⟩:=yU hb
 have HA:=H hA
 have HB:=H hB
 obtain⟨ms,dn,ad,wt,st,er⟩:=o
 unfold zC Bj
 simp only at hm HA HB ⊢
 unfold maxLen at hm
 have hw1:(decide (aM wt=1))=wt:=by cases wt <;> rfl
 have hs1:(decide (aM st=1))=st:=by cases st <;> rfl
 have hw2:(aM wt==1)=wt:=by cases wt <;> rfl
 have hs2:(aM st==1)=st:=by cases st <;> rfl
 generalize aM wt=iw at *
 generalize aM st=is at *
 obtain⟨bb,k1,k2⟩:Below w.heap.size w ((w.alloc (J #[U aA ms.length cA,I Q dn,I Q ad,.bool wt,.bool st,I Q er] 64)).alloc (J #[U aB ms.length cB,I Q dn,I Q ad,I Q iw,I Q is,I Q er] 67))/\Bk ((w.alloc (J #[U aA ms.length cA,I Q dn,I Q ad,.bool wt,.bool st,I Q er] 64)).alloc (J #[U aB ms.length cB,I Q dn,I Q ad,I Q iw,I Q is,I Q er] 67)) w.heap.size 64 #[U aA ms.length cA,I Q dn,I Q ad,.bool wt,.bool st,I Q er]/\Bk ((w.alloc (J #[U aA ms.length cA,I Q dn,I Q ad,.bool wt,.bool st,I Q er] 64)).alloc (J #[U aB ms.length cB,I Q dn,I Q ad,I Q iw,I Q is,I Q er] 67)) (w.heap.size+1) 67 #[U aB ms.length cB,I Q dn,I Q ad,I Q iw,I Q is,I Q er]:=by
  refine⟨((G _ _).alloc (F _) _).alloc (by simp) _,(Bk.made w _ _).alloc _,?_⟩
  have:=Bk.made (w.alloc (J #[U aA ms.length cA,I Q dn,I Q ad,.bool wt,.bool st,I Q er] 64)) 67 #[U aB ms.length cB,I Q dn,I Q ad,I Q iw,I Q is,I Q er]
  rwa [World.size_alloc] at this
 clear ha hb hA hB
 go_enter Tryz.func21,Tryz.ntmps21
 go_upto_region 1 with fail
 generalize (w.alloc (J #[U aA ms.length cA,I Q dn,I Q ad,.bool wt,.bool st,I Q er] 64)).alloc (J #[U aB ms.length cB,I Q dn,I Q ad,I Q iw,I Q is,I Q er] 67)=y at *
 obtain⟨x0,x1,x2,x3,x4,x5⟩:=k1.g9
 obtain⟨z0,z1,z2,z3,z4,z5⟩:=k2.g9
 have K1:=H k1
 have K2:=H k2
 clear k1 k2
 go_wp2
 go_loopw [53] (fun x wr=>∃ (j:Nat),x=I Q j/\j<=ms.length/\Hid (Below y.heap.size y wr)) (fun x _=>ms.length-(intOf x).toNat)
 case atStart=>exact⟨0,rfl,Nat.zero_le _,H (G _ _)⟩
 case round=>
  clear x0 x1 x2 x3 x4 x5 z0 z1 z2 z3 z4 z5 hw1 hs1 hw2 hs2
  obtain⟨j,rfl,hj,HBl⟩:=hrel
  by_cases hlt:j<ms.length
  ·have hji:(j:Int)<ms.length:=by omega
   have hbl:=HBl.out
   have hbw:=bb.trans (hbl.mono bb.size)
   have x0:=(Bk.within K1.out (av hbl) (by simp)).cell 0
   have z0:=(Bk.within K2.out (av hbl) (by simp)).cell 0
   replace x0:wr.cell? ⟨w.heap.size,0,Z⟩=P (U aA ms.length cA):=x0
   replace z0:wr.cell? ⟨w.heap.size+1,0,Z⟩=P (U aB ms.length cB):=z0
   obtain⟨gA,rfl,cA0⟩:=HA.out j hlt
   obtain⟨gB,rfl,cB0⟩:=HB.out j hlt
   have hA1:=hbw.cell (p:=⟨gA,j,Z⟩) (World.block_lt_of_cell? w _ cA0)
   rw[cA0] at hA1
   have hB1:=hbw.cell (p:=⟨gB,j,Z⟩) (World.block_lt_of_cell? w _ cB0)
   rw[cB0] at hB1
   generalize aG ms j=v0 at *
   clear cA0 cB0
   go_upto_region 6 with fail
   go_quiet (fail)
   have HF:=H (hbl.trans (Below.mono ⟨rfl,rfl,rfl,F _,fun _ _=>rfl⟩ hbl.size:Below y.heap.size wr (wr.drewN nq)))
   generalize wr.drewN nq=v9 at *
   clear hA1 hB1 x0 z0 hbl hbw
   go_wp2
   go_roundw
   case rel=>exact⟨j+1,by go_num,by omega,HF⟩
   case measure=>simp[intOf];omega
  ·obtain rfl:j=ms.length:=by omega
   have hfin:=bb.trans (HBl.out.mono bb.size)
   go_wp2
   go_ret
   exact⟨rfl,hfin⟩
section
variable {w w':World}{Y:YP}{k:Lk}{m:Mc}
theorem fB.mono {k:Lk}{v0 v1:World}{Y0 Y1:YP}{r:Mc×Ot}{e:Ending}{w':World}(h:fB v1 Y1 k r e w')(s:bA v0 k.n Y0 v1 Y1):fB v0 Y0 k r e w':=by
 obtain⟨v,Y',h1,h2,h3,h4⟩:=h
 exact⟨v,Y',h1,h2,h3,s.bz h4⟩
theorem dq {q:Nat}{t:TypeId}{cs:Array Value}{v:Value}{r:Mc×Ot}{Y':YP}{W W':World}(hl:eG .i64 3 W v r.2.ms)(h:Ey W Y' k r.1)(s:bA w k.n Y W Y')(hq:Bk W q t cs)(ht:t≠3)(hw:ab W W' (fun i=>i=q))(hn:w.heap.size<=q)(hfar:∀ i,Y'.Own k.n i->i≠q):
 fB w Y k r (.returned (Bj v r.2)) W':=
 ⟨v,Y',rfl,fU hl hw (by rintro b' rfl;exact⟨_,_,hq,ht⟩),h.kept hw (fun i hi e=>hfar i hi e),s.oP hw (fun i e=>by omega)⟩
theorem yJ (h:Ey w Y k m)(t:Nat)(ht:t<k.n)(un:Bool):
 Calls Tryz.prog 23 #[K (P ⟨Y.y,0,Z⟩),I Q t,I Q (aM un)] w (fB w Y k (cx k m t un)):=by
 have hnn:=h.lk.n64
 obtain⟨r0,r1,r2,r3,r4,r5,r6,r7,pc,ec⟩:=h.bB ht
 have hc8:bg [r0,r1,r2,r3,r4,r5,r6,r7]:=by have:=h.mc.cs t ht;rw[ec] at this;exact this
 have HRun:Hid (∀ W,Ey W Y k m->Calls Tryz.prog 47 #[K (P ⟨Y.y,0,Z⟩),I Q t,.agg #[I Q r0,I Q r1,I Q r2,I Q r3,I Q r4,I Q r5,I Q r6,I Q r7,I Q (if un then k.un else k.lo)],.agg #[U Z 0 0,I Q 0,I Q (-1),I Q 0,I Q 0,I Q 0]] W (fB W Y k (cx k m t un))):=H fun W hW=>by
  have:=Bp hW t ht ⟨[r0,r1,r2,r3,r4,r5,r6,r7],if un then k.un else k.lo⟩ hc8 ⟨[],0,-1,T,T,0⟩ _ rfl
  unfold cx
  rw[ec]
  exact this
 obtain⟨BB,hBB⟩:∃ B,B=cx k m t un:=⟨_,rfl⟩
 rw[<-hBB] at HRun ⊢
 clear hBB
 have HX:=H h
 have q0:=Bk.made w 67 #[U Z 0 0,I Q 0,I Q 0,I Q 0,I Q 0,I Q 0]
 have b0:Below w.heap.size w (w.alloc (J #[U Z 0 0,I Q 0,I Q 0,I Q 0,I Q 0,I Q 0] 67)):=(G _ _).alloc (F _) _
 have s0:(w.alloc (J #[U Z 0 0,I Q 0,I Q 0,I Q 0,I Q 0,I Q 0] 67)).heap.size=w.heap.size+1:=by simp
 go_enter Tryz.func23,Tryz.ntmps23
 go_upto_region 1 with fail
 generalize w.alloc (J #[U Z 0 0,I Q 0,I Q 0,I Q 0,I Q 0,I Q 0] 67)=y at *
 have h2:=h.below b0
 obtain⟨gk,capk,ek,hk1,hk2,hkb,hkf,-⟩:=h2.oO
 unfold maxLen at hk2
 have cx6:=h2.c6
 rw[ek] at cx6
 obtain⟨c0,c1,c2,c3,c4,c5,c6,c7,c8⟩:=h2.core ht ec ek
 go_upto_region 2 with fail
 have q1:=Rb.made y [r0,r1,r2,r3,r4,r5,r6,r7] pc
 rw[s0] at q1
 simp only[da,List.map_cons,List.map_nil,List.cons_append,List.nil_append] at q1
 have b1:Below y.heap.size y (y.alloc (J #[I Q r0,I Q r1,I Q r2,I Q r3,I Q r4,I Q r5,I Q r6,I Q r7,I Q pc] 112)):=(G _ _).alloc (F _) _
 replace q0:=(b1.block _ q0.lt).trans q0
 have h3:=h2.below b1
 replace b0:=b0.trans (b1.mono b0.size)
 have HS0:=H s0
 clear c0 c1 c2 c3 c4 c5 c6 c7 c8 cx6 h2 b1 hkf s0 h
 generalize y.alloc (J #[I Q r0,I Q r1,I Q r2,I Q r3,I Q r4,I Q r5,I Q r6,I Q r7,I Q pc] 112)=z at *
 have hOwn:Hid (∀ i,Y.Own k.n i->i<w.heap.size):=H fun i hi=>HX.out.lt hi
 have k1:=h3.c1
 have k2:=h3.c2
 obtain⟨c0,c1,c2,c3,c4,c5,c6,c7,c8⟩:=Rb.cells q1
 have zf:=Bk.free q1
 have ne1:Y.y≠w.heap.size+1:=by have:=hOwn.out _ (.inl rfl);omega
 have q2:Rb (z.setCell ⟨w.heap.size+1,8,Z⟩ (I Q k.lo)) (w.heap.size+1) [r0,r1,r2,r3,r4,r5,r6,r7] k.lo:=Rb.wB q1 rfl k.lo
 have hw1:ab z (z.setCell ⟨w.heap.size+1,8,Z⟩ (I Q k.lo)) (fun i=>i=w.heap.size+1):=(ab.refl z (fun i=>i=w.heap.size+1)).put _ _ _ (.inl rfl)
 have h4:=h3.kept hw1 (fun i hi e=>by have:=hOwn.out i hi;omega)
 have q02:=Bk.within q0 hw1 (by omega)
 have b2:=b0.setCell (p:=⟨w.heap.size+1,8,Z⟩) (by show w.heap.size<=w.heap.size+1;omega) (I Q k.lo)
 cases un with
 | false=>
  simp only[Bool.false_eq_true,if_false] at HRun
  unfold aM
  simp only[Bool.false_eq_true,if_false]
  go_upto_region 5 with fail
  clear c0 c1 c2 c3 c4 c5 c6 c7 c8 zf k1 k2 h3 q0 b0 q1 hw1
  generalize z.setCell ⟨w.heap.size+1,8,Z⟩ (I Q k.lo)=v at *
  obtain⟨c0,c1,c2,c3,c4,c5,c6,c7,c8⟩:=Rb.cells q2
  have hR:=HRun.out v h4
  have st:=bA.ay (n:=k.n) (Y:=Y) b2
  have hf0:∀ i,Y.Own k.n i->i≠w.heap.size:=fun i hi e=>by have:=hOwn.out _ hi;omega
  have hlt:w.heap.size<v.heap.size:=by have:=Bk.lt q2;omega
  go_wp2_with fail
  refine hR.mono ?_
  rintro e v5 ⟨mv,Y',rfl,hl5,h5,hs5⟩
  obtain⟨a9,c9,e9,-⟩:=hl5.is
  subst e9
  have q5:=Bk.within q02 hs5.1 (fun e=>hf0 _ e rfl)
  have st5:=st.bz hs5
  have hfar:∀ i,Y'.Own k.n i->i≠w.heap.size:=fun i hi e=>by
   rcases hs5.2.1 i hi with e2 | e2
   ·exact hf0 i e2 e
   ·omega
  unfold Bj
  obtain⟨x0,x1,x2,x3,x4,x5⟩:=q5.g9
  have zf:=Bk.free q5
  have o1:=cE q5 (U a9 BB.2.ms.length c9) (I Q BB.2.done) (I Q BB.2.addr) (I Q (aM BB.2.wrote)) (I Q (aM BB.2.stay)) (I Q BB.2.e)
  have o2:=ba (y:=v5) (g:=w.heap.size) (U a9 BB.2.ms.length c9) (I Q BB.2.done) (I Q BB.2.addr) (I Q (aM BB.2.wrote)) (I Q (aM BB.2.stay)) (I Q BB.2.e)
  have hC:=H (dq (Y:=Y) (r:=BB) hl5 h5 st5 q5 (by decide) o2 (F _) hfar)
  clear q02 hl5 h5 hs5 st5 st o2 hR q2 c0 c1 c2 c3 c4 c5 c6 c7 c8 h4 HRun
  go_wp2_with (refine bodyPost_ret (v:=.agg #[U a9 BB.2.ms.length c9,I Q BB.2.done,I Q BB.2.addr,I Q (aM BB.2.wrote),I Q (aM BB.2.stay),I Q BB.2.e]) (w:=cC v5 w.heap.size (U a9 BB.2.ms.length c9) (I Q BB.2.done) (I Q BB.2.addr) (I Q (aM BB.2.wrote)) (I Q (aM BB.2.stay)) (I Q BB.2.e)) ?hres rfl ?hpost)
  case hpost=>exact hC.out
  case hres=>
   generalize cC v5 w.heap.size (U a9 BB.2.ms.length c9) (I Q BB.2.done) (I Q BB.2.addr) (I Q (aM BB.2.wrote)) (I Q (aM BB.2.stay)) (I Q BB.2.e)=v9 at *
   obtain⟨o0,o1,o2,o3,o4,o5⟩:=o1.g9
   simp[results,Tryz.results23,go_sem,o0,o1,o2,o3,o4,o5]
 | true=>
  simp only[if_true] at HRun
  unfold aM
  simp only[if_true]
  have zf2:=Bk.free q2
  go_upto_region 4 with fail
  clear c0 c1 c2 c3 c4 c5 c6 c7 c8 zf k1 k2 h3 q0 b0 q1 hw1
  generalize z.setCell ⟨w.heap.size+1,8,Z⟩ (I Q k.lo)=z2 at *
  have k2:=h4.c2
  obtain⟨c0,c1,c2,c3,c4,c5,c6,c7,c8⟩:=Rb.cells q2
  have q3:Rb (z2.setCell ⟨w.heap.size+1,8,Z⟩ (I Q k.un)) (w.heap.size+1) [r0,r1,r2,r3,r4,r5,r6,r7] k.un:=Rb.wB q2 rfl k.un
  have hw1:ab z2 (z2.setCell ⟨w.heap.size+1,8,Z⟩ (I Q k.un)) (fun i=>i=w.heap.size+1):=(ab.refl z2 (fun i=>i=w.heap.size+1)).put _ _ _ (.inl rfl)
  have h5:=h4.kept hw1 (fun i hi e=>by have:=hOwn.out i hi;omega)
  replace q02:=Bk.within q02 hw1 (by omega)
  replace b2:=b2.setCell (p:=⟨w.heap.size+1,8,Z⟩) (by show w.heap.size<=w.heap.size+1;omega) (I Q k.un)
  go_upto_region 5 with fail
  clear c0 c1 c2 c3 c4 c5 c6 c7 c8 zf2 k2 h4 q2 hw1
  generalize z2.setCell ⟨w.heap.size+1,8,Z⟩ (I Q k.un)=v at *
  obtain⟨c0,c1,c2,c3,c4,c5,c6,c7,c8⟩:=Rb.cells q3
  have hR:=HRun.out v h5
  have st:=bA.ay (n:=k.n) (Y:=Y) b2
  have hf0:∀ i,Y.Own k.n i->i≠w.heap.size:=fun i hi e=>by have:=hOwn.out _ hi;omega
  have hlt:w.heap.size<v.heap.size:=by have:=Bk.lt q3;omega
  have h4:=h5
  have q2:=q3
  clear h5 q3
  go_wp2_with fail
  refine hR.mono ?_
  rintro e v5 ⟨mv,Y',rfl,hl5,h5,hs5⟩
  obtain⟨a9,c9,e9,-⟩:=hl5.is
  subst e9
  have q5:=Bk.within q02 hs5.1 (fun e=>hf0 _ e rfl)
  have st5:=st.bz hs5
  have hfar:∀ i,Y'.Own k.n i->i≠w.heap.size:=fun i hi e=>by
   rcases hs5.2.1 i hi with e2 | e2
   ·exact hf0 i e2 e
   ·omega
  unfold Bj
  obtain⟨x0,x1,x2,x3,x4,x5⟩:=q5.g9
  have zf:=Bk.free q5
  have o1:=cE q5 (U a9 BB.2.ms.length c9) (I Q BB.2.done) (I Q BB.2.addr) (I Q (aM BB.2.wrote)) (I Q (aM BB.2.stay)) (I Q BB.2.e)
  have o2:=ba (y:=v5) (g:=w.heap.size) (U a9 BB.2.ms.length c9) (I Q BB.2.done) (I Q BB.2.addr) (I Q (aM BB.2.wrote)) (I Q (aM BB.2.stay)) (I Q BB.2.e)
  have hC:=H (dq (Y:=Y) (r:=BB) hl5 h5 st5 q5 (by decide) o2 (F _) hfar)
  clear q02 hl5 h5 hs5 st5 st o2 hR q2 c0 c1 c2 c3 c4 c5 c6 c7 c8 h4 HRun
  go_wp2_with (refine bodyPost_ret (v:=.agg #[U a9 BB.2.ms.length c9,I Q BB.2.done,I Q BB.2.addr,I Q (aM BB.2.wrote),I Q (aM BB.2.stay),I Q BB.2.e]) (w:=cC v5 w.heap.size (U a9 BB.2.ms.length c9) (I Q BB.2.done) (I Q BB.2.addr) (I Q (aM BB.2.wrote)) (I Q (aM BB.2.stay)) (I Q BB.2.e)) ?hres rfl ?hpost)
  case hpost=>exact hC.out
  case hres=>
   generalize cC v5 w.heap.size (U a9 BB.2.ms.length c9) (I Q BB.2.done) (I Q BB.2.addr) (I Q (aM BB.2.wrote)) (I Q (aM BB.2.stay)) (I Q BB.2.e)=v9 at *
   obtain⟨o0,o1,o2,o3,o4,o5⟩:=o1.g9
   simp[results,Tryz.results23,go_sem,o0,o1,o2,o3,o4,o5]
end
