import Derived.Test.YtieiifdhdjhnoaaGreatDoorWAsmD
import Derived.Test.YtieiifdhdjhnoaaGreatDoorWCell
import Derived.Deep.RegionHeld3
set_option linter.unusedVariables false
set_option maxHeartbeats 4000000
set_option maxRecDepth 100000
open Go.Value renaming int->I,slice->R,pointer->K
open Go.IntKind renaming i64->Q,u32->N
open Option renaming none->O,some->Z
open Bool renaming false->P,true->T
open Go.Obj renaming cells->J
open Go.Lib renaming hid->H
open Go.RowKit.Below renaming refl->G
open Nat renaming le_refl->F
open Go renaming undef->E
namespace Go.Proofs.YtieiifdhdjhnoaaGreatDoor
open Go.ChangeShapes Go.WideShapes Go.ChangeAt Go.RowKit
structure jz (w x:World)(n:Nat)(xs:List Int)(pc:Int)(i:aN)(o:Ot):Prop where
 c:Cb x n xs pc
 i:Ib x (n+1) i
 r:Cb x (n+1+1) [0,0,0,0,0,0,0,0] 0
 e:Bk x (n+1+1+1) 61 #[R O 0 0,I Q 0,I Q 0,.bool P,.bool P,I Q 0]
 o:Bk x (n+1+1+1+1) 61 #[R O 0 0,I Q o.done,I Q o.addr,.bool o.wrote,.bool o.stay,I Q o.e]
theorem jz.within {w x y:World}{n:Nat}{xs:List Int}{pc:Int}{i:aN}{o:Ot}{S:Nat->Prop}(h:jz w x n xs pc i o)(hw:ab x y S)(hn:∀ j,n<=j->¬ S j):jz w y n xs pc i o:=
 ⟨Bk.within h.c hw (hn _ (by omega)),Bk.within h.i hw (hn _ (by omega)),Bk.within h.r hw (hn _ (by omega)),h.e.within hw (hn _ (by omega)),h.o.within hw (hn _ (by omega))⟩
theorem jz.cells {w x:World}{n:Nat}{xs:List Int}{pc:Int}{i:aN}{o:Ot}(h:jz w x n xs pc i o):
 x.cell? ⟨n+1+1+1+1,0,O⟩=Z (R O 0 0)/\x.cell? ⟨n+1+1+1+1,1,O⟩=Z (I Q o.done)/\x.cell? ⟨n+1+1+1+1,2,O⟩=Z (I Q o.addr)/\
 x.cell? ⟨n+1+1+1+1,3,O⟩=Z (.bool o.wrote)/\x.cell? ⟨n+1+1+1+1,4,O⟩=Z (.bool o.stay)/\x.cell? ⟨n+1+1+1+1,5,O⟩=Z (I Q o.e):=
 ⟨h.o.cell 0,h.o.cell 1,h.o.cell 2,h.o.cell 3,h.o.cell 4,h.o.cell 5⟩
def FW (w:World)(p q g s:Nat)(zs:List Int)(A:Ac)(a:Nat)(e:Ending)(w':World):Prop:=
 e=.returned (.tuple #[cv A.c.xs A.c.pc,zP (R O 0 0) ⟨[],-1,a,A.wrote,A.stay,0⟩])/\Mm w' p q g s zs A.ws/\fD w w' g
def wQ (w:World)(pc:Int)(i:aN)(a:Nat)(p q g s:Nat)(zs:List Int)(A:Ac)(y:World):Prop:=
 ∃ xs' wr,xs'.length=8/\jz w y w.heap.size xs' pc i ⟨[],-1,a,wr,P,0⟩/\Mm y p q g s zs A.ws/\fD w y g/\Hid (A.c=⟨xs',pc+1⟩/\A.wrote=wr/\A.stay=P)
structure pW (n p q g s:Nat):Prop where
 p:p<n
 q:q<n
 g:g<n
 s:s<n
section
variable {w y y':World}{xs:List Int}{pc:Int}{i:aN}{o:Ot}{p q g s:Nat}{zs ws ys:List Int}
theorem ef (hI:jz w y w.heap.size xs pc i o)(hM:Mm y p q g s zs ws)(hG:fD w y g)(hA:pW w.heap.size p q g s){b:Nat}(hb:w.heap.size<=b)(j:Nat)(u:Value):
 Mm (y.setCell ⟨b,j,O⟩ u) p q g s zs ws/\fD w (y.setCell ⟨b,j,O⟩ u) g:=by
 obtain⟨a1,a2,a3,a4⟩:=hA
 refine⟨hM.within (S:=fun i=>i=b) ((ab.refl y _).put b j u (.inl rfl)) (by omega) (by omega) (by omega) (by omega),aU hG (cY y b j u) (.inr fun x e=>by injection e with e;omega)⟩
theorem i5 (hI:jz w y w.heap.size xs pc i o)(h8:xs.length=8){d:Nat}(hd:d<8)(v:Int):jz w (y.setCell ⟨w.heap.size,d,O⟩ (I N v)) w.heap.size (xs.set d v) pc i o:=
 ⟨hI.c.set h8 hd v,Bk.off hI.i (p:=⟨w.heap.size,d,O⟩) (by show w.heap.size+1≠w.heap.size;omega) _,Bk.off hI.r (p:=⟨w.heap.size,d,O⟩) (by show w.heap.size+1+1≠w.heap.size;omega) _,Bk.off hI.e (p:=⟨w.heap.size,d,O⟩) (by show w.heap.size+1+1+1≠w.heap.size;omega) _,Bk.off hI.o (p:=⟨w.heap.size,d,O⟩) (by show w.heap.size+1+1+1+1≠w.heap.size;omega) _⟩
theorem gP (hI:jz w y w.heap.size xs pc i o)(b:Bool):jz w (y.setCell ⟨w.heap.size+1+1+1+1,3,O⟩ (.bool b)) w.heap.size xs pc i { o with wrote:=b }:=
 ⟨Bk.off hI.c (p:=⟨w.heap.size+1+1+1+1,3,O⟩) (by show w.heap.size≠w.heap.size+1+1+1+1;omega) _,Bk.off hI.i (p:=⟨w.heap.size+1+1+1+1,3,O⟩) (by show w.heap.size+1≠w.heap.size+1+1+1+1;omega) _,Bk.off hI.r (p:=⟨w.heap.size+1+1+1+1,3,O⟩) (by show w.heap.size+1+1≠w.heap.size+1+1+1+1;omega) _,Bk.off hI.e (p:=⟨w.heap.size+1+1+1+1,3,O⟩) (by show w.heap.size+1+1+1≠w.heap.size+1+1+1+1;omega) _,hI.o.put 3 (.bool b)⟩
theorem gQ (hI:jz w y w.heap.size xs pc i o)(hM:Mm y p q g s zs ws)(hG:fD w y g)(hA:pW w.heap.size p q g s)(hc:nS y' q g ys)(ho:fD y y' g)(hl:ys.length=ws.length):
 jz w y' w.heap.size xs pc i o/\Mm y' p q g s zs ys/\fD w y' g:=
 ⟨hI.within (S:=fun i=>i=g) (.az ho (by rintro i e;injection e with e;exact .inl e.symm)) (fun j hj e=>by have:=hA.g;omega),hM.only hc ho hl,aU hG ho (.inl rfl)⟩
end
def co (y:World)(g:Nat)(a b c d e f:Value):World:=((((((y.setCell ⟨g,0,O⟩ a).setCell ⟨g,1,O⟩ b).setCell ⟨g,2,O⟩ c).setCell ⟨g,3,O⟩ d).setCell ⟨g,4,O⟩ e).setCell ⟨g,5,O⟩ f)
theorem cm {y:World}{g:Nat}{t:TypeId}{x0 x1 x2 x3 x4 x5:Value}(h:Bk y g t #[x0,x1,x2,x3,x4,x5])(a b c d e f:Value):Bk (co y g a b c d e f) g t #[a,b,c,d,e,f]:=by
 have h8:=(((((h.put 0 a).put 1 b).put 2 c).put 3 d).put 4 e).put 5 f
 unfold co
 simpa only[List.setIfInBounds_toArray,List.set_cons_zero,List.set_cons_succ] using h8
theorem mZ {y:World}{g b:Nat}{t:TypeId}{cs:Array Value}(h:Bk y b t cs)(hne:b≠g)(a b' c d e f:Value):Bk (co y g a b' c d e f) b t cs:=
 (((((h.off hne _).off hne _).off hne _).off hne _).off hne _).off hne _
theorem bd {y:World}{g:Nat}(a b c d e f:Value):ab y (co y g a b c d e f) (fun i=>i=g):=
 ((((((ab.refl y (fun i=>i=g)).put g 0 a (.inl rfl)).put g 1 b (.inl rfl)).put g 2 c (.inl rfl)).put g 3 d (.inl rfl)).put g 4 e (.inl rfl)).put g 5 f (.inl rfl)
theorem sx {B:Nat}{w y:World}{g:Nat}(h:Below B w y)(hg:B<=g)(a b c d e f:Value):Below B w (co y g a b c d e f):=
 (((((h.setCell hg _).setCell hg _).setCell hg _).setCell hg _).setCell hg _).setCell hg _
theorem gp {y:World}{g:Nat}(a b c d e f h i j:Value):ab y (bn y g a b c d e f h i j) (fun x=>x=g):=by
 unfold bn
 exact(((((((((ab.refl y (fun x=>x=g)).put _ 0 _ (.inl rfl)).put _ 1 _ (.inl rfl)).put _ 2 _ (.inl rfl)).put _ 3 _ (.inl rfl)).put _ 4 _ (.inl rfl)).put _ 5 _ (.inl rfl)).put _ 6 _ (.inl rfl)).put _ 7 _ (.inl rfl)).put _ 8 _ (.inl rfl)
theorem uA {w y:World}{xs0:List Int}{pc PC:Int}{i:aN}{o:Ot}{p q g s:Nat}{zs ws:List Int}(hI:jz w y w.heap.size xs0 pc i o)(hM:Mm y p q g s zs ws)(hG:fD w y g)(hA:pW w.heap.size p q g s){s0 s1 s2 s3 s4 s5 s6 s7:Int}{v0 v1 v2 v3 v4 v5:Value}:
 Cb ((co (bn y (w.heap.size+1+1) (I N s0) (I N s1) (I N s2) (I N s3) (I N s4) (I N s5) (I N s6) (I N s7) (I Q PC)) (w.heap.size+1+1+1) v0 v1 v2 v3 v4 v5).drew) (w.heap.size+1+1) [s0,s1,s2,s3,s4,s5,s6,s7] PC/\
 Bk ((co (bn y (w.heap.size+1+1) (I N s0) (I N s1) (I N s2) (I N s3) (I N s4) (I N s5) (I N s6) (I N s7) (I Q PC)) (w.heap.size+1+1+1) v0 v1 v2 v3 v4 v5).drew) (w.heap.size+1+1+1) 61 #[v0,v1,v2,v3,v4,v5]/\
 Mm ((co (bn y (w.heap.size+1+1) (I N s0) (I N s1) (I N s2) (I N s3) (I N s4) (I N s5) (I N s6) (I N s7) (I Q PC)) (w.heap.size+1+1+1) v0 v1 v2 v3 v4 v5).drew) p q g s zs ws/\
 fD w ((co (bn y (w.heap.size+1+1) (I N s0) (I N s1) (I N s2) (I N s3) (I N s4) (I N s5) (I N s6) (I N s7) (I Q PC)) (w.heap.size+1+1+1) v0 v1 v2 v3 v4 v5).drew) g:=by
 obtain⟨a1,a2,a3,a4⟩:=hA
 have hW1:=gp (y:=y) (g:=w.heap.size+1+1) (I N s0) (I N s1) (I N s2) (I N s3) (I N s4) (I N s5) (I N s6) (I N s7) (I Q PC)
 have h9:Cb (bn y (w.heap.size+1+1) (I N s0) (I N s1) (I N s2) (I N s3) (I N s4) (I N s5) (I N s6) (I N s7) (I Q PC)) (w.heap.size+1+1) [s0,s1,s2,s3,s4,s5,s6,s7] PC:=bz hI.r (I N s0) (I N s1) (I N s2) (I N s3) (I N s4) (I N s5) (I N s6) (I N s7) (I Q PC)
 have h9':Bk (bn y (w.heap.size+1+1) (I N s0) (I N s1) (I N s2) (I N s3) (I N s4) (I N s5) (I N s6) (I N s7) (I Q PC)) (w.heap.size+1+1+1) _ _:=dX hI.e (by omega) (I N s0) (I N s1) (I N s2) (I N s3) (I N s4) (I N s5) (I N s6) (I N s7) (I Q PC)
 generalize bn y (w.heap.size+1+1) (I N s0) (I N s1) (I N s2) (I N s3) (I N s4) (I N s5) (I N s6) (I N s7) (I Q PC)=z1 at *
 have hW2:=bd (y:=z1) (g:=w.heap.size+1+1+1) v0 v1 v2 v3 v4 v5
 have r1:Cb (co z1 (w.heap.size+1+1+1) v0 v1 v2 v3 v4 v5) _ _ _:=mZ h9 (by omega) v0 v1 v2 v3 v4 v5
 have r2:=cm h9' v0 v1 v2 v3 v4 v5
 generalize co z1 (w.heap.size+1+1+1) v0 v1 v2 v3 v4 v5=z2 at *
 have hW:ab y z2 (fun i=>i=w.heap.size+1+1\/i=w.heap.size+1+1+1):=(hW1.wide (fun i e _=>.inl e)).bp hW2 (fun i e=>.inl (.inr e))
 refine⟨r1,r2,(hM.within hW (by omega) (by omega) (by omega) (by omega)).drewN 1,?_⟩
 have h1:w.grownBy y (Z g):=hG
 refine dD (n:=1) ⟨hW.os.trans h1.os,hW.tape.trans h1.tape,hW.output.trans h1.output,Nat.le_trans h1.size hW.size,fun i hi hne=>?_⟩
 exact(hW.block i (Nat.lt_of_lt_of_le hi h1.size) (by omega)).trans (h1.block i hi hne)
structure ij (w:World)(xs:List Int)(pc:Int)(i:aN)(o:Ot)(p q g s:Nat)(zs ws:List Int)(x:Nat)(W:World):Prop where
 ai:jz w W w.heap.size xs pc i o
 am:Mm W p q g s zs ws
 ao:fD w W g
 ax:W.cell? ⟨x,3,O⟩=Z (K (Z ⟨p,0,O⟩))
 al:x<w.heap.size
theorem ij.below {w W W':World}{xs:List Int}{pc:Int}{i:aN}{o:Ot}{p q g s:Nat}{zs ws:List Int}{x:Nat}(h:ij w xs pc i o p q g s zs ws x W)(hb:Below W.heap.size W W'):ij w xs pc i o p q g s zs ws x W':=
 ⟨h.ai.within (ay hb) (by simp),h.am.grown (bN hb),aU h.ao (bN hb) (.inr (by simp)),(hb.cell (p:=⟨x,3,O⟩) (Nat.lt_of_lt_of_le h.al h.ao.size)).trans h.ax,h.al⟩
def DQ (w:World)(i:aN)(a p q g s:Nat)(zs ws:List Int)(x:Nat)(c0 c1:kX)(st:Bool):Nat->World->Prop
 | 0,W=>ij w c0.xs c0.pc i ⟨[],-1,a,P,P,0⟩ p q g s zs ws x W
 | 1,W=>ij w c1.xs c1.pc i ⟨[],-1,a,P,P,0⟩ p q g s zs ws x W
 | _,W=>ij w c1.xs c1.pc i ⟨[],-1,a,P,st,0⟩ p q g s zs ws x W
theorem tD {w:World}{i:aN}{a p q g s:Nat}{zs ws:List Int}{x:Nat}{c0 c1:kX}{st:Bool}{k:Nat}{W W':World}(h:DQ w i a p q g s zs ws x c0 c1 st k W)(hb:Below W.heap.size W W'):DQ w i a p q g s zs ws x c0 c1 st k W':=by
 match k,h with
 | 0,h=>exact ij.below h hb
 | 1,h=>exact ij.below h hb
 | _+2,h=>exact ij.below h hb
theorem ww {w W:World}{r0 r1 r2 r3 r4 r5 r6 r7 s0 s1 s2 s3 s4 s5 s6 s7 pc PC:Int}{i:aN}{o:Ot}{p q g s:Nat}{zs ws:List Int}{x:Nat}(hA:pW w.heap.size p q g s)(h:ij w [r0,r1,r2,r3,r4,r5,r6,r7] pc i o p q g s zs ws x W):
 ij w [s0,s1,s2,s3,s4,s5,s6,s7] PC i o p q g s zs ws x (bn W w.heap.size (I N s0) (I N s1) (I N s2) (I N s3) (I N s4) (I N s5) (I N s6) (I N s7) (I Q PC)):=by
 obtain⟨j1,j2,j3,j4,j5⟩:=h
 obtain⟨a1,a2,a3,a4⟩:=hA
 have hW:=gp (y:=W) (g:=w.heap.size) (I N s0) (I N s1) (I N s2) (I N s3) (I N s4) (I N s5) (I N s6) (I N s7) (I Q PC)
 have h1:Cb (bn W w.heap.size (I N s0) (I N s1) (I N s2) (I N s3) (I N s4) (I N s5) (I N s6) (I N s7) (I Q PC)) w.heap.size [s0,s1,s2,s3,s4,s5,s6,s7] PC:=bz j1.c (I N s0) (I N s1) (I N s2) (I N s3) (I N s4) (I N s5) (I N s6) (I N s7) (I Q PC)
 generalize bn W w.heap.size (I N s0) (I N s1) (I N s2) (I N s3) (I N s4) (I N s5) (I N s6) (I N s7) (I Q PC)=z at *
 refine⟨⟨h1,Bk.within j1.i hW (by omega),Bk.within j1.r hW (by omega),j1.e.within hW (by omega),j1.o.within hW (by omega)⟩,j2.within hW (by omega) (by omega) (by omega) (by omega),?_,?_,j5⟩
 ·have h2:w.grownBy W (Z g):=j3
  exact⟨hW.os.trans h2.os,hW.tape.trans h2.tape,hW.output.trans h2.output,Nat.le_trans h2.size hW.size,fun i hi hne=>(hW.block i (Nat.lt_of_lt_of_le hi h2.size) (by omega)).trans (h2.block i hi hne)⟩
 ·rw[<-j4]
  exact World.cell?_of_block (hW.block x (Nat.lt_of_lt_of_le j5 j3.size) (by omega))
theorem wv {w W:World}{xs:List Int}{pc:Int}{i:aN}{a p q g s:Nat}{zs ws:List Int}{x:Nat}(hA:pW w.heap.size p q g s)(h:ij w xs pc i ⟨[],-1,a,P,P,0⟩ p q g s zs ws x W)(st:Bool):
 ij w xs pc i ⟨[],-1,a,P,st,0⟩ p q g s zs ws x (W.setCell ⟨w.heap.size+1+1+1+1,4,O⟩ (.bool st)):=by
 obtain⟨j1,j2,j3,j4,j5⟩:=h
 obtain⟨k1,k2⟩:=ef j1 j2 j3 hA (b:=w.heap.size+1+1+1+1) (by omega) 4 (.bool st)
 refine⟨⟨Bk.off j1.c (p:=⟨w.heap.size+1+1+1+1,4,O⟩) (by show w.heap.size≠w.heap.size+1+1+1+1;omega) _,Bk.off j1.i (p:=⟨w.heap.size+1+1+1+1,4,O⟩) (by show w.heap.size+1≠w.heap.size+1+1+1+1;omega) _,Bk.off j1.r (p:=⟨w.heap.size+1+1+1+1,4,O⟩) (by show w.heap.size+1+1≠w.heap.size+1+1+1+1;omega) _,Bk.off j1.e (p:=⟨w.heap.size+1+1+1+1,4,O⟩) (by show w.heap.size+1+1+1≠w.heap.size+1+1+1+1;omega) _,j1.o.put 4 (.bool st)⟩,k1,k2,?_,j5⟩
 rw[<-j4]
 exact bY (by omega)
section
variable {w w':World}{X:XP}{k:Lk}{m:Mc}
theorem Ad (h:Ex w X k m)(c:kX)(i:aN)(n a:Nat)(late:Bool)(hx:bh c.xs)(hi:Fm i n)(h22:i.op≠22)(h23:i.op≠23)(ha:a<m.ws.length)(hp0:0<=c.pc)(hp1:c.pc<1000):
 Calls Tryz.prog 84 #[K (Z ⟨X.x,0,O⟩),cv c.xs c.pc,iv i,I Q a,.bool late] w (FW w X.p X.q X.g X.s k.zs (gC m.ws c late i a) a):=by
 have hd:=hi.d
 have ht:=hi.t
 have hu:=hi.u
 have hop:=hi.op
 have HAW:Hid (∀ v W,i.op=21->0<=v/\v<4294967296->Calls Tryz.prog 130 #[cv c.xs c.pc,iv i,I N v,.bool late] W (pN W (fK c i v late).1 (fK c i v late).2)):=H fun v W h21 hv=>Cq c i n v late W hx hi h21 hv hp0 hp1
 obtain⟨xs,pc⟩:=c
 obtain⟨op,d,s,t,u,a',k',pl⟩:=i
 simp only at hd ht hu hop hx hp0 hp1 h22 h23
 obtain⟨dn,rfl⟩:∃ n:Nat,d=n:=⟨d.toNat,by omega⟩
 obtain⟨tn,rfl⟩:∃ n:Nat,t=n:=⟨t.toNat,by omega⟩
 obtain⟨un,rfl⟩:∃ n:Nat,u=n:=⟨u.toNat,by omega⟩
 have hd8:dn<8:=by omega
 have ht8:tn<8:=by omega
 have hu8:un<8:=by omega
 have hT:=hx.2.at_ tn
 have hU:=hx.2.at_ un
 obtain⟨r0,r1,r2,r3,r4,r5,r6,r7,rfl⟩:=aC hx.1
 obtain⟨A,hA⟩:∃ A,A=gC m.ws ⟨[r0,r1,r2,r3,r4,r5,r6,r7],pc⟩ late ⟨op,dn,s,tn,un,a',k',pl⟩ a:=⟨_,rfl⟩
 rw[<-hA]
 have HA:=H hA
 clear hA
 have q0:=Cb.made w [r0,r1,r2,r3,r4,r5,r6,r7] pc
 have q1:=Ib.made (w.alloc (J (bP [r0,r1,r2,r3,r4,r5,r6,r7] pc).toArray 107)) op dn s tn un a' k' pl
 have q2:=Cb.made ((w.alloc (J (bP [r0,r1,r2,r3,r4,r5,r6,r7] pc).toArray 107)).alloc (J #[I Q op,I Q dn,I Q s,I Q tn,I Q un,I Q a',I N k',I Q pl] 117)) [0,0,0,0,0,0,0,0] 0
 have q3:=Bk.made (((w.alloc (J (bP [r0,r1,r2,r3,r4,r5,r6,r7] pc).toArray 107)).alloc (J #[I Q op,I Q dn,I Q s,I Q tn,I Q un,I Q a',I N k',I Q pl] 117)).alloc (J (bP [0,0,0,0,0,0,0,0] 0).toArray 107)) 61 #[R O 0 0,I Q 0,I Q 0,.bool P,.bool P,I Q 0]
 have q4:=Bk.made ((((w.alloc (J (bP [r0,r1,r2,r3,r4,r5,r6,r7] pc).toArray 107)).alloc (J #[I Q op,I Q dn,I Q s,I Q tn,I Q un,I Q a',I N k',I Q pl] 117)).alloc (J (bP [0,0,0,0,0,0,0,0] 0).toArray 107)).alloc (J #[R O 0 0,I Q 0,I Q 0,.bool P,.bool P,I Q 0] 61)) 61 #[R O 0 0,I Q (-1),I Q a,.bool P,.bool P,I Q 0]
 simp only[World.size_alloc] at q1 q2 q3 q4
 have hI:jz w _ w.heap.size [r0,r1,r2,r3,r4,r5,r6,r7] pc ⟨op,dn,s,tn,un,a',k',pl⟩ ⟨[],-1,a,P,P,0⟩:=⟨Bk.alloc (Bk.alloc (Bk.alloc (Bk.alloc q0 _) _) _) _,Bk.alloc (Bk.alloc (Bk.alloc q1 _) _) _,Bk.alloc (Bk.alloc q2 _) _,Bk.alloc q3 _,q4⟩
 have b0:Below w.heap.size w (((((w.alloc (J (bP [r0,r1,r2,r3,r4,r5,r6,r7] pc).toArray 107)).alloc (J #[I Q op,I Q dn,I Q s,I Q tn,I Q un,I Q a',I N k',I Q pl] 117)).alloc (J (bP [0,0,0,0,0,0,0,0] 0).toArray 107)).alloc (J #[R O 0 0,I Q 0,I Q 0,.bool P,.bool P,I Q 0] 61)).alloc (J #[R O 0 0,I Q (-1),I Q a,.bool P,.bool P,I Q 0] 61)):=((((((G _ _).alloc (F _) _).alloc (by simp) _).alloc (by simp;omega) _).alloc (by simp;omega) _).alloc (by simp;omega) _)
 clear q0 q1 q2 q3 q4
 unfold cv iv at *
 simp only[bP,List.map_cons,List.map_nil,List.cons_append,List.nil_append] at hI b0 HAW ⊢
 go_enter Tryz.func84,Tryz.ntmps84
 go_upto_region 2 with fail
 generalize ((((w.alloc (J #[I N r0,I N r1,I N r2,I N r3,I N r4,I N r5,I N r6,I N r7,I Q pc] 107)).alloc (J #[I Q op,I Q dn,I Q s,I Q tn,I Q un,I Q a',I N k',I Q pl] 117)).alloc (J #[I N 0,I N 0,I N 0,I N 0,I N 0,I N 0,I N 0,I N 0,I Q 0] 107)).alloc (J #[R O 0 0,I Q 0,I Q 0,.bool P,.bool P,I Q 0] 61)).alloc (J #[R O 0 0,I Q (-1),I Q a,.bool P,.bool P,I Q 0] 61)=x at *
 have h2:=h.below b0
 have cT:=hI.c.at_ rfl ht8
 have cU:=hI.c.at_ rfl hu8
 obtain⟨e0,e1,e2,e3,e4,e5,e6,e7⟩:=hI.i.cells
 simp only at e0 e1 e2 e3 e4 e5 e6 e7
 generalize hVe:aF [r0,r1,r2,r3,r4,r5,r6,r7] tn=V at *
 have EV:=H hVe
 generalize hUe:aF [r0,r1,r2,r3,r4,r5,r6,r7] un=U at *
 have EU:=H hUe
 clear hVe hUe
 go_quiet (fail)
 replace hI:=hI.within ((ab.refl x (fun _=>False)).dg nq) (by simp)
 replace h2:=h2.below (Go.below_drewN (G _ _) nq)
 replace b0:=Go.below_drewN b0 nq
 generalize x.drewN nq=y at *
 clear cT cU e0 e1 e2 e3 e4 e5 e6 e7
 obtain⟨e0,e1,e2,e3,e4,e5,e6,e7⟩:=hI.i.cells
 simp only at e0 e1 e2 e3 e4 e5 e6 e7
 have x3:=h2.c3
 have p0:=h2.mem.c0
 have hM:=h2.mem
 have hG:fD w y X.g:=vy (bN b0)
 have hAh:pW w.heap.size X.p X.q X.g X.s:=⟨h.mem.ptr.lt,h.mem.cel.ptr.lt,h.mem.cel.row.lt,h.mem.row.lt⟩
 have hLd:=H (fun W (hW:Mm W X.p X.q X.g X.s k.zs m.ws)=>EO hW.cel a ha)
 have hw1:Hid (wrap64 (pc+1)=pc+1):=H (IntWalk.wrap64_in _ (by omega))
 have hdi0:(0:Int)<=dn:=by omega
 have HX3:Hid (∀ W,fD (y.drewN 1) W X.g->W.cell? ⟨X.x,3,O⟩=Z (K (Z ⟨X.p,0,O⟩))):=H fun W hW=>((h2.ptr.drewN 1).grown hW (fun e=>by injection e with e;exact h2.ptr.aj h2.mem.cel.row (by decide) e)).cell 3
 have hdi1:(dn:Int)<8:=by omega
 have kx:∀ (W:World) (u:Value) (i j:Nat),(W.setCell ⟨w.heap.size,i,O⟩ u).cell? ⟨X.x,j,O⟩=W.cell? ⟨X.x,j,O⟩:=fun W u i j=>bY (by have:=h.ptr.lt;omega)
 have kp:∀ (W:World) (u:Value) (i j:Nat),(W.setCell ⟨w.heap.size,i,O⟩ u).cell? ⟨X.p,j,O⟩=W.cell? ⟨X.p,j,O⟩:=fun W u i j=>bY (by have:=h.mem.ptr.lt;omega)
 have HWA:Hid (0<=aF m.ws a/\aF m.ws a<4294967296):=H (h.mc.ws.at_ a)
 have HE8:=H hx
 have HXL:Hid (X.x<w.heap.size):=H h.ptr.lt
 have hk32:=hi.k
 simp only at hk32
 clear b0 h h2 hx hi hd ht hu hp0 hp1
 go_upto_block 0 with fail
 go_cut [12] (fun v wx=>v=K (Z ⟨w.heap.size+1+1+1+1,0,O⟩)/\wQ w pc ⟨op,dn,s,tn,un,a',k',pl⟩ a X.p X.q X.g X.s k.zs A wx)
 case first=>
  by_cases h16:op=16
  ·subst h16
   have cD:=hI.c.at_ rfl hd8
   have zf:=Bk.free hI.c
   go_upto_region 5 with fail
   generalize aF [r0,r1,r2,r3,r4,r5,r6,r7] dn=VD at *
   go_region_held3 (fun W=>W.cell? ⟨X.x,3,O⟩=Z (K (Z ⟨X.p,0,O⟩))/\W.cell? ⟨X.p,0,O⟩=Z (K (Z ⟨X.q,0,O⟩))/\W.cell? ⟨w.heap.size+1,1,O⟩=Z (I Q dn)) (first | (exact⟨x3,p0,e1⟩) | go_keep)
    (first | (go_at_call 126;refine(hLd.out _ (hM.drewN _)).mono ?_;rintro e w' ⟨rfl,rfl⟩))
   all_goals (
    obtain⟨g1,g2⟩:=ef (hI.within ((ab.refl y (fun _=>False)).dg 1) (by simp)) (hM.drewN 1) (dD hG 1) hAh (F _) dn (I N (aF m.ws a))
    have g3:=i5 (hI.within ((ab.refl y (fun _=>False)).dg 1) (by simp)) rfl hd8 (aF m.ws a)
    have GM:Hid (wQ w pc ⟨16,dn,s,tn,un,a',k',pl⟩ a X.p X.q X.g X.s k.zs A ((y.drewN 1).setCell ⟨w.heap.size,dn,O⟩ (I N (aF m.ws a)))):=H (by
     have e:A=⟨m.ws,⟨[r0,r1,r2,r3,r4,r5,r6,r7].set dn (aF m.ws a),pc+1⟩,P,P⟩:=by rw[HA.out];simp[gC]
     exact⟨_,P,by simp,g3,by rw[e];exact g1,g2,H (by rw[e];exact⟨rfl,rfl,rfl⟩)⟩)
    clear g1 g2 g3 hM hG hI x3 p0 kx kp e0 e1 e2 e3 e4 e5 e6 e7
    go_wp2
    go_meet
    case rel=>exact⟨rfl,GM.out⟩)
  ·by_cases h17:op=17
   ·subst h17
    go_wp2_with fail
    refine(zw hM.cel a ha V hT).mono ?_
    rintro e y3 ⟨rfl,hc,ho⟩
    obtain⟨g1,g2,g3⟩:=gQ hI hM hG hAh hc ho (by simp)
    clear hM hG hI x3 p0 kx kp e0 e1 e2 e3 e4 e5 e6 e7 hc ho
    obtain⟨o0,o1,o2,o3,o4,o5⟩:=g1.cells
    have zf:=Bk.free g1.o
    simp only at o0 o1 o2 o3 o4 o5
    obtain⟨k1,k2⟩:=ef g1 g2 g3 hAh (b:=w.heap.size+1+1+1+1) (by omega) 3 (.bool T)
    have k3:=gP g1 T
    have GM:Hid (wQ w pc ⟨17,dn,s,tn,un,a',k',pl⟩ a X.p X.q X.g X.s k.zs A (y3.setCell ⟨w.heap.size+1+1+1+1,3,O⟩ (.bool T))):=H (by
     have e:A=⟨m.ws.set a V,⟨[r0,r1,r2,r3,r4,r5,r6,r7],pc+1⟩,T,P⟩:=by rw[HA.out];simp[gC,EV.out]
     exact⟨_,T,rfl,k3,by rw[e];exact k1,k2,H (by rw[e];exact⟨rfl,rfl,rfl⟩)⟩)
    clear g1 g2 g3 k1 k2 k3
    go_wp2
    go_meet
    case rel=>exact⟨rfl,GM.out⟩
   by_cases h18:op=18
   ·subst h18
    have cD:=hI.c.at_ rfl hd8
    have zf:=Bk.free hI.c
    have HSW:=H (EL (hM.drewN 1).cel a ha V hT)
    have HIM:=H (And.intro (hI.within ((ab.refl y (fun _=>False)).dg 1) (by simp)) (And.intro (hM.drewN 1) (dD hG 1)))
    go_upto_region 10 with fail
    generalize aF [r0,r1,r2,r3,r4,r5,r6,r7] dn=VD at *
    go_region_held3 (fun W=>W.cell? ⟨X.x,3,O⟩=Z (K (Z ⟨X.p,0,O⟩))/\W.cell? ⟨X.p,0,O⟩=Z (K (Z ⟨X.q,0,O⟩))/\W.cell? ⟨w.heap.size+1,1,O⟩=Z (I Q dn)) (first | (exact⟨x3,p0,e1⟩) | (exact⟨f1,f2,f3⟩) | go_keep)
     (first | (go_at_call 127;refine HSW.out.mono ?_;rintro e w4 ⟨rfl,hc4,ho4⟩;obtain⟨j1,j2,j3⟩:=gQ HIM.out.1 HIM.out.2.1 HIM.out.2.2 hAh hc4 ho4 (by simp);have f1:w4.cell? ⟨X.x,3,O⟩=Z (K (Z ⟨X.p,0,O⟩)):=(HX3.out w4 ho4);have f2:=j2.c0;have f3:w4.cell? ⟨w.heap.size+1,1,O⟩=Z (I Q dn):=(j1.i.cells).2.1;have f4:=j1.c.at_ rfl hd8;have f5:=Bk.free j1.c))
    all_goals (
     clear f1 f2 f3 f4 f5 HIM HSW hM hG hI x3 p0 e0 e1 e2 e3 e4 e5 e6 e7
     obtain⟨k1,k2⟩:=ef j1 j2 j3 hAh (F _) dn (I N (aF m.ws a))
     have k3:=i5 j1 rfl hd8 (aF m.ws a)
     obtain⟨s0,s1,s2,s3,s4,s5,s6,s7,hs⟩:=aC (xs:=[r0,r1,r2,r3,r4,r5,r6,r7].set dn (aF m.ws a)) (by simp)
     have HS:=H hs
     rw[hs] at k3
     clear j1 j2 j3 hc4 ho4 hs kx kp
     generalize w4.setCell ⟨w.heap.size,dn,O⟩ (I N (aF m.ws a))=y3 at *
     obtain⟨o0,o1,o2,o3,o4,o5⟩:=k3.cells
     have zf:=Bk.free k3.o
     simp only at o0 o1 o2 o3 o4 o5
     obtain⟨l1,l2⟩:=ef k3 k1 k2 hAh (b:=w.heap.size+1+1+1+1) (by omega) 3 (.bool T)
     have l3:=gP k3 T
     have GM:Hid (wQ w pc ⟨18,dn,s,tn,un,a',k',pl⟩ a X.p X.q X.g X.s k.zs A (y3.setCell ⟨w.heap.size+1+1+1+1,3,O⟩ (.bool T))):=H (by
      have e:A=⟨m.ws.set a V,⟨[s0,s1,s2,s3,s4,s5,s6,s7],pc+1⟩,T,P⟩:=by rw[HA.out];simp only[gC];simp[EV.out,HS.out]
      exact⟨_,T,rfl,l3,by rw[e];exact l1,l2,H (by rw[e];exact⟨rfl,rfl,rfl⟩)⟩)
     clear k1 k2 k3 l1 l2 l3
     go_wp2
     go_meet
     case rel=>exact⟨rfl,GM.out⟩)
   by_cases h19:op=19
   ·subst h19
    have cD:=hI.c.at_ rfl hd8
    have zf:=Bk.free hI.c
    generalize aF [r0,r1,r2,r3,r4,r5,r6,r7] dn=VD at *
    by_cases hVe:aF m.ws a=V
    ·have HC:=H (Bx hM.cel a ha U hU)
     rw[hVe] at HC
     go_wp2_with fail
     refine HC.out.mono ?_
     rintro e y3 ⟨rfl,hc,ho⟩
     obtain⟨g1,g2,g3⟩:=gQ hI hM hG hAh hc ho (by simp)
     have HV:=H hVe
     clear hM hG hI x3 p0 kx kp e0 e1 e2 e3 e4 e5 e6 e7 hc ho HC hVe cD zf
     obtain⟨o0,o1,o2,o3,o4,o5⟩:=g1.cells
     have zf:=Bk.free g1.o
     simp only at o0 o1 o2 o3 o4 o5
     obtain⟨k1,k2⟩:=ef g1 g2 g3 hAh (b:=w.heap.size+1+1+1+1) (by omega) 3 (.bool T)
     have k3:=gP g1 T
     go_upto_region 14 with fail
     clear g1 g2 g3 o0 o1 o2 o3 o4 o5 zf
     generalize y3.setCell ⟨w.heap.size+1+1+1+1,3,O⟩ (.bool T)=y4 at *
     obtain⟨e0,e1,e2,e3,e4,e5,e6,e7⟩:=k3.i.cells
     have cD:=k3.c.at_ rfl hd8
     have zf:=Bk.free k3.c
     simp only at e0 e1 e2 e3 e4 e5 e6 e7
     obtain⟨g1,g2⟩:=ef k3 k1 k2 hAh (F _) dn (I N 0)
     have g3:=i5 k3 rfl hd8 0
     obtain⟨s0,s1,s2,s3,s4,s5,s6,s7,hs⟩:=aC (xs:=[r0,r1,r2,r3,r4,r5,r6,r7].set dn 0) (by simp)
     rw[hs] at g3
     have HS:=H hs
     generalize aF [r0,r1,r2,r3,r4,r5,r6,r7] dn=VD2 at *
     go_upto_region 15 with fail
     clear k1 k2 k3 e0 e1 e2 e3 e4 e5 e6 e7 cD zf hs
     generalize y4.setCell ⟨w.heap.size,dn,O⟩ (I N 0)=y5 at *
     obtain⟨o0,o1,o2,o3,o4,o5⟩:=g3.cells
     simp only at o0 o1 o2 o3 o4 o5
     obtain⟨e0,e1,e2,e3,e4,e5,e6,e7⟩:=g3.i.cells
     have cD:=g3.c.at_ rfl hd8
     have zf:=Bk.free g3.c
     simp only at e0 e1 e2 e3 e4 e5 e6 e7
     obtain⟨k1,k2⟩:=ef g3 g1 g2 hAh (F _) dn (I N 1)
     have k3:=i5 g3 rfl hd8 1
     generalize aF [s0,s1,s2,s3,s4,s5,s6,s7] dn=VD3 at *
     have GM:Hid (wQ w pc ⟨19,dn,s,tn,un,a',k',pl⟩ a X.p X.q X.g X.s k.zs A (y5.setCell ⟨w.heap.size,dn,O⟩ (I N 1))):=H (by
      have e:A=⟨m.ws.set a U,⟨[s0,s1,s2,s3,s4,s5,s6,s7].set dn 1,pc+1⟩,T,P⟩:=by rw[HA.out,<-HS.out,List.set_set];simp only[gC];simp[EV.out,EU.out,HV.out]
      exact⟨_,T,by simp,k3,by rw[e];exact k1,k2,H (by rw[e];exact⟨rfl,rfl,rfl⟩)⟩)
     clear k1 k2 k3 g1 g2 g3
     go_wp2
     go_meet
     case rel=>exact⟨rfl,GM.out⟩
    ·have HC:=H (yI hM.cel a ha V U hVe)
     have HV:=H hVe
     clear hVe
     go_wp2_with fail
     refine HC.out.mono ?_
     rintro e y3 ⟨rfl,hc,ho⟩
     obtain⟨g1,g2,g3⟩:=gQ hI hM hG hAh hc ho rfl
     clear hM hG hI x3 p0 kx kp e0 e1 e2 e3 e4 e5 e6 e7 hc ho HC cD zf
     obtain⟨o0,o1,o2,o3,o4,o5⟩:=g1.cells
     have zf:=Bk.free g1.o
     simp only at o0 o1 o2 o3 o4 o5
     obtain⟨k1,k2⟩:=ef g1 g2 g3 hAh (b:=w.heap.size+1+1+1+1) (by omega) 3 (.bool P)
     have k3:=gP g1 P
     go_upto_region 14 with fail
     clear g1 g2 g3 o0 o1 o2 o3 o4 o5 zf
     generalize y3.setCell ⟨w.heap.size+1+1+1+1,3,O⟩ (.bool P)=y4 at *
     obtain⟨e0,e1,e2,e3,e4,e5,e6,e7⟩:=k3.i.cells
     have cD:=k3.c.at_ rfl hd8
     have zf:=Bk.free k3.c
     simp only at e0 e1 e2 e3 e4 e5 e6 e7
     obtain⟨g1,g2⟩:=ef k3 k1 k2 hAh (F _) dn (I N 0)
     have g3:=i5 k3 rfl hd8 0
     generalize aF [r0,r1,r2,r3,r4,r5,r6,r7] dn=VD2 at *
     go_upto_region 15 with fail
     clear k1 k2 k3 e0 e1 e2 e3 e4 e5 e6 e7 cD zf
     generalize y4.setCell ⟨w.heap.size,dn,O⟩ (I N 0)=y5 at *
     obtain⟨o0,o1,o2,o3,o4,o5⟩:=g3.cells
     simp only at o0 o1 o2 o3 o4 o5
     have GM:Hid (wQ w pc ⟨19,dn,s,tn,un,a',k',pl⟩ a X.p X.q X.g X.s k.zs A y5):=H (by
      have e:A=⟨m.ws,⟨[r0,r1,r2,r3,r4,r5,r6,r7].set dn 0,pc+1⟩,P,P⟩:=by rw[HA.out];simp only[gC];simp[EV.out,HV.out]
      exact⟨_,P,by simp,g3,by rw[e];exact g1,g2,H (by rw[e];exact⟨rfl,rfl,rfl⟩)⟩)
     clear g1 g2 g3
     go_wp2
     go_meet
     case rel=>exact⟨rfl,GM.out⟩
   by_cases h20:op=20
   ·subst h20
    have cD:=hI.c.at_ rfl hd8
    have zf:=Bk.free hI.c
    have HSW:=H (FJ (hM.drewN 1).cel a ha k' hk32)
    have HIM:=H (And.intro (hI.within ((ab.refl y (fun _=>False)).dg 1) (by simp)) (And.intro (hM.drewN 1) (dD hG 1)))
    go_upto_region 18 with fail
    generalize aF [r0,r1,r2,r3,r4,r5,r6,r7] dn=VD at *
    go_region_held3 (fun W=>W.cell? ⟨X.x,3,O⟩=Z (K (Z ⟨X.p,0,O⟩))/\W.cell? ⟨X.p,0,O⟩=Z (K (Z ⟨X.q,0,O⟩))/\W.cell? ⟨w.heap.size+1,1,O⟩=Z (I Q dn)/\W.cell? ⟨w.heap.size+1,6,O⟩=Z (I N k')) (first | (exact⟨x3,p0,e1,e6⟩) | (exact⟨f1,f2,f3,f3'⟩) | go_keep)
     (first | (go_at_call 129;refine HSW.out.mono ?_;rintro e w4 ⟨rfl,hc4,ho4⟩;obtain⟨j1,j2,j3⟩:=gQ HIM.out.1 HIM.out.2.1 HIM.out.2.2 hAh hc4 ho4 (by simp);have f1:w4.cell? ⟨X.x,3,O⟩=Z (K (Z ⟨X.p,0,O⟩)):=(HX3.out w4 ho4);have f2:=j2.c0;have f3:w4.cell? ⟨w.heap.size+1,1,O⟩=Z (I Q dn):=(j1.i.cells).2.1;have f3':w4.cell? ⟨w.heap.size+1,6,O⟩=Z (I N k'):=(j1.i.cells).2.2.2.2.2.2.1;have f4:=j1.c.at_ rfl hd8;have f5:=Bk.free j1.c))
    all_goals (
     clear f1 f2 f3 f4 f5 HIM HSW f3' hM hG hI x3 p0 e0 e1 e2 e3 e4 e5 e6 e7
     obtain⟨k1,k2⟩:=ef j1 j2 j3 hAh (F _) dn (I N (aF m.ws a))
     have k3:=i5 j1 rfl hd8 (aF m.ws a)
     obtain⟨s0,s1,s2,s3,s4,s5,s6,s7,hs⟩:=aC (xs:=[r0,r1,r2,r3,r4,r5,r6,r7].set dn (aF m.ws a)) (by simp)
     have HS:=H hs
     rw[hs] at k3
     clear j1 j2 j3 hc4 ho4 hs kx kp
     generalize w4.setCell ⟨w.heap.size,dn,O⟩ (I N (aF m.ws a))=y3 at *
     obtain⟨o0,o1,o2,o3,o4,o5⟩:=k3.cells
     have zf:=Bk.free k3.o
     simp only at o0 o1 o2 o3 o4 o5
     obtain⟨l1,l2⟩:=ef k3 k1 k2 hAh (b:=w.heap.size+1+1+1+1) (by omega) 3 (.bool T)
     have l3:=gP k3 T
     have GM:Hid (wQ w pc ⟨20,dn,s,tn,un,a',k',pl⟩ a X.p X.q X.g X.s k.zs A (y3.setCell ⟨w.heap.size+1+1+1+1,3,O⟩ (.bool T))):=H (by
      have e:A=⟨m.ws.set a (lG (aF m.ws a+k')),⟨[s0,s1,s2,s3,s4,s5,s6,s7],pc+1⟩,T,P⟩:=by rw[HA.out];simp only[gC];simp[HS.out,lG]
      exact⟨_,T,rfl,l3,by rw[e];exact l1,l2,H (by rw[e];exact⟨rfl,rfl,rfl⟩)⟩)
     clear k1 k2 k3 l1 l2 l3
     go_wp2
     go_meet
     case rel=>exact⟨rfl,GM.out⟩)
   have h21:op=21:=by omega
   subst h21
   obtain⟨AWC,hAWC⟩:∃ q,q=fK ⟨[r0,r1,r2,r3,r4,r5,r6,r7],pc⟩ ⟨21,dn,s,tn,un,a',k',pl⟩ (aF m.ws a) late:=⟨_,rfl⟩
   have hE:bh AWC.1.xs:=by rw[hAWC];exact jC HWA.out HE8.out
   obtain⟨s0,s1,s2,s3,s4,s5,s6,s7,hs⟩:=aC hE.1
   obtain⟨PC,hPC⟩:∃ q,q=AWC.1.pc:=⟨_,rfl⟩
   obtain⟨ST,hST⟩:∃ q,q=AWC.2:=⟨_,rfl⟩
   have HA2:Hid (A=⟨m.ws,⟨[s0,s1,s2,s3,s4,s5,s6,s7],PC⟩,P,ST⟩):=H (by
    rw[HA.out]
    simp only[gC]
    simp[<-hAWC,hST,hPC,<-hs])
   have HAW2:Hid (∀ W,Calls Tryz.prog 130 #[.agg #[I N r0,I N r1,I N r2,I N r3,I N r4,I N r5,I N r6,I N r7,I Q pc],.agg #[I Q 21,I Q dn,I Q s,I Q tn,I Q un,I Q a',I N k',I Q pl],I N (aF m.ws a),.bool late] W fun e w'=>e=.returned (.tuple #[.agg #[I N s0,I N s1,I N s2,I N s3,I N s4,I N s5,I N s6,I N s7,I Q PC],.bool ST])/\Below W.heap.size W w'):=H fun W=>(HAW.out (aF m.ws a) W rfl HWA.out).mono fun e w' ⟨h1,h2⟩=>⟨by
    rw[h1,<-hAWC,<-hST]
    unfold cv bP
    rw[hs,<-hPC]
    rfl,h2⟩
   have hS0:ij w [r0,r1,r2,r3,r4,r5,r6,r7] pc ⟨21,dn,s,tn,un,a',k',pl⟩ ⟨[],-1,a,P,P,0⟩ X.p X.q X.g X.s k.zs m.ws X.x y:=⟨hI,hM,hG,x3,HXL.out⟩
   clear hAWC hE hs hPC hST hI hM hG x3 p0 kx kp e0 e1 e2 e3 e4 e5 e6 e7 HA HAW hdi0 hdi1 hk32 HX3
   go_upto_region 21 with fail
   refine cg [16,18] (DQ w ⟨21,dn,s,tn,un,a',k',pl⟩ a X.p X.q X.g X.s k.zs m.ws X.x ⟨[r0,r1,r2,r3,r4,r5,r6,r7],pc⟩ ⟨[s0,s1,s2,s3,s4,s5,s6,s7],PC⟩ ST) (fun _ _ _=>True) (fun vs=>{ tmps:=#[K (Z ⟨X.x,0,O⟩),.agg #[I N r0,I N r1,I N r2,I N r3,I N r4,I N r5,I N r6,I N r7,I Q pc],.agg #[I Q 21,I Q (dn:Int),I Q s,I Q (tn:Int),I Q (un:Int),I Q a',I N k',I Q pl],I Q (a:Int),.bool late,E,K (Z ⟨w.heap.size,0,O⟩),K (Z ⟨w.heap.size+1,0,O⟩),E,E,K (Z ⟨w.heap.size+1+1,0,O⟩),K (Z ⟨w.heap.size+1+1+1,0,O⟩),K (Z ⟨w.heap.size+1+1+1+1,0,O⟩),I N V,I N U,I Q (a:Int),.agg #[R O 0 0,I Q (-1),I Q (a:Int),.bool P,.bool P,I Q 0],K (Z ⟨w.heap.size+1,3,O⟩),I Q (tn:Int),K (Z ⟨w.heap.size,0,O⟩),K (Z ⟨w.heap.size,tn,O⟩),I N V,K (Z ⟨w.heap.size+1,4,O⟩),I Q (un:Int),K (Z ⟨w.heap.size,0,O⟩),K (Z ⟨w.heap.size,un,O⟩),I N U,K (Z ⟨w.heap.size+1,0,O⟩),I Q 21,.bool P,.bool P,E,E,E,E,E,E,E,E,E,E,E,E,E,.bool P,.bool P,E,E,E,E,E,E,E,E,E,E,E,.bool P,.bool P,E,E,E,E,E,E,E,E,E,E,E,E,E,E,E,.bool P,.bool P,E,E,E,E,E,E,E,E,E,E,E,E,E,E,E,E,E,E,E,E,E,E,.bool P,.bool P,E,E,E,E,E,E,E,E,E,E,E,E,E,E,E,E,.bool T,.bool T,vs 13,vs 0,vs 1,vs 2,vs 3,vs 4,vs 5,vs 6,vs 7,vs 8,vs 9,vs 10,vs 11,vs 12,vs 14,vs 15,vs 17,E,E,E,E,E,E,E,E],defers:=[] }) (oP [.agg #[I N r0,I N r1,I N r2,I N r3,I N r4,I N r5,I N r6,I N r7,I Q pc],.agg #[I Q 21,I Q (dn:Int),I Q s,I Q (tn:Int),I Q (un:Int),I Q a',I N k',I Q pl],K (Z ⟨X.x,0,O⟩),K (Z ⟨X.x,0,O⟩),K (Z ⟨X.x,3,O⟩),K (Z ⟨X.p,0,O⟩),K (Z ⟨X.p,0,O⟩),K (Z ⟨X.p,0,O⟩),K (Z ⟨X.q,0,O⟩),I Q (a:Int),I N (aF m.ws a),.bool late,.tuple #[.agg #[I N s0,I N s1,I N s2,I N s3,I N s4,I N s5,I N s6,I N s7,I Q PC],.bool ST],.tuple #[.agg #[I N s0,I N s1,I N s2,I N s3,I N s4,I N s5,I N s6,I N s7,I Q PC],.bool ST],.agg #[I N s0,I N s1,I N s2,I N s3,I N s4,I N s5,I N s6,I N s7,I Q PC],.bool ST,E,K (Z ⟨w.heap.size+1+1+1+1,4,O⟩),E]) ?ghm ?ghr ?ghc ?ghnd ?ghlit ?gh0 ?ghW ?ghF ?ghS ?gops ?gdone
   case ghm=>kernel_rfl
   case ghr=>kernel_rfl
   case ghc=>kernel_rfl
   case ghnd=>decide
   case ghlit=>intro vs;rfl
   case gh0=>exact hS0
   case ghW=>exact fun k W W2 h hb=>tD h hb
   case ghF=>exact df
   case ghS=>exact fun k W W2 _ _ i v h=>h
   case gops=>
    refine⟨?_,?_,?_,?_,?_,?_,?_,?_,?_,?_,?_,?_,?_,?_,?_,?_,?_,?_,?_,trivial⟩
    ·intro vs W k h1 h2 hW hd
     obtain rfl:k=0:=Nat.le_zero.1 h2
     refine aa rfl ?_
     obtain⟨j1,j2,j3,x3,-⟩:ij w [r0,r1,r2,r3,r4,r5,r6,r7] pc ⟨21,dn,s,tn,un,a',k',pl⟩ ⟨[],-1,a,P,P,0⟩ X.p X.q X.g X.s k.zs m.ws X.x W:=id hW;obtain⟨c0,c1,c2,c3,c4,c5,c6,c7,c8⟩:=j1.c.cells;obtain⟨e0,e1,e2,e3,e4,e5,e6,e7⟩:=j1.i.cells;simp only at e0 e1 e2 e3 e4 e5 e6 e7;have p0:=j2.c0;have zf:=Bk.free j1.c;clear j1 j2 j3
     clear hd
     go_simp
     exact⟨rfl,G _ _⟩
    ·intro vs W k h1 h2 hW hd
     obtain rfl:k=0:=Nat.le_zero.1 h2
     refine aa rfl ?_
     obtain⟨j1,j2,j3,x3,-⟩:ij w [r0,r1,r2,r3,r4,r5,r6,r7] pc ⟨21,dn,s,tn,un,a',k',pl⟩ ⟨[],-1,a,P,P,0⟩ X.p X.q X.g X.s k.zs m.ws X.x W:=id hW;obtain⟨c0,c1,c2,c3,c4,c5,c6,c7,c8⟩:=j1.c.cells;obtain⟨e0,e1,e2,e3,e4,e5,e6,e7⟩:=j1.i.cells;simp only at e0 e1 e2 e3 e4 e5 e6 e7;have p0:=j2.c0;have zf:=Bk.free j1.c;clear j1 j2 j3
     clear hd
     go_simp
     exact⟨rfl,G _ _⟩
    ·intro vs W k h1 h2 hW hd
     obtain rfl:k=0:=Nat.le_zero.1 h2
     refine aa rfl ?_
     clear hd
     go_simp
     exact⟨rfl,G _ _⟩
    ·intro vs W k h1 h2 hW hd
     obtain rfl:k=0:=Nat.le_zero.1 h2
     refine aa rfl ?_
     have e2:vs 2=K (Z ⟨X.x,0,O⟩):=hd 2 (by decide)
     clear hd
     go_simp
     exact⟨rfl,G _ _⟩
    ·intro vs W k h1 h2 hW hd
     obtain rfl:k=0:=Nat.le_zero.1 h2
     refine aa rfl ?_
     have e3:vs 3=K (Z ⟨X.x,0,O⟩):=hd 3 (by decide)
     clear hd
     go_simp
     exact⟨rfl,G _ _⟩
    ·intro vs W k h1 h2 hW hd
     obtain rfl:k=0:=Nat.le_zero.1 h2
     refine aa rfl ?_
     have e4:vs 4=K (Z ⟨X.x,3,O⟩):=hd 4 (by decide)
     obtain⟨j1,j2,j3,x3,-⟩:ij w [r0,r1,r2,r3,r4,r5,r6,r7] pc ⟨21,dn,s,tn,un,a',k',pl⟩ ⟨[],-1,a,P,P,0⟩ X.p X.q X.g X.s k.zs m.ws X.x W:=id hW;obtain⟨c0,c1,c2,c3,c4,c5,c6,c7,c8⟩:=j1.c.cells;obtain⟨e0,e1,e2,e3,e4,e5,e6,e7⟩:=j1.i.cells;simp only at e0 e1 e2 e3 e4 e5 e6 e7;have p0:=j2.c0;have zf:=Bk.free j1.c;clear j1 j2 j3
     clear hd
     go_simp
     exact⟨rfl,G _ _⟩
    ·intro vs W k h1 h2 hW hd
     obtain rfl:k=0:=Nat.le_zero.1 h2
     refine aa rfl ?_
     have e5:vs 5=K (Z ⟨X.p,0,O⟩):=hd 5 (by decide)
     clear hd
     go_simp
     exact⟨rfl,G _ _⟩
    ·intro vs W k h1 h2 hW hd
     obtain rfl:k=0:=Nat.le_zero.1 h2
     refine aa rfl ?_
     have e6:vs 6=K (Z ⟨X.p,0,O⟩):=hd 6 (by decide)
     clear hd
     go_simp
     exact⟨rfl,G _ _⟩
    ·intro vs W k h1 h2 hW hd
     obtain rfl:k=0:=Nat.le_zero.1 h2
     refine aa rfl ?_
     have e7:vs 7=K (Z ⟨X.p,0,O⟩):=hd 7 (by decide)
     obtain⟨j1,j2,j3,x3,-⟩:ij w [r0,r1,r2,r3,r4,r5,r6,r7] pc ⟨21,dn,s,tn,un,a',k',pl⟩ ⟨[],-1,a,P,P,0⟩ X.p X.q X.g X.s k.zs m.ws X.x W:=id hW;obtain⟨c0,c1,c2,c3,c4,c5,c6,c7,c8⟩:=j1.c.cells;obtain⟨e0,e1,e2,e3,e4,e5,e6,e7⟩:=j1.i.cells;simp only at e0 e1 e2 e3 e4 e5 e6 e7;have p0:=j2.c0;have zf:=Bk.free j1.c;clear j1 j2 j3
     clear hd
     go_simp
     exact⟨rfl,G _ _⟩
    ·intro vs W k h1 h2 hW hd
     obtain rfl:k=0:=Nat.le_zero.1 h2
     refine aa rfl ?_
     clear hd
     go_simp
     exact⟨rfl,G _ _⟩
    ·intro vs W k h1 h2 hW hd
     obtain rfl:k=0:=Nat.le_zero.1 h2
     refine aa rfl ?_
     have e8:vs 8=K (Z ⟨X.q,0,O⟩):=hd 8 (by decide)
     have e9:vs 9=I Q (a:Int):=hd 9 (by decide)
     clear hd
     go_simp
     refine(hLd.out _ (ij.am hW)).mono ?_
     rintro e z ⟨rfl,rfl⟩
     exact⟨_,rfl,rfl,G _ _⟩
    ·intro vs W k h1 h2 hW hd
     obtain rfl:k=0:=Nat.le_zero.1 h2
     refine aa rfl ?_
     clear hd
     go_simp
     exact⟨rfl,G _ _⟩
    ·intro vs W k h1 h2 hW hd
     obtain rfl:k=0:=Nat.le_zero.1 h2
     refine aa rfl ?_
     have e0:vs 0=.agg #[I N r0,I N r1,I N r2,I N r3,I N r4,I N r5,I N r6,I N r7,I Q pc]:=hd 0 (by decide)
     have e1:vs 1=.agg #[I Q 21,I Q (dn:Int),I Q s,I Q (tn:Int),I Q (un:Int),I Q a',I N k',I Q pl]:=hd 1 (by decide)
     have e10:vs 10=I N (aF m.ws a):=hd 10 (by decide)
     have e11:vs 11=.bool late:=hd 11 (by decide)
     clear hd
     go_simp
     refine(HAW2.out _).mono ?_
     rintro e z ⟨rfl,hz⟩
     exact⟨_,rfl,rfl,hz⟩
    ·intro vs W k h1 h2 hW hd
     obtain rfl:k=0:=Nat.le_zero.1 h2
     refine aa rfl ?_
     have e12:vs 12=.tuple #[.agg #[I N s0,I N s1,I N s2,I N s3,I N s4,I N s5,I N s6,I N s7,I Q PC],.bool ST]:=hd 12 (by decide)
     clear hd
     go_simp
     exact⟨rfl,G _ _⟩
    ·intro vs W k h1 h2 hW hd
     obtain rfl:k=0:=Nat.le_zero.1 h2
     refine aa rfl ?_
     have e13:vs 13=.tuple #[.agg #[I N s0,I N s1,I N s2,I N s3,I N s4,I N s5,I N s6,I N s7,I Q PC],.bool ST]:=hd 13 (by decide)
     clear hd
     go_simp
     exact⟨rfl,G _ _⟩
    ·intro vs W k h1 h2 hW hd
     refine aa rfl ?_
     have e13:vs 13=.tuple #[.agg #[I N s0,I N s1,I N s2,I N s3,I N s4,I N s5,I N s6,I N s7,I Q PC],.bool ST]:=hd 13 (by decide)
     clear hd
     go_simp
     exact⟨rfl,G _ _⟩
    ·intro vs W hW hd
     have e14:vs 14=.agg #[I N s0,I N s1,I N s2,I N s3,I N s4,I N s5,I N s6,I N s7,I Q PC]:=hd 14 (by decide)
     obtain⟨j1,j2,j3,x3,-⟩:ij w [r0,r1,r2,r3,r4,r5,r6,r7] pc ⟨21,dn,s,tn,un,a',k',pl⟩ ⟨[],-1,a,P,P,0⟩ X.p X.q X.g X.s k.zs m.ws X.x W:=id hW;obtain⟨c0,c1,c2,c3,c4,c5,c6,c7,c8⟩:=j1.c.cells;obtain⟨e0,e1,e2,e3,e4,e5,e6,e7⟩:=j1.i.cells;simp only at e0 e1 e2 e3 e4 e5 e6 e7;have p0:=j2.c0;have zf:=Bk.free j1.c;clear j1 j2 j3
     refine aM rfl ?_
     clear hd
     go_simp
     exact⟨rfl,ww hAh hW⟩
    ·intro vs W k h1 h2 hW hd
     refine aa rfl ?_
     clear hd
     go_simp
     exact⟨rfl,G _ _⟩
    ·intro vs W hW hd
     have e15:vs 15=.bool ST:=hd 15 (by decide)
     have e17:vs 17=K (Z ⟨w.heap.size+1+1+1+1,4,O⟩):=hd 17 (by decide)
     obtain⟨j1,j2,j3,x3,-⟩:ij w [s0,s1,s2,s3,s4,s5,s6,s7] PC ⟨21,dn,s,tn,un,a',k',pl⟩ ⟨[],-1,a,P,P,0⟩ X.p X.q X.g X.s k.zs m.ws X.x W:=id hW;obtain⟨o0,o1,o2,o3,o4,o5⟩:=j1.cells;simp only at o0 o1 o2 o3 o4 o5;have zf:=Bk.free j1.o;clear j1 j2 j3
     refine aM rfl ?_
     clear hd
     go_simp
     exact⟨rfl,wv hAh hW ST⟩
   case gdone=>
    intro vs W hW hf
    obtain⟨j1,j2,j3,-,-⟩:ij w [s0,s1,s2,s3,s4,s5,s6,s7] PC ⟨21,dn,s,tn,un,a',k',pl⟩ ⟨[],-1,a,P,ST,0⟩ X.p X.q X.g X.s k.zs m.ws X.x W:=id hW
    clear hW hS0
    have f0:vs 0=.agg #[I N r0,I N r1,I N r2,I N r3,I N r4,I N r5,I N r6,I N r7,I Q pc]:=hf 0 (by decide)
    have f1:vs 1=.agg #[I Q 21,I Q (dn:Int),I Q s,I Q (tn:Int),I Q (un:Int),I Q a',I N k',I Q pl]:=hf 1 (by decide)
    have f2:vs 2=K (Z ⟨X.x,0,O⟩):=hf 2 (by decide)
    have f3:vs 3=K (Z ⟨X.x,0,O⟩):=hf 3 (by decide)
    have f4:vs 4=K (Z ⟨X.x,3,O⟩):=hf 4 (by decide)
    have f5:vs 5=K (Z ⟨X.p,0,O⟩):=hf 5 (by decide)
    have f6:vs 6=K (Z ⟨X.p,0,O⟩):=hf 6 (by decide)
    have f7:vs 7=K (Z ⟨X.p,0,O⟩):=hf 7 (by decide)
    have f8:vs 8=K (Z ⟨X.q,0,O⟩):=hf 8 (by decide)
    have f9:vs 9=I Q (a:Int):=hf 9 (by decide)
    have f10:vs 10=I N (aF m.ws a):=hf 10 (by decide)
    have f11:vs 11=.bool late:=hf 11 (by decide)
    have f12:vs 12=.tuple #[.agg #[I N s0,I N s1,I N s2,I N s3,I N s4,I N s5,I N s6,I N s7,I Q PC],.bool ST]:=hf 12 (by decide)
    have f13:vs 13=.tuple #[.agg #[I N s0,I N s1,I N s2,I N s3,I N s4,I N s5,I N s6,I N s7,I Q PC],.bool ST]:=hf 13 (by decide)
    have f14:vs 14=.agg #[I N s0,I N s1,I N s2,I N s3,I N s4,I N s5,I N s6,I N s7,I Q PC]:=hf 14 (by decide)
    have f15:vs 15=.bool ST:=hf 15 (by decide)
    have f17:vs 17=K (Z ⟨w.heap.size+1+1+1+1,4,O⟩):=hf 17 (by decide)
    simp only[f0,f1,f2,f3,f4,f5,f6,f7,f8,f9,f10,f11,f12,f13,f14,f15,f17]
    clear f0 f1 f2 f3 f4 f5 f6 f7 f8 f9 f10 f11 f12 f13 f14 f15 f17 hf
    obtain⟨c0,c1,c2,c3,c4,c5,c6,c7,c8⟩:=j1.c.cells
    obtain⟨o0,o1,o2,o3,o4,o5⟩:=j1.cells
    obtain⟨z0,z1,z2,z3,z4,z5,z6,z7,z8⟩:=j1.r.cells
    obtain⟨x0,x1,x2,x3,x4,x5⟩:=j1.e.gS
    have zf1:=Bk.free j1.r
    have zf2:=Bk.free j1.e
    simp only at o0 o1 o2 o3 o4 o5
    obtain⟨f1,f2,f3,f4⟩:=uA (s0:=s0) (s1:=s1) (s2:=s2) (s3:=s3) (s4:=s4) (s5:=s5) (s6:=s6) (s7:=s7) (PC:=PC) (v0:=R O 0 0) (v1:=I Q (-1)) (v2:=I Q a) (v3:=.bool P) (v4:=.bool ST) (v5:=I Q 0) j1 j2 j3 hAh
    go_upto_region 22 with fail
    go_region
    generalize hv9:((((((((((((((((((W.setCell ⟨(w.heap.size+1+1),0,O⟩ (I N s0)).setCell ⟨(w.heap.size+1+1),1,O⟩ (I N s1)).setCell ⟨(w.heap.size+1+1),2,O⟩ (I N s2)).setCell ⟨(w.heap.size+1+1),3,O⟩ (I N s3)).setCell ⟨(w.heap.size+1+1),4,O⟩ (I N s4)).setCell ⟨(w.heap.size+1+1),5,O⟩ (I N s5)).setCell ⟨(w.heap.size+1+1),6,O⟩ (I N s6)).setCell ⟨(w.heap.size+1+1),7,O⟩ (I N s7)).setCell ⟨(w.heap.size+1+1),8,O⟩ (I Q PC))).setCell ⟨(w.heap.size+1+1+1),0,O⟩ ((R O 0 0))).setCell ⟨(w.heap.size+1+1+1),1,O⟩ (I Q (-1))).setCell ⟨(w.heap.size+1+1+1),2,O⟩ (I Q a)).setCell ⟨(w.heap.size+1+1+1),3,O⟩ (.bool P)).setCell ⟨(w.heap.size+1+1+1),4,O⟩ (.bool ST)).setCell ⟨(w.heap.size+1+1+1),5,O⟩ (I Q 0))).drew)=v9
    replace hv9:(co (bn W (w.heap.size+1+1) (I N s0) (I N s1) (I N s2) (I N s3) (I N s4) (I N s5) (I N s6) (I N s7) (I Q PC)) (w.heap.size+1+1+1) (R O 0 0) (I Q (-1)) (I Q a) (.bool P) (.bool ST) (I Q 0)).drew=v9:=hv9
    rw[hv9] at f1 f2 f3 f4
    clear hv9 j1 j2 j3 c0 c1 c2 c3 c4 c5 c6 c7 c8 o0 o1 o2 o3 o4 o5 z0 z1 z2 z3 z4 z5 z6 z7 z8 zf1 zf2 x0 x1 x2 x3 x4 x5
    obtain⟨c0,c1,c2,c3,c4,c5,c6,c7,c8⟩:=f1.cells
    obtain⟨o0,o1,o2,o3,o4,o5⟩:=f2.gS
    go_wp
    exact bodyPost_ret (v:=.tuple #[.agg #[I N s0,I N s1,I N s2,I N s3,I N s4,I N s5,I N s6,I N s7,I Q PC],.agg #[(R O 0 0),I Q (-1),I Q a,.bool P,.bool ST,I Q 0]]) (by simp[results,Tryz.results84,go_sem,c0,c1,c2,c3,c4,c5,c6,c7,c8,o0,o1,o2,o3,o4,o5]) rfl ⟨by rw[HA2.out];rfl,by rw[HA2.out];exact f3,f4⟩
 case rest=>
  obtain⟨rfl,xs',wr,h8,hI',hM',hG',hAA⟩:=hcut
  clear hI hM hG x3 p0 e0 e1 e2 e3 e4 e5 e6 e7 hLd HA HAW EV EU kx kp
  obtain⟨s0,s1,s2,s3,s4,s5,s6,s7,rfl⟩:=aC h8
  obtain⟨c0,c1,c2,c3,c4,c5,c6,c7,c8⟩:=hI'.c.cells
  have zf:=Bk.free hI'.c
  replace hw1:=hw1.out
  go_upto_region 24 with fail
  obtain⟨g1,g2⟩:=ef hI' hM' hG' hAh (F _) 8 (I Q (pc+1))
  have g3:jz w (wc.setCell ⟨w.heap.size,8,O⟩ (I Q (pc+1))) w.heap.size [s0,s1,s2,s3,s4,s5,s6,s7] (pc+1) ⟨op,dn,s,tn,un,a',k',pl⟩ ⟨[],-1,a,wr,P,0⟩:=
   ⟨Bk.put hI'.c 8 (I Q (pc+1)),Bk.off hI'.i (p:=⟨w.heap.size,8,O⟩) (by show w.heap.size+1≠w.heap.size;omega) _,Bk.off hI'.r (p:=⟨w.heap.size,8,O⟩) (by show w.heap.size+1+1≠w.heap.size;omega) _,Bk.off hI'.e (p:=⟨w.heap.size,8,O⟩) (by show w.heap.size+1+1+1≠w.heap.size;omega) _,Bk.off hI'.o (p:=⟨w.heap.size,8,O⟩) (by show w.heap.size+1+1+1+1≠w.heap.size;omega) _⟩
  clear hI' hM' hG' c0 c1 c2 c3 c4 c5 c6 c7 c8 zf hw1
  generalize wc.setCell ⟨w.heap.size,8,O⟩ (I Q (pc+1))=y2 at *
  obtain⟨c0,c1,c2,c3,c4,c5,c6,c7,c8⟩:=g3.c.cells
  obtain⟨o0,o1,o2,o3,o4,o5⟩:=g3.cells
  obtain⟨z0,z1,z2,z3,z4,z5,z6,z7,z8⟩:=g3.r.cells
  obtain⟨x0,x1,x2,x3,x4,x5⟩:=g3.e.gS
  have zf1:=Bk.free g3.r
  have zf2:=Bk.free g3.e
  simp only at o0 o1 o2 o3 o4 o5
  obtain⟨f1,f2,f3,f4⟩:=uA (s0:=s0) (s1:=s1) (s2:=s2) (s3:=s3) (s4:=s4) (s5:=s5) (s6:=s6) (s7:=s7) (PC:=pc+1) (v0:=R O 0 0) (v1:=I Q (-1)) (v2:=I Q a) (v3:=.bool wr) (v4:=.bool P) (v5:=I Q 0) g3 g1 g2 hAh
  go_region
  generalize hv9:((((((((((((((((((y2.setCell ⟨(w.heap.size+1+1),0,O⟩ (I N s0)).setCell ⟨(w.heap.size+1+1),1,O⟩ (I N s1)).setCell ⟨(w.heap.size+1+1),2,O⟩ (I N s2)).setCell ⟨(w.heap.size+1+1),3,O⟩ (I N s3)).setCell ⟨(w.heap.size+1+1),4,O⟩ (I N s4)).setCell ⟨(w.heap.size+1+1),5,O⟩ (I N s5)).setCell ⟨(w.heap.size+1+1),6,O⟩ (I N s6)).setCell ⟨(w.heap.size+1+1),7,O⟩ (I N s7)).setCell ⟨(w.heap.size+1+1),8,O⟩ (I Q (pc+1)))).setCell ⟨(w.heap.size+1+1+1),0,O⟩ ((R O 0 0))).setCell ⟨(w.heap.size+1+1+1),1,O⟩ (I Q (-1))).setCell ⟨(w.heap.size+1+1+1),2,O⟩ (I Q a)).setCell ⟨(w.heap.size+1+1+1),3,O⟩ (.bool wr)).setCell ⟨(w.heap.size+1+1+1),4,O⟩ (.bool P)).setCell ⟨(w.heap.size+1+1+1),5,O⟩ (I Q 0))).drew)=v9
  replace hv9:(co (bn y2 (w.heap.size+1+1) (I N s0) (I N s1) (I N s2) (I N s3) (I N s4) (I N s5) (I N s6) (I N s7) (I Q (pc+1))) (w.heap.size+1+1+1) (R O 0 0) (I Q (-1)) (I Q a) (.bool wr) (.bool P) (I Q 0)).drew=v9:=hv9
  rw[hv9] at f1 f2 f3 f4
  clear hv9 g1 g2 g3 c0 c1 c2 c3 c4 c5 c6 c7 c8 o0 o1 o2 o3 o4 o5 z0 z1 z2 z3 z4 z5 z6 z7 z8 zf1 zf2
  obtain⟨c0,c1,c2,c3,c4,c5,c6,c7,c8⟩:=f1.cells
  obtain⟨o0,o1,o2,o3,o4,o5⟩:=f2.gS
  go_wp
  exact bodyPost_ret (v:=.tuple #[.agg #[I N s0,I N s1,I N s2,I N s3,I N s4,I N s5,I N s6,I N s7,I Q (pc+1)],.agg #[(R O 0 0),I Q (-1),I Q a,.bool wr,.bool P,I Q 0]]) (by simp[results,Tryz.results84,go_sem,c0,c1,c2,c3,c4,c5,c6,c7,c8,o0,o1,o2,o3,o4,o5]) rfl ⟨by rw[hAA.out.1,hAA.out.2.1,hAA.out.2.2];rfl,f3,f4⟩
end
