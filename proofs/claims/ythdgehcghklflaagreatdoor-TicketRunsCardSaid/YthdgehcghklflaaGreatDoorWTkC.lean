import Derived.Test.YthdgehcghklflaaGreatDoorWArR
import Derived.Test.YthdgehcghklflaaGreatDoorWPrgM
set_option linter.unusedVariables false
set_option maxHeartbeats 4000000
set_option maxRecDepth 100000
open Go.Value renaming int->I,slice->T
open Go.IntKind renaming i64->Q,u32->O
open Option renaming none->Z,some->V
open Go.RowKit.Below renaming refl->U
open Nat renaming le_refl->K
open Go renaming undef->J
namespace Go.Proofs.YthdgehcghklflaaGreatDoor
open Go.ChangeShapes Go.WideShapes Go.ChangeAt Go.RowKit
theorem rK:(Tryz.prog.info? 22).map (fun i=>(i.zero,i.size,i.bytes))=V (V (I O 0),1,4):=by kernel_rfl
theorem ol (N:Nat)(hN:N<=40000)(W:World):(Instr.makeSlice 27 (I Q N) (I Q N)).run Tryz.prog W=.ok (T (V ⟨W.heap.size,0,Z⟩) N N) (W.alloc (.cells (madeCells #[I O 0] N) 22)):=by
 obtain⟨i0,hi0,hz0,hz1,hz2⟩:=info_parts rK
 have h:=run_make (P:=Tryz.prog) W 27 22 i0 _ Tryz.underlying27 hi0 hz0 .i64 .i64 N N (by omega) (by omega) (by rw[hz2];omega) (by omega)
 rw[hz1] at h
 simpa [Value.cells] using h
def Dk (w:World)(e:Ending)(w':World):Prop:=∃ v,e=.returned (.tuple #[v,I Q 0,I Q 0])/\Pg w' w.heap.size v cK/\Below w.heap.size w w'
def Bh (aL:Option Addr)(n cL:Nat)(lo un st:Int)(N:Nat)(v:Value)(W:World):Prop:=
 ∃ b1 b2 b3,v=.agg #[T aL n cL,I Q lo,I Q un,T (V ⟨b1,0,Z⟩) 2 2,T (V ⟨b2,0,Z⟩) 2 2,I Q 0,T (V ⟨b3,0,Z⟩) N N]/\Bk W b1 3 #[I Q 1,I Q 1]/\Bk W b2 22 #[I O st,I O st]/\Bk W b3 22 (madeCells #[I O 0] N)
def BV (v:Value)(W:World):Prop:=∃ b,v=T (V ⟨b,0,Z⟩) 2 2/\Bk W b 3 #[I Q 1,I Q 1]
def BU (st:Int)(v:Value)(W:World):Prop:=∃ b,v=T (V ⟨b,0,Z⟩) 2 2/\Bk W b 22 #[I O st,I O st]
def BT (N:Nat)(v:Value)(W:World):Prop:=∃ b,v=T (V ⟨b,0,Z⟩) N N/\Bk W b 22 (madeCells #[I O 0] N)
section
variable {aL:Option Addr}{n cL N:Nat}{lo un st:Int}{v:Value}{W W':World}
theorem Bh.within {S:Nat->Prop}(h:Bh aL n cL lo un st N v W)(hw:ab W W' S)(hS:∀ b,S b->∃ t cs,Bk W b t cs/\t≠3/\t≠22):Bh aL n cL lo un st N v W':=by
 obtain⟨b1,b2,b3,e,h1,h2,h3⟩:=h
 refine⟨b1,b2,b3,e,h1.within hw fun hs=>?_,h2.within hw fun hs=>?_,h3.within hw fun hs=>?_⟩
 ·obtain⟨t,cs,hb,ht,_⟩:=hS _ hs;exact Bk.aj h1 hb (fun e=>ht e.symm) rfl
 ·obtain⟨t,cs,hb,_,ht⟩:=hS _ hs;exact Bk.aj h2 hb (fun e=>ht e.symm) rfl
 ·obtain⟨t,cs,hb,_,ht⟩:=hS _ hs;exact Bk.aj h3 hb (fun e=>ht e.symm) rfl
theorem Bh.below (h:Bh aL n cL lo un st N v W)(hb:Below W.heap.size W W'):Bh aL n cL lo un st N v W':=h.within (av hb) (by simp)
theorem BV.below (h:BV v W)(hb:Below W.heap.size W W'):BV v W':=by obtain⟨b,e,h1⟩:=h;exact⟨b,e,(hb.block _ h1.lt).trans h1⟩
theorem BU.below (h:BU st v W)(hb:Below W.heap.size W W'):BU st v W':=by obtain⟨b,e,h1⟩:=h;exact⟨b,e,(hb.block _ h1.lt).trans h1⟩
theorem BT.below (h:BT N v W)(hb:Below W.heap.size W W'):BT N v W':=by obtain⟨b,e,h1⟩:=h;exact⟨b,e,(hb.block _ h1.lt).trans h1⟩
theorem BV.within {S:Nat->Prop}(h:BV v W)(hw:ab W W' S)(hS:∀ b,S b->∃ t cs,Bk W b t cs/\t≠3/\t≠22):BV v W':=by
 obtain⟨b,e,h1⟩:=h;exact⟨b,e,h1.within hw fun hs=>by obtain⟨t,cs,hb,ht,_⟩:=hS _ hs;exact Bk.aj h1 hb (fun e=>ht e.symm) rfl⟩
theorem BU.within {S:Nat->Prop}(h:BU st v W)(hw:ab W W' S)(hS:∀ b,S b->∃ t cs,Bk W b t cs/\t≠3/\t≠22):BU st v W':=by
 obtain⟨b,e,h1⟩:=h;exact⟨b,e,h1.within hw fun hs=>by obtain⟨t,cs,hb,_,ht⟩:=hS _ hs;exact Bk.aj h1 hb (fun e=>ht e.symm) rfl⟩
theorem BT.within {S:Nat->Prop}(h:BT N v W)(hw:ab W W' S)(hS:∀ b,S b->∃ t cs,Bk W b t cs/\t≠3/\t≠22):BT N v W':=by
 obtain⟨b,e,h1⟩:=h;exact⟨b,e,h1.within hw fun hs=>by obtain⟨t,cs,hb,_,ht⟩:=hS _ hs;exact Bk.aj h1 hb (fun e=>ht e.symm) rfl⟩
theorem iF {k:IntKind}{t:TypeId}{b:Nat}{x:Int}(h:Bk W b t #[.int k x,.int k x]):dM k W (V ⟨b,0,Z⟩) [x,x]:=fun _=>⟨b,0,rfl,h.lt,fun i hi=>by
 have:i=0\/i=1:=by simp at hi;omega
 rcases this with rfl|rfl
 ·exact h.cell 0
 ·exact h.cell 1⟩
theorem kN {t:TypeId}{b:Nat}(h:Bk W b t (madeCells #[I O 0] N)):dM .u32 W (V ⟨b,0,Z⟩) (yN N):=fun _=>⟨b,0,rfl,h.lt,fun i hi=>by
 have hi2:i<N:=by simpa [yN] using hi
 rw[Nat.zero_add,h.cell]
 have e:aG (yN N) i=0:=by
  unfold aG yN
  rw[List.getD_eq_getElem?_getD,List.getElem?_replicate]
  split <;> rfl
 rw[e]
 unfold madeCells
 simp[hi2,Nat.mod_one]⟩
end
theorem C1 (N:Nat)(st:Int)(w:World)(h1:1<=N)(h64:N<=64)(h0:0<=st)(h2:st<4294967296)(HA:∀ W,Below w.heap.size w W->Calls Tryz.prog 27 #[bs fG] W (Dk W)):
 Calls Tryz.prog 8 #[I Q N,I O st] w fun e w'=>∃ v,e=.returned (.tuple #[v,I Q 0])/\Sv w' v cK [1,1] [st,st] (yN N) 0/\Below w.heap.size w w':=by
 have HAA:=Lib.hid HA
 unfold bs fG at HAA
 unfold Dk at HAA
 generalize cK=c at *
 have hb1:Below w.heap.size w (w.alloc (.cells #[T Z 0 0,I Q 0,I Q 0,T Z 0 0,T Z 0 0,I Q 0,T Z 0 0] 29)):=(U _ _).alloc (K _) _
 have q0:=Bk.made w 29 #[T Z 0 0,I Q 0,I Q 0,T Z 0 0,T Z 0 0,I Q 0,T Z 0 0]
 clear HA
 go_enter Tryz.func8,Tryz.ntmps8
 go_upto_region 3 with fail
 generalize w.alloc (.cells #[T Z 0 0,I Q 0,I Q 0,T Z 0 0,T Z 0 0,I Q 0,T Z 0 0] 29)=y at *
 go_upto_region 4 with (refine(HAA.out y hb1).mono ?_;rintro e z ⟨v,rfl,⟨sl,rfl,hO⟩,hz⟩;obtain⟨aL,cL,rfl,hcl⟩:=bp hO)
 have q1:=(hz.block _ (Bk.lt q0)).trans q0
 have b1:=hb1.trans (hz.mono hb1.size)
 have q2:=Bk.made z 25 #[T aL c.l.length cL,I Q c.lo,I Q c.un]
 have hza:Below z.heap.size z (z.alloc (.cells #[T aL c.l.length cL,I Q c.lo,I Q c.un] 25)):=(U _ _).alloc (K _) _
 replace q1:Bk _ w.heap.size 29 #[T Z 0 0,I Q 0,I Q 0,T Z 0 0,T Z 0 0,I Q 0,T Z 0 0]:=(hza.block _ (Bk.lt q1)).trans q1
 replace b1:=b1.trans (hza.mono b1.size)
 have hO2:=dJ hO hza
 obtain⟨zb,hzb⟩:∃ zb,z.heap.size=zb:=⟨_,rfl⟩
 rw[hzb] at q2
 rw[hzb]
 generalize z.alloc (.cells #[T aL c.l.length cL,I Q c.lo,I Q c.un] 25)=x at *
 have HQ:Hid (∀ W,Below x.heap.size x W->Bk W zb 25 #[T aL c.l.length cL,I Q c.lo,I Q c.un]/\Bk W w.heap.size 29 #[T Z 0 0,I Q 0,I Q 0,T Z 0 0,T Z 0 0,I Q 0,T Z 0 0]/\Below w.heap.size w W/\W.ownsRow y.heap.size 119 8 (T aL c.l.length cL) c.l.length (bH c.l)):=Lib.hid fun W hW=>⟨(hW.block _ (Bk.lt q2)).trans q2,(hW.block _ (Bk.lt q1)).trans q1,b1.trans (hW.mono b1.size),dJ hO2 hW⟩
 have HC:=Lib.hid hcl
 clear hO hO2 hza hz hb1 q0 q1 q2 b1 hzb HAA hcl
 refine cN [8] (fun j W=>match j with | 0=>Below x.heap.size x W | _=>∃ v,Bh aL c.l.length cL c.lo c.un st N v W/\(∃ cs,v=.agg cs/\Bk W w.heap.size 29 cs)/\Below w.heap.size w W/\W.ownsRow y.heap.size 119 8 (T aL c.l.length cL) c.l.length (bH c.l)) (fun _ W W2=>ab W W2 (fun i=>i=w.heap.size)/\∃ cs,Bk W w.heap.size 29 cs) (fun vs=>{ tmps:=#[I Q (N:Int),I O st,J,J,.pointer (V ⟨w.heap.size,0,Z⟩),vs 9,.pointer (V ⟨zb,0,Z⟩),I Q 0,I Q 0,I Q (N:Int),.bool (decide ((N:Int)<1)),.bool (decide ((N:Int)<1)),I Q (N:Int),.bool (decide (64<(N:Int))),.bool (decide ((N:Int)<1) || decide (64<(N:Int))),J,.tuple #[.agg #[T aL c.l.length cL,I Q c.lo,I Q c.un],I Q 0,I Q 0],.tuple #[.agg #[T aL c.l.length cL,I Q c.lo,I Q c.un],I Q 0,I Q 0],.agg #[T aL c.l.length cL,I Q c.lo,I Q c.un],I Q 0,I Q 0,vs 0,vs 1,vs 2,vs 3,vs 4,vs 5,vs 6,vs 7],defers:=[] }) (lh [(1,BV),(4,BU st),(6,BT N),(7,Bh aL c.l.length cL c.lo c.un st N)] [.agg #[T aL c.l.length cL,I Q c.lo,I Q c.un],J,I O st,I O st,J,I Q (N:Int),J,J,J,I Q 0]) ?ghm ?ghr ?ghc ?ghnd ?ghlit ?gh0 ?ghW ?ghF ?ghS ?gops ?gdone
 case ghm=>kernel_rfl
 case ghr=>kernel_rfl
 case ghc=>kernel_rfl
 case ghnd=>decide
 case ghlit=>intro vs;rfl
 case gh0=>exact U _ _
 case ghW=>exact fun kk W W2 h hb=>match kk,h with
  | 0,h=>h.trans (hb.mono h.size)
  | _+1,⟨v,h1,⟨cs,h2,h3⟩,h4,h5⟩=>⟨v,h1.below hb,⟨cs,h2,(hb.block _ (Bk.lt h3)).trans h3⟩,h4.trans (hb.mono h4.size),dJ h5 hb⟩
 case ghF=>exact dz (by
  intro p0 hp
  simp only[List.mem_cons,List.not_mem_nil,or_false] at hp
  rcases hp with rfl|rfl|rfl|rfl
  ·exact fun v W W2 h hb=>BV.below h hb
  ·exact fun v W W2 h hb=>BU.below h hb
  ·exact fun v W W2 h hb=>BT.below h hb
  ·exact fun v W W2 h hb=>Bh.below h hb)
 case ghS=>exact fun kk W W2 _ hs i v h=>gL (R:=fun W W2=>ab W W2 (fun i=>i=w.heap.size)/\∃ cs,Bk W w.heap.size 29 cs) (ps:=[(1,BV),(4,BU st),(6,BT N),(7,Bh aL c.l.length cL c.lo c.un st N)]) (l:=[.agg #[T aL c.l.length cL,I Q c.lo,I Q c.un],J,I O st,I O st,J,I Q (N:Int),J,J,J,I Q 0]) (by
  intro p0 hp
  simp only[List.mem_cons,List.not_mem_nil,or_false] at hp
  rcases hp with rfl|rfl|rfl|rfl
  ·rintro v W W2 h ⟨hw,cs,hb⟩;exact BV.within h hw (by rintro b rfl;exact⟨_,_,hb,by decide,by decide⟩)
  ·rintro v W W2 h ⟨hw,cs,hb⟩;exact BU.within h hw (by rintro b rfl;exact⟨_,_,hb,by decide,by decide⟩)
  ·rintro v W W2 h ⟨hw,cs,hb⟩;exact BT.within h hw (by rintro b rfl;exact⟨_,_,hb,by decide,by decide⟩)
  ·rintro v W W2 h ⟨hw,cs,hb⟩;exact Bh.within h hw (by rintro b rfl;exact⟨_,_,hb,by decide,by decide⟩)) i v W W2 h hs
 case gops=>
  refine⟨?_,?_,?_,?_,?_,?_,?_,?_,?_,?_,trivial⟩
  ·intro vs W kk h1 h2 hW hd
   obtain rfl:kk=0:=Nat.le_zero.1 h2
   refine aa rfl ?_
   have hq:=(HQ.out W hW).1
   obtain⟨y0,y1,y2⟩:=hq.kX
   clear hq hd
   go_simp
   exact⟨rfl,U _ _⟩
  ·intro vs W kk h1 h2 hW hd
   obtain rfl:kk=0:=Nat.le_zero.1 h2
   refine aa rfl ?_
   clear hd
   go_simp
   exact⟨⟨_,rfl,Bk.made W _ _⟩,(U _ _).alloc (K _) _⟩
  ·intro vs W kk h1 h2 hW hd
   obtain rfl:kk=0:=Nat.le_zero.1 h2
   refine aa rfl ?_
   clear hd
   go_simp
   exact⟨rfl,U _ _⟩
  ·intro vs W kk h1 h2 hW hd
   obtain rfl:kk=0:=Nat.le_zero.1 h2
   refine aa rfl ?_
   clear hd
   go_simp
   exact⟨rfl,U _ _⟩
  ·intro vs W kk h1 h2 hW hd
   obtain rfl:kk=0:=Nat.le_zero.1 h2
   refine aa rfl ?_
   have e2:vs 2=I O st:=hd 2 (by decide)
   have e3:vs 3=I O st:=hd 3 (by decide)
   clear hd
   go_simp
   exact⟨⟨_,rfl,Bk.made W _ _⟩,(U _ _).alloc (K _) _⟩
  ·intro vs W kk h1 h2 hW hd
   obtain rfl:kk=0:=Nat.le_zero.1 h2
   refine aa rfl ?_
   clear hd
   go_simp
   exact⟨rfl,U _ _⟩
  ·intro vs W kk h1 h2 hW hd
   obtain rfl:kk=0:=Nat.le_zero.1 h2
   refine aa rfl ?_
   have e5:vs 5=I Q (N:Int):=hd 5 (by decide)
   have hmk:=ol N (by omega) W
   clear hd
   go_simp
   try simp only[hmk]
   exact⟨⟨_,rfl,Bk.made W _ _⟩,(U _ _).alloc (K _) _⟩
  ·intro vs W kk h1 h2 hW hd
   obtain rfl:kk=0:=Nat.le_zero.1 h2
   refine aa rfl ?_
   have e0:vs 0=.agg #[T aL c.l.length cL,I Q c.lo,I Q c.un]:=hd 0 (by decide)
   obtain⟨d1,e1,k1⟩:BV (vs 1) W:=hd 1 (by decide)
   obtain⟨d4,e4,k4⟩:BU st (vs 4) W:=hd 4 (by decide)
   obtain⟨d6,e6,k6⟩:BT N (vs 6) W:=hd 6 (by decide)
   clear hd
   go_simp
   exact⟨⟨d1,d4,d6,rfl,k1,k4,k6⟩,U _ _⟩
  ·intro vs W hW hd
   have hsp:Bh aL c.l.length cL c.lo c.un st N (vs 7) W:=hd 7 (by decide)
   obtain⟨d1,d4,d6,e7,k1,k4,k6⟩:=id hsp
   obtain⟨-,hq,hbw,hown⟩:=HQ.out W hW
   obtain⟨y0,y1,y2,y3,y4,y5,y6⟩:=hq.Bg
   have zf:=Bk.free hq
   have hw7:=kJ (y:=W) (g:=w.heap.size) (T aL c.l.length cL) (I Q c.lo) (I Q c.un) (T (V ⟨d1,0,Z⟩) 2 2) (T (V ⟨d4,0,Z⟩) 2 2) (I Q 0) (T (V ⟨d6,0,Z⟩) N N)
   have hk7:=lM hq (T aL c.l.length cL) (I Q c.lo) (I Q c.un) (T (V ⟨d1,0,Z⟩) 2 2) (T (V ⟨d4,0,Z⟩) 2 2) (I Q 0) (T (V ⟨d6,0,Z⟩) N N)
   have hb7:=gS hbw (K _) (T aL c.l.length cL) (I Q c.lo) (I Q c.un) (T (V ⟨d1,0,Z⟩) 2 2) (T (V ⟨d4,0,Z⟩) 2 2) (I Q 0) (T (V ⟨d6,0,Z⟩) N N)
   rw[e7] at hsp
   have hs7:=Bh.within hsp hw7 (by rintro b rfl;exact⟨_,_,hq,by decide,by decide⟩)
   have ho7:=mY hown hw7 hq (by decide)
   have HKK:=Lib.hid (And.intro hs7 (And.intro hk7 (And.intro hb7 (And.intro ho7 (And.intro hw7 hq)))))
   refine aO rfl ?_
   clear hd hsp hs7 hk7 hb7 ho7 hw7 hq hbw hown k1 k4 k6
   go_simp
   exact⟨rfl,⟨_,HKK.out.1,⟨_,rfl,HKK.out.2.1⟩,HKK.out.2.2.1,HKK.out.2.2.2.1⟩,HKK.out.2.2.2.2.1,_,HKK.out.2.2.2.2.2⟩
  ·intro vs W kk h1 h2 hW hd
   refine aa rfl ?_
   clear hd
   go_simp
   exact⟨rfl,U _ _⟩
 case gdone=>
  intro vs W hW hf
  have f0:vs 0=.agg #[T aL c.l.length cL,I Q c.lo,I Q c.un]:=hf 0 (by decide)
  have f2:vs 2=I O st:=hf 2 (by decide)
  have f3:vs 3=I O st:=hf 3 (by decide)
  have f5:vs 5=I Q (N:Int):=hf 5 (by decide)
  have f9:vs 9=I Q 0:=hf 9 (by decide)
  simp only[f0,f2,f3,f5,f9]
  clear f0 f2 f3 f5 f9
  obtain⟨v,⟨d1,d4,d6,rfl,k1,k4,k6⟩,⟨cs,hcs,hq⟩,hbw,hown⟩:∃ v,Bh aL c.l.length cL c.lo c.un st N v W/\(∃ cs,v=.agg cs/\Bk W w.heap.size 29 cs)/\Below w.heap.size w W/\W.ownsRow y.heap.size 119 8 (T aL c.l.length cL) c.l.length (bH c.l):=hW
  injection hcs with hcs
  subst hcs
  generalize vs 1=r1 at *
  generalize vs 4=r4 at *
  generalize vs 6=r6 at *
  generalize vs 7=r7 at *
  clear hf HQ
  obtain⟨y0,y1,y2,y3,y4,y5,y6⟩:=hq.Bg
  have hpv:=yS hown
  go_wp
  exact bodyPost_ret (v:=.tuple #[.agg #[T aL c.l.length cL,I Q c.lo,I Q c.un,T (V ⟨d1,0,Z⟩) 2 2,T (V ⟨d4,0,Z⟩) 2 2,I Q 0,T (V ⟨d6,0,Z⟩) N N],I Q 0]) (by simp[results,Tryz.results8,go_sem,y0,y1,y2,y3,y4,y5,y6]) rfl ⟨_,rfl,⟨aL,cL,_,2,_,2,_,N,by rw[show (yN N).length=N from List.length_replicate];rfl,hpv,iF k1,iF k4,kN k6,by simp[maxLen],by simp[maxLen],by rw[show (yN N).length=N from List.length_replicate];unfold maxLen;omega⟩,hbw⟩
