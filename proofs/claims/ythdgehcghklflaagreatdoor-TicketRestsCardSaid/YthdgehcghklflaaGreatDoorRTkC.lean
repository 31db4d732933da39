import Derived.Test.YthdgehcghklflaaGreatDoorRRefP
import Derived.Test.YthdgehcghklflaaGreatDoorRPrgM
set_option linter.unusedVariables false
namespace Go.Proofs.YthdgehcghklflaaGreatDoor
set_option maxRecDepth 100000
open Go.ChangeShapes Go.WideShapes Go.ChangeAt Go.RowKit
theorem word32Info:(Tryz.prog.info? 22).map (fun i=>(i.zero,i.size,i.bytes))=some (some (.int .u32 0),1,4):=by kernel_rfl
theorem makeWords (N:Nat)(hN:N≤40000)(W:World):(Instr.makeSlice 27 (.int .i64 N) (.int .i64 N)).run Tryz.prog W=.ok (.slice (some ⟨W.heap.size,0,none⟩) N N) (W.alloc (.cells (madeCells #[.int .u32 0] N) 22)):=by
 obtain⟨i0,hi0,hz0,hz1,hz2⟩:=info_parts word32Info
 have h:=run_make (P:=Tryz.prog) W 27 22 i0 _ Tryz.underlying27 hi0 hz0 .i64 .i64 N N (by omega) (by omega) (by rw[hz2];omega) (by omega)
 rw[hz1] at h
 simpa [Value.cells] using h
def AsmC (w:World)(e:Ending)(w':World):Prop:=∃ v,e=.returned (.tuple #[v,.int .i64 0,.int .i64 0])∧Pg w' w.heap.size v tkP∧Below w.heap.size w w'
def SpN (aL:Option Addr)(n cL:Nat)(lo un st:Int)(N:Nat)(v:Value)(W:World):Prop:=
 ∃ b1 b2 b3,v=.agg #[.slice aL n cL,.int .i64 lo,.int .i64 un,.slice (some ⟨b1,0,none⟩) 2 2,.slice (some ⟨b2,0,none⟩) 2 2,.int .i64 0,.slice (some ⟨b3,0,none⟩) N N]∧Bk W b1 3 #[.int .i64 1,.int .i64 1]∧Bk W b2 22 #[.int .u32 st,.int .u32 st]∧Bk W b3 22 (madeCells #[.int .u32 0] N)
def Sl1 (v:Value)(W:World):Prop:=∃ b,v=.slice (some ⟨b,0,none⟩) 2 2∧Bk W b 3 #[.int .i64 1,.int .i64 1]
def Sl2 (st:Int)(v:Value)(W:World):Prop:=∃ b,v=.slice (some ⟨b,0,none⟩) 2 2∧Bk W b 22 #[.int .u32 st,.int .u32 st]
def Sl3 (N:Nat)(v:Value)(W:World):Prop:=∃ b,v=.slice (some ⟨b,0,none⟩) N N∧Bk W b 22 (madeCells #[.int .u32 0] N)
section
variable {aL:Option Addr}{n cL N:Nat}{lo un st:Int}{v:Value}{W W':World}
theorem SpN.within {S:Nat→Prop}(h:SpN aL n cL lo un st N v W)(hw:Within W W' S)(hS:∀ b,S b→∃ t cs,Bk W b t cs∧t≠3∧t≠22):SpN aL n cL lo un st N v W':=by
 obtain⟨b1,b2,b3,e,h1,h2,h3⟩:=h
 refine⟨b1,b2,b3,e,h1.within hw fun hs=>?_,h2.within hw fun hs=>?_,h3.within hw fun hs=>?_⟩
 ·obtain⟨t,cs,hb,ht,_⟩:=hS _ hs;exact Bk.unlike h1 hb (fun e=>ht e.symm) rfl
 ·obtain⟨t,cs,hb,_,ht⟩:=hS _ hs;exact Bk.unlike h2 hb (fun e=>ht e.symm) rfl
 ·obtain⟨t,cs,hb,_,ht⟩:=hS _ hs;exact Bk.unlike h3 hb (fun e=>ht e.symm) rfl
theorem SpN.below (h:SpN aL n cL lo un st N v W)(hb:Below W.heap.size W W'):SpN aL n cL lo un st N v W':=h.within (within_of_below hb) (by simp)
theorem Sl1.below (h:Sl1 v W)(hb:Below W.heap.size W W'):Sl1 v W':=by obtain⟨b,e,h1⟩:=h;exact⟨b,e,(hb.block _ h1.lt).trans h1⟩
theorem Sl2.below (h:Sl2 st v W)(hb:Below W.heap.size W W'):Sl2 st v W':=by obtain⟨b,e,h1⟩:=h;exact⟨b,e,(hb.block _ h1.lt).trans h1⟩
theorem Sl3.below (h:Sl3 N v W)(hb:Below W.heap.size W W'):Sl3 N v W':=by obtain⟨b,e,h1⟩:=h;exact⟨b,e,(hb.block _ h1.lt).trans h1⟩
theorem Sl1.within {S:Nat→Prop}(h:Sl1 v W)(hw:Within W W' S)(hS:∀ b,S b→∃ t cs,Bk W b t cs∧t≠3∧t≠22):Sl1 v W':=by
 obtain⟨b,e,h1⟩:=h;exact⟨b,e,h1.within hw fun hs=>by obtain⟨t,cs,hb,ht,_⟩:=hS _ hs;exact Bk.unlike h1 hb (fun e=>ht e.symm) rfl⟩
theorem Sl2.within {S:Nat→Prop}(h:Sl2 st v W)(hw:Within W W' S)(hS:∀ b,S b→∃ t cs,Bk W b t cs∧t≠3∧t≠22):Sl2 st v W':=by
 obtain⟨b,e,h1⟩:=h;exact⟨b,e,h1.within hw fun hs=>by obtain⟨t,cs,hb,_,ht⟩:=hS _ hs;exact Bk.unlike h1 hb (fun e=>ht e.symm) rfl⟩
theorem Sl3.within {S:Nat→Prop}(h:Sl3 N v W)(hw:Within W W' S)(hS:∀ b,S b→∃ t cs,Bk W b t cs∧t≠3∧t≠22):Sl3 N v W':=by
 obtain⟨b,e,h1⟩:=h;exact⟨b,e,h1.within hw fun hs=>by obtain⟨t,cs,hb,_,ht⟩:=hS _ hs;exact Bk.unlike h1 hb (fun e=>ht e.symm) rfl⟩
theorem given_two {k:IntKind}{t:TypeId}{b:Nat}{x:Int}(h:Bk W b t #[.int k x,.int k x]):Given k W (some ⟨b,0,none⟩) [x,x]:=fun _=>⟨b,0,rfl,h.lt,fun i hi=>by
 have:i=0∨i=1:=by simp at hi;omega
 rcases this with rfl | rfl
 ·exact h.cell 0
 ·exact h.cell 1⟩
theorem given_zeros {t:TypeId}{b:Nat}(h:Bk W b t (madeCells #[.int .u32 0] N)):Given .u32 W (some ⟨b,0,none⟩) (tkR N):=fun _=>⟨b,0,rfl,h.lt,fun i hi=>by
 have hi2:i < N:=by simpa [tkR] using hi
 rw[Nat.zero_add,h.cell]
 have e:nth (tkR N) i=0:=by
  unfold nth tkR
  rw[List.getD_eq_getElem?_getD,List.getElem?_replicate]
  split <;> rfl
 rw[e]
 unfold madeCells
 simp[hi2,Nat.mod_one]⟩
end
set_option maxHeartbeats 4000000 in
theorem cSpecW (N:Nat)(st:Int)(w:World)(h1:1≤N)(h64:N≤64)(h0:0≤st)(h2:st < 4294967296)(HA:∀ W,Below w.heap.size w W→Calls Tryz.prog 27 #[bs tkText] W (AsmC W)):
 Calls Tryz.prog 8 #[.int .i64 N,.int .u32 st] w fun e w'=>∃ v,e=.returned (.tuple #[v,.int .i64 0])∧Sv w' v tkP [1,1] [st,st] (tkR N) 0∧Below w.heap.size w w':=by
 have HAA:=Lib.hid HA
 unfold bs tkText at HAA
 unfold AsmC at HAA
 generalize tkP=c at *
 have hb1:Below w.heap.size w (w.alloc (.cells #[.slice none 0 0,.int .i64 0,.int .i64 0,.slice none 0 0,.slice none 0 0,.int .i64 0,.slice none 0 0] 29)):=(Below.refl _ _).alloc (Nat.le_refl _) _
 have q0:=Bk.made w 29 #[.slice none 0 0,.int .i64 0,.int .i64 0,.slice none 0 0,.slice none 0 0,.int .i64 0,.slice none 0 0]
 clear HA
 go_enter Tryz.func8,Tryz.ntmps8
 go_upto_region 3 with fail
 generalize w.alloc (.cells #[.slice none 0 0,.int .i64 0,.int .i64 0,.slice none 0 0,.slice none 0 0,.int .i64 0,.slice none 0 0] 29)=y at *
 go_upto_region 4 with (refine(HAA.out y hb1).mono ?_;rintro e z ⟨v,rfl,⟨sl,rfl,hO⟩,hz⟩;obtain⟨aL,cL,rfl,hcl⟩:=own_is hO)
 have q1:=(hz.block _ (Bk.lt q0)).trans q0
 have b1:=hb1.trans (hz.mono hb1.size)
 have q2:=Bk.made z 25 #[.slice aL c.l.length cL,.int .i64 c.lo,.int .i64 c.un]
 have hza:Below z.heap.size z (z.alloc (.cells #[.slice aL c.l.length cL,.int .i64 c.lo,.int .i64 c.un] 25)):=(Below.refl _ _).alloc (Nat.le_refl _) _
 replace q1:Bk _ w.heap.size 29 #[.slice none 0 0,.int .i64 0,.int .i64 0,.slice none 0 0,.slice none 0 0,.int .i64 0,.slice none 0 0]:=(hza.block _ (Bk.lt q1)).trans q1
 replace b1:=b1.trans (hza.mono b1.size)
 have hO2:=own_below hO hza
 obtain⟨zb,hzb⟩:∃ zb,z.heap.size=zb:=⟨_,rfl⟩
 rw[hzb] at q2
 rw[hzb]
 generalize z.alloc (.cells #[.slice aL c.l.length cL,.int .i64 c.lo,.int .i64 c.un] 25)=x at *
 have HQ:Hid (∀ W,Below x.heap.size x W→Bk W zb 25 #[.slice aL c.l.length cL,.int .i64 c.lo,.int .i64 c.un]∧Bk W w.heap.size 29 #[.slice none 0 0,.int .i64 0,.int .i64 0,.slice none 0 0,.slice none 0 0,.int .i64 0,.slice none 0 0]∧Below w.heap.size w W∧W.ownsRow y.heap.size 119 8 (.slice aL c.l.length cL) c.l.length (progC c.l)):=Lib.hid fun W hW=>⟨(hW.block _ (Bk.lt q2)).trans q2,(hW.block _ (Bk.lt q1)).trans q1,b1.trans (hW.mono b1.size),own_below hO2 hW⟩
 have HC:=Lib.hid hcl
 clear hO hO2 hza hz hb1 q0 q1 q2 b1 hzb HAA hcl
 refine wp_region_flow [8] (fun j W=>match j with | 0=>Below x.heap.size x W | _=>∃ v,SpN aL c.l.length cL c.lo c.un st N v W∧(∃ cs,v=.agg cs∧Bk W w.heap.size 29 cs)∧Below w.heap.size w W∧W.ownsRow y.heap.size 119 8 (.slice aL c.l.length cL) c.l.length (progC c.l)) (fun _ W W2=>Within W W2 (fun i=>i=w.heap.size)∧∃ cs,Bk W w.heap.size 29 cs) (fun vs=>{ tmps:=#[.int .i64 (N:Int),.int .u32 st,undef,undef,.pointer (some ⟨w.heap.size,0,none⟩),vs 9,.pointer (some ⟨zb,0,none⟩),.int .i64 0,.int .i64 0,.int .i64 (N:Int),.bool (decide ((N:Int) < 1)),.bool (decide ((N:Int) < 1)),.int .i64 (N:Int),.bool (decide (64 < (N:Int))),.bool (decide ((N:Int) < 1) || decide (64 < (N:Int))),undef,.tuple #[.agg #[.slice aL c.l.length cL,.int .i64 c.lo,.int .i64 c.un],.int .i64 0,.int .i64 0],.tuple #[.agg #[.slice aL c.l.length cL,.int .i64 c.lo,.int .i64 c.un],.int .i64 0,.int .i64 0],.agg #[.slice aL c.l.length cL,.int .i64 c.lo,.int .i64 c.un],.int .i64 0,.int .i64 0,vs 0,vs 1,vs 2,vs 3,vs 4,vs 5,vs 6,vs 7],defers:=[] }) (mixT [(1,Sl1),(4,Sl2 st),(6,Sl3 N),(7,SpN aL c.l.length cL c.lo c.un st N)] [.agg #[.slice aL c.l.length cL,.int .i64 c.lo,.int .i64 c.un],undef,.int .u32 st,.int .u32 st,undef,.int .i64 (N:Int),undef,undef,undef,.int .i64 0]) ?ghm ?ghr ?ghc ?ghnd ?ghlit ?gh0 ?ghW ?ghF ?ghS ?gops ?gdone
 case ghm=>kernel_rfl
 case ghr=>kernel_rfl
 case ghc=>kernel_rfl
 case ghnd=>decide
 case ghlit=>intro vs;rfl
 case gh0=>exact Below.refl _ _
 case ghW=>exact fun kk W W2 h hb=>match kk,h with
  | 0,h=>h.trans (hb.mono h.size)
  | _+1,⟨v,h1,⟨cs,h2,h3⟩,h4,h5⟩=>⟨v,h1.below hb,⟨cs,h2,(hb.block _ (Bk.lt h3)).trans h3⟩,h4.trans (hb.mono h4.size),own_below h5 hb⟩
 case ghF=>exact mixT_stable (by
  intro p0 hp
  simp only[List.mem_cons,List.not_mem_nil,or_false] at hp
  rcases hp with rfl | rfl | rfl | rfl
  ·exact fun v W W2 h hb=>Sl1.below h hb
  ·exact fun v W W2 h hb=>Sl2.below h hb
  ·exact fun v W W2 h hb=>Sl3.below h hb
  ·exact fun v W W2 h hb=>SpN.below h hb)
 case ghS=>exact fun kk W W2 _ hs i v h=>mixT_keep (R:=fun W W2=>Within W W2 (fun i=>i=w.heap.size)∧∃ cs,Bk W w.heap.size 29 cs) (ps:=[(1,Sl1),(4,Sl2 st),(6,Sl3 N),(7,SpN aL c.l.length cL c.lo c.un st N)]) (l:=[.agg #[.slice aL c.l.length cL,.int .i64 c.lo,.int .i64 c.un],undef,.int .u32 st,.int .u32 st,undef,.int .i64 (N:Int),undef,undef,undef,.int .i64 0]) (by
  intro p0 hp
  simp only[List.mem_cons,List.not_mem_nil,or_false] at hp
  rcases hp with rfl | rfl | rfl | rfl
  ·rintro v W W2 h ⟨hw,cs,hb⟩;exact Sl1.within h hw (by rintro b rfl;exact⟨_,_,hb,by decide,by decide⟩)
  ·rintro v W W2 h ⟨hw,cs,hb⟩;exact Sl2.within h hw (by rintro b rfl;exact⟨_,_,hb,by decide,by decide⟩)
  ·rintro v W W2 h ⟨hw,cs,hb⟩;exact Sl3.within h hw (by rintro b rfl;exact⟨_,_,hb,by decide,by decide⟩)
  ·rintro v W W2 h ⟨hw,cs,hb⟩;exact SpN.within h hw (by rintro b rfl;exact⟨_,_,hb,by decide,by decide⟩)) i v W W2 h hs
 case gops=>
  refine⟨?_,?_,?_,?_,?_,?_,?_,?_,?_,?_,trivial⟩
  ·intro vs W kk h1 h2 hW hd
   obtain rfl:kk=0:=Nat.le_zero.1 h2
   refine leaves_free rfl ?_
   have hq:=(HQ.out W hW).1
   obtain⟨y0,y1,y2⟩:W.cell? ⟨zb,0,none⟩=some (.slice aL c.l.length cL)∧W.cell? ⟨zb,1,none⟩=some (.int .i64 c.lo)∧W.cell? ⟨zb,2,none⟩=some (.int .i64 c.un):=⟨hq.cell 0,hq.cell 1,hq.cell 2⟩
   clear hq hd
   go_simp
   exact⟨rfl,Below.refl _ _⟩
  ·intro vs W kk h1 h2 hW hd
   obtain rfl:kk=0:=Nat.le_zero.1 h2
   refine leaves_free rfl ?_
   clear hd
   go_simp
   exact⟨⟨_,rfl,Bk.made W _ _⟩,(Below.refl _ _).alloc (Nat.le_refl _) _⟩
  ·intro vs W kk h1 h2 hW hd
   obtain rfl:kk=0:=Nat.le_zero.1 h2
   refine leaves_free rfl ?_
   clear hd
   go_simp
   exact⟨rfl,Below.refl _ _⟩
  ·intro vs W kk h1 h2 hW hd
   obtain rfl:kk=0:=Nat.le_zero.1 h2
   refine leaves_free rfl ?_
   clear hd
   go_simp
   exact⟨rfl,Below.refl _ _⟩
  ·intro vs W kk h1 h2 hW hd
   obtain rfl:kk=0:=Nat.le_zero.1 h2
   refine leaves_free rfl ?_
   have e2:vs 2=.int .u32 st:=hd 2 (by decide)
   have e3:vs 3=.int .u32 st:=hd 3 (by decide)
   clear hd
   go_simp
   exact⟨⟨_,rfl,Bk.made W _ _⟩,(Below.refl _ _).alloc (Nat.le_refl _) _⟩
  ·intro vs W kk h1 h2 hW hd
   obtain rfl:kk=0:=Nat.le_zero.1 h2
   refine leaves_free rfl ?_
   clear hd
   go_simp
   exact⟨rfl,Below.refl _ _⟩
  ·intro vs W kk h1 h2 hW hd
   obtain rfl:kk=0:=Nat.le_zero.1 h2
   refine leaves_free rfl ?_
   have e5:vs 5=.int .i64 (N:Int):=hd 5 (by decide)
   have hmk:=makeWords N (by omega) W
   clear hd
   go_simp
   try simp only[hmk]
   exact⟨⟨_,rfl,Bk.made W _ _⟩,(Below.refl _ _).alloc (Nat.le_refl _) _⟩
  ·intro vs W kk h1 h2 hW hd
   obtain rfl:kk=0:=Nat.le_zero.1 h2
   refine leaves_free rfl ?_
   have e0:vs 0=.agg #[.slice aL c.l.length cL,.int .i64 c.lo,.int .i64 c.un]:=hd 0 (by decide)
   obtain⟨d1,e1,k1⟩:Sl1 (vs 1) W:=hd 1 (by decide)
   obtain⟨d4,e4,k4⟩:Sl2 st (vs 4) W:=hd 4 (by decide)
   obtain⟨d6,e6,k6⟩:Sl3 N (vs 6) W:=hd 6 (by decide)
   clear hd
   go_simp
   exact⟨⟨d1,d4,d6,rfl,k1,k4,k6⟩,Below.refl _ _⟩
  ·intro vs W hW hd
   have hsp:SpN aL c.l.length cL c.lo c.un st N (vs 7) W:=hd 7 (by decide)
   obtain⟨d1,d4,d6,e7,k1,k4,k6⟩:=id hsp
   obtain⟨-,hq,hbw,hown⟩:=HQ.out W hW
   obtain⟨y0,y1,y2,y3,y4,y5,y6⟩:W.cell? ⟨w.heap.size,0,none⟩=some (.slice none 0 0)∧W.cell? ⟨w.heap.size,1,none⟩=some (.int .i64 0)∧W.cell? ⟨w.heap.size,2,none⟩=some (.int .i64 0)∧W.cell? ⟨w.heap.size,3,none⟩=some (.slice none 0 0)∧W.cell? ⟨w.heap.size,4,none⟩=some (.slice none 0 0)∧W.cell? ⟨w.heap.size,5,none⟩=some (.int .i64 0)∧W.cell? ⟨w.heap.size,6,none⟩=some (.slice none 0 0):=⟨hq.cell 0,hq.cell 1,hq.cell 2,hq.cell 3,hq.cell 4,hq.cell 5,hq.cell 6⟩
   have zf:=Bk.free hq
   have hw7:=put7_within (y:=W) (g:=w.heap.size) (.slice aL c.l.length cL) (.int .i64 c.lo) (.int .i64 c.un) (.slice (some ⟨d1,0,none⟩) 2 2) (.slice (some ⟨d4,0,none⟩) 2 2) (.int .i64 0) (.slice (some ⟨d6,0,none⟩) N N)
   have hk7:=put7_bk hq (.slice aL c.l.length cL) (.int .i64 c.lo) (.int .i64 c.un) (.slice (some ⟨d1,0,none⟩) 2 2) (.slice (some ⟨d4,0,none⟩) 2 2) (.int .i64 0) (.slice (some ⟨d6,0,none⟩) N N)
   have hb7:=put7_below hbw (Nat.le_refl _) (.slice aL c.l.length cL) (.int .i64 c.lo) (.int .i64 c.un) (.slice (some ⟨d1,0,none⟩) 2 2) (.slice (some ⟨d4,0,none⟩) 2 2) (.int .i64 0) (.slice (some ⟨d6,0,none⟩) N N)
   rw[e7] at hsp
   have hs7:=SpN.within hsp hw7 (by rintro b rfl;exact⟨_,_,hq,by decide,by decide⟩)
   have ho7:=own_safe hown hw7 hq (by decide)
   have HKK:=Lib.hid (And.intro hs7 (And.intro hk7 (And.intro hb7 (And.intro ho7 (And.intro hw7 hq)))))
   refine leavesIf_free rfl ?_
   clear hd hsp hs7 hk7 hb7 ho7 hw7 hq hbw hown k1 k4 k6
   go_simp
   exact⟨rfl,⟨_,HKK.out.1,⟨_,rfl,HKK.out.2.1⟩,HKK.out.2.2.1,HKK.out.2.2.2.1⟩,HKK.out.2.2.2.2.1,_,HKK.out.2.2.2.2.2⟩
  ·intro vs W kk h1 h2 hW hd
   refine leaves_free rfl ?_
   clear hd
   go_simp
   exact⟨rfl,Below.refl _ _⟩
 case gdone=>
  intro vs W hW hf
  have f0:vs 0=.agg #[.slice aL c.l.length cL,.int .i64 c.lo,.int .i64 c.un]:=hf 0 (by decide)
  have f2:vs 2=.int .u32 st:=hf 2 (by decide)
  have f3:vs 3=.int .u32 st:=hf 3 (by decide)
  have f5:vs 5=.int .i64 (N:Int):=hf 5 (by decide)
  have f9:vs 9=.int .i64 0:=hf 9 (by decide)
  simp only[f0,f2,f3,f5,f9]
  clear f0 f2 f3 f5 f9
  obtain⟨v,⟨d1,d4,d6,rfl,k1,k4,k6⟩,⟨cs,hcs,hq⟩,hbw,hown⟩:∃ v,SpN aL c.l.length cL c.lo c.un st N v W∧(∃ cs,v=.agg cs∧Bk W w.heap.size 29 cs)∧Below w.heap.size w W∧W.ownsRow y.heap.size 119 8 (.slice aL c.l.length cL) c.l.length (progC c.l):=hW
  injection hcs with hcs
  subst hcs
  generalize vs 1=r1 at *
  generalize vs 4=r4 at *
  generalize vs 6=r6 at *
  generalize vs 7=r7 at *
  clear hf HQ
  obtain⟨y0,y1,y2,y3,y4,y5,y6⟩:W.cell? ⟨w.heap.size,0,none⟩=some (.slice aL c.l.length cL)∧W.cell? ⟨w.heap.size,1,none⟩=some (.int .i64 c.lo)∧W.cell? ⟨w.heap.size,2,none⟩=some (.int .i64 c.un)∧W.cell? ⟨w.heap.size,3,none⟩=some (.slice (some ⟨d1,0,none⟩) 2 2)∧W.cell? ⟨w.heap.size,4,none⟩=some (.slice (some ⟨d4,0,none⟩) 2 2)∧W.cell? ⟨w.heap.size,5,none⟩=some (.int .i64 0)∧W.cell? ⟨w.heap.size,6,none⟩=some (.slice (some ⟨d6,0,none⟩) N N):=⟨hq.cell 0,hq.cell 1,hq.cell 2,hq.cell 3,hq.cell 4,hq.cell 5,hq.cell 6⟩
  have hpv:=own_pv hown
  go_wp
  exact bodyPost_ret (v:=.tuple #[.agg #[.slice aL c.l.length cL,.int .i64 c.lo,.int .i64 c.un,.slice (some ⟨d1,0,none⟩) 2 2,.slice (some ⟨d4,0,none⟩) 2 2,.int .i64 0,.slice (some ⟨d6,0,none⟩) N N],.int .i64 0]) (by simp[results,Tryz.results8,go_sem,y0,y1,y2,y3,y4,y5,y6]) rfl ⟨_,rfl,⟨aL,cL,_,2,_,2,_,N,by rw[show (tkR N).length=N from List.length_replicate];rfl,hpv,given_two k1,given_two k4,given_zeros k6,by simp[maxLen],by simp[maxLen],by rw[show (tkR N).length=N from List.length_replicate];unfold maxLen;omega⟩,hbw⟩
end Go.Proofs.YthdgehcghklflaaGreatDoor
