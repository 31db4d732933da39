import Derived.Test.YthdgehcghklflaaGreatDoorPRuD
import Derived.Test.YthdgehcghklflaaGreatDoorPEyN
import Derived.Test.YthdgehcghklflaaGreatDoorPFlowK
import Derived.Test.YthdgehcghklflaaGreatDoorPWdA
import Derived.Test.YthdgehcghklflaaGreatDoorPFfS
import Derived.Test.YthdgehcghklflaaGreatDoorPPrgM
import Derived.Test.YthdgehcghklflaaGreatDoorPAsmM
set_option linter.unusedVariables false
namespace Go.Proofs.YthdgehcghklflaaGreatDoor
set_option maxRecDepth 100000
open Go.ChangeShapes Go.WideShapes Go.ChangeAt Go.RowKit
theorem makeInts (N:Nat)(hN:N≤40000)(W:World):(Instr.makeSlice 26 (.int .i64 N) (.int .i64 N)).run Tryz.prog W=.ok (.slice (some ⟨W.heap.size,0,none⟩) N N) (W.alloc (.cells (madeCells #[.int .i64 0] N) 3)):=by
 obtain⟨i0,hi0,hz0,hz1,hz2⟩:=info_parts intinfo
 have h:=run_make (P:=Tryz.prog) W 26 3 i0 _ Tryz.underlying26 hi0 hz0 .i64 .i64 N N (by omega) (by omega) (by rw[hz2];omega) (by omega)
 rw[hz1] at h
 simpa [Value.cells] using h
theorem actL_zero (n:Nat):actL (fun _=>0) n=List.replicate n 0:=by
 unfold actL
 exact List.ext_getElem (by rw[List.length_map,List.length_range,List.length_replicate]) (fun i h1 h2=>by rw[List.getElem_map,List.getElem_replicate])
section
variable {w:World}{k:Lk}
def NwO (base:Nat)(k:Lk)(init r7:List Int)(Y:YP)(W:World):Prop:=Ey W Y k (newM k init r7)∧∀ i,Y.Own k.n i→base≤i
def MkO (base n:Nat)(d:Nat)(W:World):Prop:=Its W d n (List.replicate n 0)∧base≤d
def BgO (base:Nat)(k:Lk)(init r7:List Int)(U:RP)(W:World):Prop:=Ru W U k (rn0 k init r7)∧∀ i,U.Own k.n i→base≤i
def PrO (base:Nat)(k:Lk)(init r7:List Int)(x y:Value)(W:World):Prop:=∃ (Y:YP) (d:Nat),x=.pointer (some ⟨Y.y,0,none⟩)∧y=.slice (some ⟨d,0,none⟩) k.n k.n∧NwO base k init r7 Y W∧MkO base k.n d W∧¬ Y.Own k.n d
theorem NwO.below {base:Nat}{k:Lk}{init r7:List Int}{Y:YP}{W W':World}(h:NwO base k init r7 Y W)(hb:Below W.heap.size W W'):NwO base k init r7 Y W':=⟨h.1.below hb,h.2⟩
theorem MkO.below {base n d:Nat}{W W':World}(h:MkO base n d W)(hb:Below W.heap.size W W'):MkO base n d W':=⟨h.1.within (within_of_below hb) (by simp),h.2⟩
theorem BgO.below {base:Nat}{k:Lk}{init r7:List Int}{U:RP}{W W':World}(h:BgO base k init r7 U W)(hb:Below W.heap.size W W'):BgO base k init r7 U W':=⟨h.1.below hb,h.2⟩
set_option maxHeartbeats 4000000 in
theorem rBegin {base:Nat}{v:Value}{init r7:List Int}(hb:base≤w.heap.size)(hk:OkLk k)(hv:Rv base w v ⟨k.l,k.lo,k.un⟩ k.zs init r7 k.each)(hi:init.length=tot k.zs)(hiu:U32s init)(hr:r7.length=k.n)(hru:U32s r7):
 Calls Tryz.prog 34 #[v,.int .i64 k.n] w fun e w'=>∃ U:RP,e=.returned (.pointer (some ⟨U.g,0,none⟩))∧BgO base k init r7 U w'∧Below w.heap.size w w':=by
 have HNw:Hid (∀ W,Below w.heap.size w W→Calls Tryz.prog 20 #[v,.int .i64 k.n] W (NewYQ W base k init r7)):=Lib.hid (fun W hW=>yNewQ (Nat.le_trans hb hW.size) hk (hv.below hW) hi hiu hr hru)
 have hn64:=hk.n64
 obtain⟨sl,aS,cS,aI,cI,aR,cR,rfl,ho,-⟩:=hv
 simp only at ho HNw ⊢
 obtain⟨aL,cL,rfl,_⟩:=own_is ho
 have hbz:Below w.heap.size w (w.alloc (.cells #[.slice aL k.l.length cL,.int .i64 k.lo,.int .i64 k.un,.slice aS k.zs.length cS,.slice aI init.length cI,.int .i64 (k.each:Int),.slice aR r7.length cR] 37)):=(Below.refl _ _).alloc (Nat.le_refl _) _
 have hB:=Bk.made w 37 #[.slice aL k.l.length cL,.int .i64 k.lo,.int .i64 k.un,.slice aS k.zs.length cS,.slice aI init.length cI,.int .i64 (k.each:Int),.slice aR r7.length cR]
 clear ho hk hi hiu hr hru
 go_enter Tryz.func34,Tryz.ntmps34
 go_upto_region 1 with fail
 refine wp_region_pair (fun W=>Below w.heap.size w W∧Bk W w.heap.size 37 #[.slice aL k.l.length cL,.int .i64 k.lo,.int .i64 k.un,.slice aS k.zs.length cS,.slice aI init.length cI,.int .i64 (k.each:Int),.slice aR r7.length cR]) (fun vs=>{ tmps:=#[.agg #[.slice aL k.l.length cL,.int .i64 k.lo,.int .i64 k.un,.slice aS k.zs.length cS,.slice aI init.length cI,.int .i64 (k.each:Int),.slice aR r7.length cR],.int .i64 (k.n:Int),.pointer (some ⟨w.heap.size,0,none⟩),undef,vs 7,vs 0,vs 1,vs 2,vs 3,vs 4,vs 5,vs 6],defers:=[] }) (mixT [(2,fun v W=>∃ Y:YP,v=.pointer (some ⟨Y.y,0,none⟩)∧NwO base k init r7 Y W),(4,fun v W=>∃ d,v=.slice (some ⟨d,0,none⟩) k.n k.n∧MkO base k.n d W),(5,fun v W=>∃ (Y:YP) (d:Nat),v=.agg #[.pointer (some ⟨Y.y,0,none⟩),.slice (some ⟨d,0,none⟩) k.n k.n,.slice none 0 0,.int .i64 0]∧NwO base k init r7 Y W∧MkO base k.n d W∧¬ Y.Own k.n d),(6,fun v W=>∃ U:RP,v=.pointer (some ⟨U.g,0,none⟩)∧BgO base k init r7 U W),(7,fun v W=>∃ U:RP,v=.pointer (some ⟨U.g,0,none⟩)∧BgO base k init r7 U W)] [.agg #[.slice aL k.l.length cL,.int .i64 k.lo,.int .i64 k.un,.slice aS k.zs.length cS,.slice aI init.length cI,.int .i64 (k.each:Int),.slice aR r7.length cR],.int .i64 (k.n:Int),undef,.int .i64 (k.n:Int),undef,undef,undef,undef]) 2 4 (PrO base k init r7) ?ghm ?ghr ?ghab ?ghal ?ghbl ?ghlit ?gh0 ?ghW ?ghF ?ghP ?gops ?gdone
 case ghm=>kernel_rfl
 case ghr=>kernel_rfl
 case ghab=>decide
 case ghal=>decide
 case ghbl=>decide
 case ghlit=>intro vs;rfl
 case gh0=>exact⟨hbz,hB⟩
 case ghW=>exact fun W W2 h hb=>⟨h.1.trans (hb.mono h.1.size),Bk.within h.2 (within_of_below hb) (by simp)⟩
 case ghF=>exact mixT_stable (by
  intro p0 hp
  simp only[List.mem_cons,List.not_mem_nil,or_false] at hp
  rcases hp with rfl | rfl | rfl | rfl | rfl
  ·exact fun v W W2 ⟨Y,h1,h2⟩ hb=>⟨Y,h1,h2.below hb⟩
  ·exact fun v W W2 ⟨d,h1,h2⟩ hb=>⟨d,h1,h2.below hb⟩
  ·exact fun v W W2 ⟨Y,d,h1,h2,h3,h4⟩ hb=>⟨Y,d,h1,h2.below hb,h3.below hb,h4⟩
  ·exact fun v W W2 ⟨U,h1,h2⟩ hb=>⟨U,h1,h2.below hb⟩
  ·exact fun v W W2 ⟨U,h1,h2⟩ hb=>⟨U,h1,h2.below hb⟩)
 case ghP=>exact fun x y W W2 ⟨Y,d,h1,h2,h3,h4,h5⟩ hb=>⟨Y,d,h1,h2,h3.below hb,h4.below hb,h5⟩
 case gops=>
  refine⟨?_,?_,?_,?_,?_,?_,?_,?_,trivial⟩
  ·intro vs W hW hd hp
   refine leaves_free rfl ?_
   have hq:=hW.2
   obtain⟨y0,y1,y2,y3,y4,y5,y6⟩:W.cell? ⟨w.heap.size,0,none⟩=some (.slice aL k.l.length cL)∧W.cell? ⟨w.heap.size,1,none⟩=some (.int .i64 k.lo)∧W.cell? ⟨w.heap.size,2,none⟩=some (.int .i64 k.un)∧W.cell? ⟨w.heap.size,3,none⟩=some (.slice aS k.zs.length cS)∧W.cell? ⟨w.heap.size,4,none⟩=some (.slice aI init.length cI)∧W.cell? ⟨w.heap.size,5,none⟩=some (.int .i64 (k.each:Int))∧W.cell? ⟨w.heap.size,6,none⟩=some (.slice aR r7.length cR):=⟨hq.cell 0,hq.cell 1,hq.cell 2,hq.cell 3,hq.cell 4,hq.cell 5,hq.cell 6⟩
   clear hq hd hp
   go_simp
   exact⟨⟨rfl,fun e=>absurd e (by decide),fun e=>absurd e (by decide)⟩,Below.refl _ _⟩
  ·intro vs W hW hd hp
   refine leaves_free rfl ?_
   clear hd hp
   go_simp
   exact⟨⟨rfl,fun e=>absurd e (by decide),fun e=>absurd e (by decide)⟩,Below.refl _ _⟩
  ·intro vs W hW hd hp
   refine leaves_free rfl ?_
   have e0:vs 0=.agg #[.slice aL k.l.length cL,.int .i64 k.lo,.int .i64 k.un,.slice aS k.zs.length cS,.slice aI init.length cI,.int .i64 (k.each:Int),.slice aR r7.length cR]:=hd 0 (by decide)
   have e1:vs 1=.int .i64 (k.n:Int):=hd 1 (by decide)
   have hc:=HNw.out W hW.1
   have hsz:=hW.1.size
   clear hd hp
   go_simp
   refine hc.mono ?_
   rintro e W2 ⟨Y,rfl,h2,h3,h4⟩
   refine⟨_,rfl,⟨⟨Y,rfl,h2,fun i hi=>(h4 i hi).1⟩,fun _ y hy=>?_,fun e=>absurd e (by decide)⟩,h3⟩
   obtain⟨d,rfl,hd4⟩:∃ d,y=.slice (some ⟨d,0,none⟩) k.n k.n∧MkO base k.n d W:=hy
   refine⟨Y,d,rfl,rfl,⟨h2,fun i hi=>(h4 i hi).1⟩,hd4.below h3,fun hi=>?_⟩
   rcases(h4 d hi).2 with e | e
   ·obtain⟨c,hc2⟩:=own_bk h2.code e
    obtain⟨c2,hc3,_⟩:=(hd4.below h3).1.bk
    exact Bk.unlike hc2 hc3 (by decide) rfl
   ·have:=hd4.1.lt;omega
  ·intro vs W hW hd hp
   refine leaves_free rfl ?_
   clear hd hp
   go_simp
   exact⟨⟨rfl,fun e=>absurd e (by decide),fun e=>absurd e (by decide)⟩,Below.refl _ _⟩
  ·intro vs W hW hd hp
   refine leaves_free rfl ?_
   have e3:vs 3=.int .i64 (k.n:Int):=hd 3 (by decide)
   have hmk:=makeInts k.n (by omega) W
   have hA:Below W.heap.size W (W.alloc (.cells (madeCells #[.int .i64 0] k.n) 3)):=(Below.refl _ _).alloc (Nat.le_refl _) _
   have hI:=Its.made W k.n (by simp only[maxLen];omega)
   have hsz:=hW.1.size
   clear hd hp
   go_simp
   try simp only[hmk]
   refine⟨⟨⟨W.heap.size,rfl,hI,Nat.le_trans hb hsz⟩,fun e=>absurd e (by decide),fun _ x hx=>?_⟩,hA⟩
   obtain⟨Y,rfl,hY⟩:∃ Y:YP,x=.pointer (some ⟨Y.y,0,none⟩)∧NwO base k init r7 Y W:=hx
   exact⟨Y,W.heap.size,rfl,rfl,hY.below hA,⟨hI,Nat.le_trans hb hsz⟩,fun hi=>by have:=hY.1.lt hi;omega⟩
  ·intro vs W hW hd hp
   refine leaves_free rfl ?_
   obtain⟨Y,d,e2,e4,h2,h4,h5⟩:=hp (by decide) (by decide)
   clear hd
   go_simp
   exact⟨⟨⟨Y,d,rfl,h2,h4,h5⟩,fun e=>absurd e (by decide),fun e=>absurd e (by decide)⟩,Below.refl _ _⟩
  ·intro vs W hW hd hp
   refine leaves_free rfl ?_
   obtain⟨Y,d,e5,h2,h4,h5⟩:=hd 5 (by decide)
   have hA:Below W.heap.size W (W.alloc (.cells #[.pointer (some ⟨Y.y,0,none⟩),.slice (some ⟨d,0,none⟩) k.n k.n,.slice none 0 0,.int .i64 0] 86)):=(Below.refl _ _).alloc (Nat.le_refl _) _
   have hM:=Bk.made W 86 #[.pointer (some ⟨Y.y,0,none⟩),.slice (some ⟨d,0,none⟩) k.n k.n,.slice none 0 0,.int .i64 0]
   have hsz:=hW.1.size
   clear hd hp
   go_simp
   refine⟨⟨⟨⟨W.heap.size,Y,d,.slice none 0 0⟩,rfl,⟨hM,?_,World.ownsRow_nil _ _ _ _,h2.1.below hA,h5⟩,fun i hi=>?_⟩,fun e=>absurd e (by decide),fun e=>absurd e (by decide)⟩,hA⟩
   ·show Its _ d k.n (actL (fun _=>0) k.n)
    rw[actL_zero]
    exact(h4.below hA).1
   ·rcases hi with e | e | e | e
    ·rw[e];exact Nat.le_trans hb hsz
    ·rw[e];exact h4.2
    ·cases e
    ·exact h2.2 i e
  ·intro vs W hW hd hp
   refine leaves_free rfl ?_
   obtain⟨U,e6,h6⟩:=hd 6 (by decide)
   clear hd hp
   go_simp
   exact⟨⟨⟨U,rfl,h6⟩,fun e=>absurd e (by decide),fun e=>absurd e (by decide)⟩,Below.refl _ _⟩
 case gdone=>
  intro vs W hW hf hp
  obtain⟨U,e7,h7⟩:=hf 7 (by decide)
  simp only[e7]
  have hbl:=hW.1
  clear hf hp hW
  go_wp2
  go_ret
  exact⟨U,rfl,h7,hbl⟩
end
structure OpC where
 kd:Int
 t:Int
 L:Int
def OpC.op (x:OpC):Opn3:=⟨x.kd,x.t,decide (x.L≠0)⟩
def OpsS (base:Nat)(w:World)(a:Option Addr)(l:List OpC):Prop:=
 0 < l.length→∃ b off,a=some ⟨b,off,none⟩∧b < base∧∀ i x,l[i]?=some x→w.cell? ⟨b,off+i * 3,none⟩=some (.int .i64 x.kd)∧w.cell? ⟨b,off+i * 3+1,none⟩=some (.int .i64 x.t)∧w.cell? ⟨b,off+i * 3+2,none⟩=some (.int .i64 x.L)
theorem OpsS.within {base:Nat}{w w':World}{a:Option Addr}{l:List OpC}{S:Nat→Prop}(h:OpsS base w a l)(hw:Within w w' S)(hb:base≤w.heap.size)(hs:∀ i,S i→base≤i):OpsS base w' a l:=by
 intro h0
 obtain⟨b,off,e,h1,h2⟩:=h h0
 have hk:∀ j,w'.cell? ⟨b,j,none⟩=w.cell? ⟨b,j,none⟩:=fun j=>by
  have:=hw.block b (Nat.lt_of_lt_of_le h1 hb) (fun e=>by have:=hs b e;omega)
  unfold World.cell?
  simp only[this]
 refine⟨b,off,e,h1,fun i x hx=>?_⟩
 obtain⟨c0,c1,c2⟩:=h2 i x hx
 exact⟨(hk _).trans c0,(hk _).trans c1,(hk _).trans c2⟩
theorem runR_snoc (k:Lk)(r:Rn)(l:List OpC)(j:Nat)(h:j < l.length):runR k r ((l.take (j+1)).map OpC.op)=opR k (runR k r ((l.take j).map OpC.op)) l[j].op:=by
 rw[List.take_succ_eq_append_getElem h,List.map_append]
 unfold runR
 rw[List.foldl_append]
 rfl
section
variable {w:World}{k:Lk}
set_option maxHeartbeats 4000000 in
theorem rTrace {base:Nat}{v:Value}{init r7:List Int}(ops:List OpC)(cap1:Nat)(ab:Option Addr)(hb:base≤w.heap.size)(hk:OkLk k)(hv:Rv base w v ⟨k.l,k.lo,k.un⟩ k.zs init r7 k.each)(hi:init.length=tot k.zs)(hiu:U32s init)(hr:r7.length=k.n)(hru:U32s r7)
 (ho:OpsS base w ab ops) (hlen:ops.length≤100000) (hs:StepOk k):
 Calls Tryz.prog 16 #[v,.int .i64 k.n,.slice ab ops.length cap1] w fun e w'=>e=.returned (.bool (decide ((runR k (rn0 k init r7) (ops.map OpC.op)).bad=false∧checkN k.n (runR k (rn0 k init r7) (ops.map OpC.op)).l=(runR k (rn0 k init r7) (ops.map OpC.op)).l.length)))∧Within w w' (fun i=>base≤i):=by
 have HBg:Hid (∀ W,Below w.heap.size w W→Calls Tryz.prog 34 #[v,.int .i64 k.n] W fun e w'=>∃ U:RP,e=.returned (.pointer (some ⟨U.g,0,none⟩))∧BgO base k init r7 U w'∧Below W.heap.size W w'):=Lib.hid (fun W hW=>rBegin (Nat.le_trans hb hW.size) hk (hv.below hW) hi hiu hr hru)
 have HRL:Hid (∀ j,j≤ops.length→(runR k (rn0 k init r7) ((ops.take j).map OpC.op)).l.length≤258 * 100000):=Lib.hid (fun j hj=>by
  have:=runR_len hk ((ops.take j).map OpC.op) (rn0 k init r7)
  have h0:(rn0 k init r7).l.length=0:=rfl
  rw[h0,List.length_map,List.length_take] at this
  have h2:min j ops.length≤100000:=by omega
  have h3:258 * min j ops.length≤258 * 100000:=Nat.mul_le_mul_left _ h2
  omega)
 have HSn:=Lib.hid (fun j h=>runR_snoc k (rn0 k init r7) ops j h)
 have HTk:Hid ((ops.take ops.length).map OpC.op=ops.map OpC.op):=Lib.hid (by rw[List.take_length])
 have hn64:=hk.n64
 obtain⟨sl,aS,cS,aI,cI,aR,cR,rfl,hsl,-⟩:=hv
 simp only at hsl HBg ⊢
 obtain⟨aL,cL,rfl,_⟩:=own_is hsl
 have HO:=Lib.hid ho
 have hbz:Below w.heap.size w (w.alloc (.cells #[.slice aL k.l.length cL,.int .i64 k.lo,.int .i64 k.un,.slice aS k.zs.length cS,.slice aI init.length cI,.int .i64 (k.each:Int),.slice aR r7.length cR] 37)):=(Below.refl _ _).alloc (Nat.le_refl _) _
 have hB:=Bk.made w 37 #[.slice aL k.l.length cL,.int .i64 k.lo,.int .i64 k.un,.slice aS k.zs.length cS,.slice aI init.length cI,.int .i64 (k.each:Int),.slice aR r7.length cR]
 clear hsl hk hi hiu hr hru ho
 generalize hrn:rn0 k init r7=rn at *
 go_enter Tryz.func16,Tryz.ntmps16
 go_upto_region 1 with fail
 generalize w.alloc (.cells #[.slice aL k.l.length cL,.int .i64 k.lo,.int .i64 k.un,.slice aS k.zs.length cS,.slice aI init.length cI,.int .i64 (k.each:Int),.slice aR r7.length cR] 37)=z at *
 obtain⟨y0,y1,y2,y3,y4,y5,y6⟩:z.cell? ⟨w.heap.size,0,none⟩=some (.slice aL k.l.length cL)∧z.cell? ⟨w.heap.size,1,none⟩=some (.int .i64 k.lo)∧z.cell? ⟨w.heap.size,2,none⟩=some (.int .i64 k.un)∧z.cell? ⟨w.heap.size,3,none⟩=some (.slice aS k.zs.length cS)∧z.cell? ⟨w.heap.size,4,none⟩=some (.slice aI init.length cI)∧z.cell? ⟨w.heap.size,5,none⟩=some (.int .i64 (k.each:Int))∧z.cell? ⟨w.heap.size,6,none⟩=some (.slice aR r7.length cR):=⟨hB.cell 0,hB.cell 1,hB.cell 2,hB.cell 3,hB.cell 4,hB.cell 5,hB.cell 6⟩
 have HC:=Lib.hid (HBg.out z hbz)
 clear HBg
 go_upto_region 2 with (refine HC.out.mono ?_;rintro e w2 ⟨U,rfl,hU,hw2⟩;clear HC y0 y1 y2 y3 y4 y5 y6)
 have h2:=hbz.trans (hw2.mono hbz.size)
 obtain⟨g,hg⟩:∃ g,U.g=g:=⟨_,rfl⟩
 rw[hg]
 have hU1:Ru w2 U k rn:=by rw[←hrn];exact hU.1
 have hU2:=hU.2
 clear hU hB hbz hw2
 have HU:=Lib.hid (And.intro hU1 (And.intro hU2 hg))
 have HW2:=Lib.hid ((within_of_below h2).wide (S':=fun i=>base≤i) (by simp))
 clear hU1 hU2 hg h2
 go_wp2
 go_loopw [15] (fun x wr=>∃ (j:Nat) (U':RP),x=.int .i64 j∧j≤ops.length∧Hid (Ru wr U' k (runR k rn ((ops.take j).map OpC.op))∧(∀ i,U'.Own k.n i→base≤i)∧U'.g=g)∧Hid (Within w wr (fun i=>base≤i))) (fun x _=>ops.length - (intOf x).toNat)
 case atStart=>exact⟨0,U,rfl,Nat.zero_le _,HU,HW2⟩
 case round=>
  obtain⟨j,U',rfl,hj,HR,HW⟩:=hrel
  by_cases hlt:j < ops.length
  ·have hji:(j:Int) < ops.length:=by omega
   have hS:=HO.out.within HW.out hb (fun i h=>h)
   obtain⟨b,off,rfl,hbb,hcs⟩:=hS (by omega)
   obtain⟨c0,c1,c2⟩:=hcs j ops[j] (List.getElem?_eq_getElem hlt)
   have hN:=HSn.out j hlt
   try rw[hrn] at hN
   obtain⟨hRu,hOw,hgg⟩:=HR.out
   have hlr:=HRL.out j hj
   try rw[hrn] at hlr
   have HOpr:Hid (∀ W,Below wr.heap.size wr W→Calls Tryz.prog 35 #[.pointer (some ⟨g,0,none⟩),.agg #[.int .i64 ops[j].kd,.int .i64 ops[j].t,.int .i64 ops[j].L]] W fun e w'=>e=.returned (.tuple #[])∧∃ U2,(Ru w' U2 k (runR k rn ((ops.take (j+1)).map OpC.op))∧(∀ i,U2.Own k.n i→base≤i)∧U2.g=g)∧Within w w' (fun i=>base≤i)):=Lib.hid (fun W hW=>by
    have hc:=rOp (hRu.below hW) ops[j].kd ops[j].t ops[j].L (decide (ops[j].L≠0)) rfl (by omega) hs
    rw[hgg] at hc
    refine hc.mono ?_
    rintro e w' ⟨h1,U2,h3,h4⟩
    refine⟨h1,U2,⟨by rw[hN];exact h3,fun i hi=>?_,h4.2.2.1.trans hgg⟩,?_⟩
    ·rcases h4.2.1 i hi with e2 | e2
     ·exact hOw i e2
     ·have h5:=hW.size
      have h6:=HW.out.size
      omega
    ·exact(HW.out.then_ ((within_of_below hW).wide (S':=fun i=>base≤i) (by simp)) (fun i h=>.inl h)).then_ (h4.1.wide (S':=fun i=>base≤i) (fun i h _=>hOw i h)) (fun i h=>.inl h))
   generalize ops[j]=x at *
   obtain⟨kd,t,L⟩:=x
   simp only at c0 c1 c2 HOpr
   clear hS hcs hN hRu hOw hgg hlr HR HW
   go_upto_region 5 with fail
   have hb5:Below wr.heap.size wr (wr.alloc (.cells #[.int .i64 kd,.int .i64 t,.int .i64 L] 61)):=(Below.refl _ _).alloc (Nat.le_refl _) _
   have hB5:=Bk.made wr 61 #[.int .i64 kd,.int .i64 t,.int .i64 L]
   have hc5:=HOpr.out _ hb5
   clear HOpr hb5
   generalize wr.alloc (.cells #[.int .i64 kd,.int .i64 t,.int .i64 L] 61)=z5 at *
   obtain⟨e0,e1,e2⟩:z5.cell? ⟨wr.heap.size,0,none⟩=some (.int .i64 kd)∧z5.cell? ⟨wr.heap.size,1,none⟩=some (.int .i64 t)∧z5.cell? ⟨wr.heap.size,2,none⟩=some (.int .i64 L):=⟨hB5.cell 0,hB5.cell 1,hB5.cell 2⟩
   have HC5:=Lib.hid hc5
   clear hc5 hB5 c0 c1 c2
   go_wp2_with fail
   refine HC5.out.mono ?_
   rintro e w5 ⟨rfl,U2,h3,h4⟩
   have N3:=Lib.hid h3
   have N4:=Lib.hid h4
   clear h3 h4 HC5 e0 e1 e2
   go_wp2
   go_roundw
   case rel=>exact⟨j+1,U2,by go_num,by omega,N3,N4⟩
   case measure=>simp[intOf];omega
  ·obtain rfl:j=ops.length:=by omega
   obtain⟨hRu,hOw,hgg⟩:=HR.out
   have hlr:=HRL.out ops.length (Nat.le_refl _)
   rw[HTk.out] at hRu hlr
   try rw[hrn] at hlr
   obtain⟨rm,hrm⟩:∃ rm,runR k rn (ops.map OpC.op)=rm:=⟨_,rfl⟩
   rw[hrm] at hRu hlr
   have HRM:=Lib.hid hrm
   clear hrm
   obtain⟨al,capl,elv,hm1,hm2,hS⟩:=hRu.ents.is
   have c3:=hRu.c3
   have c2:=hRu.c2
   rw[hgg] at c2 c3
   rw[elv] at c2
   have HF2:Hid (∀ q:Grw wr,Calls Tryz.prog 36 #[.int .i64 k.n,.slice al rm.l.length capl] q.x fun e w'=>e=.returned (.int .i64 (checkN k.n rm.l:Nat))∧Below q.x.heap.size q.x w'):=Lib.hid (fun q=>rCheck k.n rm.l al capl q.x (hS.below q.ok) hm1 hm2 (by omega))
   have g2:∀ q:Grw wr,q.x.cell? ⟨g,2,none⟩=some (.slice al rm.l.length capl):=fun q=>q.cell c2
   clear hRu hOw hgg hlr elv hS HR c2 HSn HTk HRL
   cases hbad:rm.bad with
   | true=>
    have HV:Hid (decide (rm.bad=false∧checkN k.n rm.l=rm.l.length)=false):=Lib.hid (decide_eq_false (fun h=>by have h1:=h.1;rw[hbad] at h1;cases h1))
    rw[hbad] at c3
    have g3:∀ q:Grw wr,q.x.cell? ⟨g,3,none⟩=some (.int .i64 1):=fun q=>q.cell c3
    clear c3
    go_upto_region 7 with fail
    refine wp_region_grow (by kernel_rfl) (by kernel_rfl) ?_
    repeat (go_big_quiet_step ((go_at_call 36;with_reducible exact grw_call (HF2.out _))))
    refine wpQuiet_nil ?_
    rintro y ⟨q,rfl⟩
    have hfin:=HW.out.then_ ((within_of_below q.ok).wide (S':=fun i=>base≤i) (by simp)) (fun i h=>.inl h)
    clear g2 g3 HF2
    go_wp2
    go_ret
    exact⟨(congrArg (fun x=>Ending.returned (.bool x)) HV.out.symm).trans (by rw[HRM.out]),hfin⟩
   | false=>
    obtain⟨o,hoo⟩:∃ o,decide (checkN k.n rm.l=rm.l.length)=o:=⟨_,rfl⟩
    have hoi:(((checkN k.n rm.l:Nat):Int)==((rm.l.length:Nat):Int))=o:=by
     rw[←hoo]
     by_cases e:checkN k.n rm.l=rm.l.length
     ·rw[e];simp
     ·rw[decide_eq_false e];exact beq_eq_false_iff_ne.2 (by omega)
    have HV:Hid (decide (rm.bad=false∧checkN k.n rm.l=rm.l.length)=o):=Lib.hid (by rw[←hoo,hbad];simp)
    clear hoo
    rw[hbad] at c3
    have g3:∀ q:Grw wr,q.x.cell? ⟨g,3,none⟩=some (.int .i64 0):=fun q=>q.cell c3
    clear c3
    go_upto_region 7 with fail
    refine wp_region_grow (by kernel_rfl) (by kernel_rfl) ?_
    repeat (go_big_quiet_step ((go_at_call 36;with_reducible exact grw_call (HF2.out _))))
    refine wpQuiet_nil ?_
    rintro y ⟨q,rfl⟩
    have hfin:=HW.out.then_ ((within_of_below q.ok).wide (S':=fun i=>base≤i) (by simp)) (fun i h=>.inl h)
    clear g2 g3 HF2
    go_wp2
    go_ret
    exact⟨(congrArg (fun x=>Ending.returned (.bool x)) HV.out.symm).trans (by rw[HRM.out]),hfin⟩
end
def busyJ (r:Rn):Nat→Bool
 | 0=>false
 | j+1=>busyJ r j || (r.act j != 0)
def midR (k:Lk)(r:Rn)(j:Nat):Rn:=(List.range j).foldl (turnOp k) r
def finR (k:Lk):Nat→Rn→Bool×Rn
 | 0,r=>(false,r)
 | f+1,r=>if busyJ (midR k r k.n) k.n=false then (true,midR k r k.n) else finR k f (midR k r k.n)
attribute [local irreducible] finR midR
end Go.Proofs.YthdgehcghklflaaGreatDoor
namespace Go.Proofs.YthdgehcghklflaaGreatDoor
section
variable {n:Nat}{st:Int}
theorem tk_check {l:List En}(h1:1≤n)(hn:n≤64)(h:Trace (n:Int) l):checkN n l=l.length:=by
 unfold checkN
 rw[if_pos ⟨by omega,by omega⟩]
 exact checkD_all h
theorem tk_start (h0:0≤st)(h1:st < 4294967296):TkI n st 0 (rn0 (tkK n) [st,st] (tkR n)):=tk_new n st h0 h1 (tkR n) (tkR_at n)
theorem tk_run (hn:n≤64)(h0:0≤st)(h1:st < 4294967296)(l:List Opn3):∃ s,TkI n st s (runR (tkK n) (rn0 (tkK n) [st,st] (tkR n)) l):=
 runR_inv (I:=fun r=>∃ s,TkI n st s r) (fun r o h=>tk_op hn o h) l _ ⟨0,tk_start h0 h1⟩
theorem tk_playsT (g1:1≤n)(hn:n≤64)(h0:0≤st)(h1:st < 4294967296)(l:List Opn3):
 decide ((runR (tkK n) (rn0 (tkK n) [st,st] (tkR n)) l).bad=false∧checkN n (runR (tkK n) (rn0 (tkK n) [st,st] (tkR n)) l).l=(runR (tkK n) (rn0 (tkK n) [st,st] (tkR n)) l).l.length)=true:=by
 obtain⟨s,h⟩:=tk_run (n:=n) hn h0 h1 l
 exact decide_eq_true ⟨h.bad,tk_check g1 hn h.tr⟩
end
end Go.Proofs.YthdgehcghklflaaGreatDoor
