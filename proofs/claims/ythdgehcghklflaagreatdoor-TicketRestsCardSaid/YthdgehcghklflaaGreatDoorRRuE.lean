import Derived.Test.YthdgehcghklflaaGreatDoorRRuD
import Derived.Test.YthdgehcghklflaaGreatDoorREyN
import Derived.Test.YthdgehcghklflaaGreatDoorRWdA
import Derived.Test.YthdgehcghklflaaGreatDoorRFfS
import Derived.Test.YthdgehcghklflaaGreatDoorRPrgM
import Derived.Test.YthdgehcghklflaaGreatDoorRAsmM
set_option linter.unusedVariables false
namespace Go.Proofs.YthdgehcghklflaaGreatDoor
set_option maxRecDepth 100000
open Go.ChangeShapes Go.WideShapes Go.ChangeAt Go.RowKit
theorem makeInts (N:Nat)(hN:N≤40000)(W:World):(Instr.makeSlice 26 (.int .i64 N) (.int .i64 N)).run Tryz.prog W=.ok (.slice (some ⟨W.heap.size,0,none⟩) N N) (W.alloc (.cells (madeCells #[.int .i64 0] N) 3)):=by
 obtain⟨i0,hi0,hz0,hz1,hz2⟩:=info_parts intinfo
 have h:=run_make (P:=Tryz.prog) W 26 3 i0 _ Tryz.underlying26 hi0 hz0 .i64 .i64 N N (by omega) (by omega) (by rw[hz2];omega) (by omega)
 rw[hz1] at h
 simpa [Value.cells] using h
theorem actL_zero (n:Nat):actL (fun _=>0) n=List.replicate n 0:=by
 unfold actL
 exact List.ext_getElem (by rw[List.length_map,List.length_range,List.length_replicate]) (fun i h1 h2=>by rw[List.getElem_map,List.getElem_replicate])
section
variable {w:World}{k:Lk}
def NwO (base:Nat)(k:Lk)(init r7:List Int)(Y:YP)(W:World):Prop:=Ey W Y k (newM k init r7)∧∀ i,Y.Own k.n i→base≤i
def MkO (base n:Nat)(d:Nat)(W:World):Prop:=Its W d n (List.replicate n 0)∧base≤d
def BgO (base:Nat)(k:Lk)(init r7:List Int)(U:RP)(W:World):Prop:=Ru W U k (rn0 k init r7)∧∀ i,U.Own k.n i→base≤i
def PrO (base:Nat)(k:Lk)(init r7:List Int)(x y:Value)(W:World):Prop:=∃ (Y:YP) (d:Nat),x=.pointer (some ⟨Y.y,0,none⟩)∧y=.slice (some ⟨d,0,none⟩) k.n k.n∧NwO base k init r7 Y W∧MkO base k.n d W∧¬ Y.Own k.n d
theorem NwO.below {base:Nat}{k:Lk}{init r7:List Int}{Y:YP}{W W':World}(h:NwO base k init r7 Y W)(hb:Below W.heap.size W W'):NwO base k init r7 Y W':=⟨h.1.below hb,h.2⟩
theorem MkO.below {base n d:Nat}{W W':World}(h:MkO base n d W)(hb:Below W.heap.size W W'):MkO base n d W':=⟨h.1.within (within_of_below hb) (by simp),h.2⟩
theorem BgO.below {base:Nat}{k:Lk}{init r7:List Int}{U:RP}{W W':World}(h:BgO base k init r7 U W)(hb:Below W.heap.size W W'):BgO base k init r7 U W':=⟨h.1.below hb,h.2⟩
set_option maxHeartbeats 4000000 in
theorem rBegin {base:Nat}{v:Value}{init r7:List Int}(hb:base≤w.heap.size)(hk:OkLk k)(hv:Rv base w v ⟨k.l,k.lo,k.un⟩ k.zs init r7 k.each)(hi:init.length=tot k.zs)(hiu:U32s init)(hr:r7.length=k.n)(hru:U32s r7):
 Calls Tryz.prog 34 #[v,.int .i64 k.n] w fun e w'=>∃ U:RP,e=.returned (.pointer (some ⟨U.g,0,none⟩))∧BgO base k init r7 U w'∧Below w.heap.size w w':=by
 have HNw:Hid (∀ W,Below w.heap.size w W→Calls Tryz.prog 20 #[v,.int .i64 k.n] W (NewYQ W base k init r7)):=Lib.hid (fun W hW=>yNewQ (Nat.le_trans hb hW.size) hk (hv.below hW) hi hiu hr hru)
 have hn64:=hk.n64
 obtain⟨sl,aS,cS,aI,cI,aR,cR,rfl,ho,-⟩:=hv
 simp only at ho HNw ⊢
 obtain⟨aL,cL,rfl,_⟩:=own_is ho
 have hbz:Below w.heap.size w (w.alloc (.cells #[.slice aL k.l.length cL,.int .i64 k.lo,.int .i64 k.un,.slice aS k.zs.length cS,.slice aI init.length cI,.int .i64 (k.each:Int),.slice aR r7.length cR] 37)):=(Below.refl _ _).alloc (Nat.le_refl _) _
 have hB:=Bk.made w 37 #[.slice aL k.l.length cL,.int .i64 k.lo,.int .i64 k.un,.slice aS k.zs.length cS,.slice aI init.length cI,.int .i64 (k.each:Int),.slice aR r7.length cR]
 clear ho hk hi hiu hr hru
 go_enter Tryz.func34,Tryz.ntmps34
 go_upto_region 1 with fail
 refine wp_region_pair (fun W=>Below w.heap.size w W∧Bk W w.heap.size 37 #[.slice aL k.l.length cL,.int .i64 k.lo,.int .i64 k.un,.slice aS k.zs.length cS,.slice aI init.length cI,.int .i64 (k.each:Int),.slice aR r7.length cR]) (fun vs=>{ tmps:=#[.agg #[.slice aL k.l.length cL,.int .i64 k.lo,.int .i64 k.un,.slice aS k.zs.length cS,.slice aI init.length cI,.int .i64 (k.each:Int),.slice aR r7.length cR],.int .i64 (k.n:Int),.pointer (some ⟨w.heap.size,0,none⟩),undef,vs 7,vs 0,vs 1,vs 2,vs 3,vs 4,vs 5,vs 6],defers:=[] }) (mixT [(2,fun v W=>∃ Y:YP,v=.pointer (some ⟨Y.y,0,none⟩)∧NwO base k init r7 Y W),(4,fun v W=>∃ d,v=.slice (some ⟨d,0,none⟩) k.n k.n∧MkO base k.n d W),(5,fun v W=>∃ (Y:YP) (d:Nat),v=.agg #[.pointer (some ⟨Y.y,0,none⟩),.slice (some ⟨d,0,none⟩) k.n k.n,.slice none 0 0,.int .i64 0]∧NwO base k init r7 Y W∧MkO base k.n d W∧¬ Y.Own k.n d),(6,fun v W=>∃ U:RP,v=.pointer (some ⟨U.g,0,none⟩)∧BgO base k init r7 U W),(7,fun v W=>∃ U:RP,v=.pointer (some ⟨U.g,0,none⟩)∧BgO base k init r7 U W)] [.agg #[.slice aL k.l.length cL,.int .i64 k.lo,.int .i64 k.un,.slice aS k.zs.length cS,.slice aI init.length cI,.int .i64 (k.each:Int),.slice aR r7.length cR],.int .i64 (k.n:Int),undef,.int .i64 (k.n:Int),undef,undef,undef,undef]) 2 4 (PrO base k init r7) ?ghm ?ghr ?ghab ?ghal ?ghbl ?ghlit ?gh0 ?ghW ?ghF ?ghP ?gops ?gdone
 case ghm=>kernel_rfl
 case ghr=>kernel_rfl
 case ghab=>decide
 case ghal=>decide
 case ghbl=>decide
 case ghlit=>intro vs;rfl
 case gh0=>exact⟨hbz,hB⟩
 case ghW=>exact fun W W2 h hb=>⟨h.1.trans (hb.mono h.1.size),Bk.within h.2 (within_of_below hb) (by simp)⟩
 case ghF=>exact mixT_stable (by
  intro p0 hp
  simp only[List.mem_cons,List.not_mem_nil,or_false] at hp
  rcases hp with rfl | rfl | rfl | rfl | rfl
  ·exact fun v W W2 ⟨Y,h1,h2⟩ hb=>⟨Y,h1,h2.below hb⟩
  ·exact fun v W W2 ⟨d,h1,h2⟩ hb=>⟨d,h1,h2.below hb⟩
  ·exact fun v W W2 ⟨Y,d,h1,h2,h3,h4⟩ hb=>⟨Y,d,h1,h2.below hb,h3.below hb,h4⟩
  ·exact fun v W W2 ⟨U,h1,h2⟩ hb=>⟨U,h1,h2.below hb⟩
  ·exact fun v W W2 ⟨U,h1,h2⟩ hb=>⟨U,h1,h2.below hb⟩)
 case ghP=>exact fun x y W W2 ⟨Y,d,h1,h2,h3,h4,h5⟩ hb=>⟨Y,d,h1,h2,h3.below hb,h4.below hb,h5⟩
 case gops=>
  refine⟨?_,?_,?_,?_,?_,?_,?_,?_,trivial⟩
  ·intro vs W hW hd hp
   refine leaves_free rfl ?_
   have hq:=hW.2
   obtain⟨y0,y1,y2,y3,y4,y5,y6⟩:W.cell? ⟨w.heap.size,0,none⟩=some (.slice aL k.l.length cL)∧W.cell? ⟨w.heap.size,1,none⟩=some (.int .i64 k.lo)∧W.cell? ⟨w.heap.size,2,none⟩=some (.int .i64 k.un)∧W.cell? ⟨w.heap.size,3,none⟩=some (.slice aS k.zs.length cS)∧W.cell? ⟨w.heap.size,4,none⟩=some (.slice aI init.length cI)∧W.cell? ⟨w.heap.size,5,none⟩=some (.int .i64 (k.each:Int))∧W.cell? ⟨w.heap.size,6,none⟩=some (.slice aR r7.length cR):=⟨hq.cell 0,hq.cell 1,hq.cell 2,hq.cell 3,hq.cell 4,hq.cell 5,hq.cell 6⟩
   clear hq hd hp
   go_simp
   exact⟨⟨rfl,fun e=>absurd e (by decide),fun e=>absurd e (by decide)⟩,Below.refl _ _⟩
  ·intro vs W hW hd hp
   refine leaves_free rfl ?_
   clear hd hp
   go_simp
   exact⟨⟨rfl,fun e=>absurd e (by decide),fun e=>absurd e (by decide)⟩,Below.refl _ _⟩
  ·intro vs W hW hd hp
   refine leaves_free rfl ?_
   have e0:vs 0=.agg #[.slice aL k.l.length cL,.int .i64 k.lo,.int .i64 k.un,.slice aS k.zs.length cS,.slice aI init.length cI,.int .i64 (k.each:Int),.slice aR r7.length cR]:=hd 0 (by decide)
   have e1:vs 1=.int .i64 (k.n:Int):=hd 1 (by decide)
   have hc:=HNw.out W hW.1
   have hsz:=hW.1.size
   clear hd hp
   go_simp
   refine hc.mono ?_
   rintro e W2 ⟨Y,rfl,h2,h3,h4⟩
   refine⟨_,rfl,⟨⟨Y,rfl,h2,fun i hi=>(h4 i hi).1⟩,fun _ y hy=>?_,fun e=>absurd e (by decide)⟩,h3⟩
   obtain⟨d,rfl,hd4⟩:∃ d,y=.slice (some ⟨d,0,none⟩) k.n k.n∧MkO base k.n d W:=hy
   refine⟨Y,d,rfl,rfl,⟨h2,fun i hi=>(h4 i hi).1⟩,hd4.below h3,fun hi=>?_⟩
   rcases(h4 d hi).2 with e | e
   ·obtain⟨c,hc2⟩:=own_bk h2.code e
    obtain⟨c2,hc3,_⟩:=(hd4.below h3).1.bk
    exact Bk.unlike hc2 hc3 (by decide) rfl
   ·have:=hd4.1.lt;omega
  ·intro vs W hW hd hp
   refine leaves_free rfl ?_
   clear hd hp
   go_simp
   exact⟨⟨rfl,fun e=>absurd e (by decide),fun e=>absurd e (by decide)⟩,Below.refl _ _⟩
  ·intro vs W hW hd hp
   refine leaves_free rfl ?_
   have e3:vs 3=.int .i64 (k.n:Int):=hd 3 (by decide)
   have hmk:=makeInts k.n (by omega) W
   have hA:Below W.heap.size W (W.alloc (.cells (madeCells #[.int .i64 0] k.n) 3)):=(Below.refl _ _).alloc (Nat.le_refl _) _
   have hI:=Its.made W k.n (by simp only[maxLen];omega)
   have hsz:=hW.1.size
   clear hd hp
   go_simp
   try simp only[hmk]
   refine⟨⟨⟨W.heap.size,rfl,hI,Nat.le_trans hb hsz⟩,fun e=>absurd e (by decide),fun _ x hx=>?_⟩,hA⟩
   obtain⟨Y,rfl,hY⟩:∃ Y:YP,x=.pointer (some ⟨Y.y,0,none⟩)∧NwO base k init r7 Y W:=hx
   exact⟨Y,W.heap.size,rfl,rfl,hY.below hA,⟨hI,Nat.le_trans hb hsz⟩,fun hi=>by have:=hY.1.lt hi;omega⟩
  ·intro vs W hW hd hp
   refine leaves_free rfl ?_
   obtain⟨Y,d,e2,e4,h2,h4,h5⟩:=hp (by decide) (by decide)
   clear hd
   go_simp
   exact⟨⟨⟨Y,d,rfl,h2,h4,h5⟩,fun e=>absurd e (by decide),fun e=>absurd e (by decide)⟩,Below.refl _ _⟩
  ·intro vs W hW hd hp
   refine leaves_free rfl ?_
   obtain⟨Y,d,e5,h2,h4,h5⟩:=hd 5 (by decide)
   have hA:Below W.heap.size W (W.alloc (.cells #[.pointer (some ⟨Y.y,0,none⟩),.slice (some ⟨d,0,none⟩) k.n k.n,.slice none 0 0,.int .i64 0] 86)):=(Below.refl _ _).alloc (Nat.le_refl _) _
   have hM:=Bk.made W 86 #[.pointer (some ⟨Y.y,0,none⟩),.slice (some ⟨d,0,none⟩) k.n k.n,.slice none 0 0,.int .i64 0]
   have hsz:=hW.1.size
   clear hd hp
   go_simp
   refine⟨⟨⟨⟨W.heap.size,Y,d,.slice none 0 0⟩,rfl,⟨hM,?_,World.ownsRow_nil _ _ _ _,h2.1.below hA,h5⟩,fun i hi=>?_⟩,fun e=>absurd e (by decide),fun e=>absurd e (by decide)⟩,hA⟩
   ·show Its _ d k.n (actL (fun _=>0) k.n)
    rw[actL_zero]
    exact(h4.below hA).1
   ·rcases hi with e | e | e | e
    ·rw[e];exact Nat.le_trans hb hsz
    ·rw[e];exact h4.2
    ·cases e
    ·exact h2.2 i e
  ·intro vs W hW hd hp
   refine leaves_free rfl ?_
   obtain⟨U,e6,h6⟩:=hd 6 (by decide)
   clear hd hp
   go_simp
   exact⟨⟨⟨U,rfl,h6⟩,fun e=>absurd e (by decide),fun e=>absurd e (by decide)⟩,Below.refl _ _⟩
 case gdone=>
  intro vs W hW hf hp
  obtain⟨U,e7,h7⟩:=hf 7 (by decide)
  simp only[e7]
  have hbl:=hW.1
  clear hf hp hW
  go_wp2
  go_ret
  exact⟨U,rfl,h7,hbl⟩
end
structure OpC where
 kd:Int
 t:Int
 L:Int
def OpC.op (x:OpC):Opn3:=⟨x.kd,x.t,decide (x.L≠0)⟩
def OpsS (base:Nat)(w:World)(a:Option Addr)(l:List OpC):Prop:=
 0 < l.length→∃ b off,a=some ⟨b,off,none⟩∧b < base∧∀ i x,l[i]?=some x→w.cell? ⟨b,off+i * 3,none⟩=some (.int .i64 x.kd)∧w.cell? ⟨b,off+i * 3+1,none⟩=some (.int .i64 x.t)∧w.cell? ⟨b,off+i * 3+2,none⟩=some (.int .i64 x.L)
theorem OpsS.within {base:Nat}{w w':World}{a:Option Addr}{l:List OpC}{S:Nat→Prop}(h:OpsS base w a l)(hw:Within w w' S)(hb:base≤w.heap.size)(hs:∀ i,S i→base≤i):OpsS base w' a l:=by
 intro h0
 obtain⟨b,off,e,h1,h2⟩:=h h0
 have hk:∀ j,w'.cell? ⟨b,j,none⟩=w.cell? ⟨b,j,none⟩:=fun j=>by
  have:=hw.block b (Nat.lt_of_lt_of_le h1 hb) (fun e=>by have:=hs b e;omega)
  unfold World.cell?
  simp only[this]
 refine⟨b,off,e,h1,fun i x hx=>?_⟩
 obtain⟨c0,c1,c2⟩:=h2 i x hx
 exact⟨(hk _).trans c0,(hk _).trans c1,(hk _).trans c2⟩
theorem runR_snoc (k:Lk)(r:Rn)(l:List OpC)(j:Nat)(h:j < l.length):runR k r ((l.take (j+1)).map OpC.op)=opR k (runR k r ((l.take j).map OpC.op)) l[j].op:=by
 rw[List.take_succ_eq_append_getElem h,List.map_append]
 unfold runR
 rw[List.foldl_append]
 rfl
def busyJ (r:Rn):Nat→Bool
 | 0=>false
 | j+1=>busyJ r j || (r.act j != 0)
theorem busyJ_keep {r r':Rn}:∀ {j:Nat},(∀ t,t < j→r'.act t=r.act t)→busyJ r' j=busyJ r j
 | 0,_=>rfl
 | j+1,h=>by
  unfold busyJ
  rw[busyJ_keep (fun t ht=>h t (by omega)),h j (by omega)]
theorem busyJ_idle {r:Rn}:∀ {n:Nat},busyJ r n=false↔Idle n r
 | 0=>⟨fun _ t ht=>by omega,fun _=>rfl⟩
 | n+1=>by
  unfold busyJ
  rw[Bool.or_eq_false_iff,busyJ_idle]
  constructor
  ·rintro⟨h1,h2⟩ t ht
   by_cases e:t=n
   ·subst e;simpa using h2
   ·exact h1 t (by omega)
  ·intro h
   exact⟨fun t ht=>h t (by omega),by simpa using h n (by omega)⟩
def midR (k:Lk)(r:Rn)(j:Nat):Rn:=(List.range j).foldl (turnOp k) r
theorem midR_zero (k:Lk)(r:Rn):midR k r 0=r:=rfl
theorem midR_succ (k:Lk)(r:Rn)(j:Nat):midR k r (j+1)=turnOp k (midR k r j) j:=by
 unfold midR
 rw[List.range_succ,List.foldl_append];rfl
theorem busyJ_succ (k:Lk)(r:Rn)(j:Nat):busyJ (midR k r (j+1)) (j+1)=(busyJ (midR k r j) j || ((midR k r (j+1)).act j != 0)):=by
 show (busyJ (midR k r (j+1)) j || _)=_
 rw[busyJ_keep (fun t ht=>?_)]
 rw[midR_succ]
 exact opR_act (by simp only;omega)
def finR (k:Lk):Nat→Rn→Bool×Rn
 | 0,r=>(false,r)
 | f+1,r=>if busyJ (midR k r k.n) k.n=false then (true,midR k r k.n) else finR k f (midR k r k.n)
theorem finR_succ (k:Lk)(f:Nat)(r:Rn):finR k (f+1) r=if busyJ (midR k r k.n) k.n=false then (true,midR k r k.n) else finR k f (midR k r k.n):=rfl
theorem finR_zero (k:Lk)(r:Rn):finR k 0 r=(false,r):=rfl
attribute [local irreducible] finR midR
section
variable {w:World}{U:RP}{k:Lk}{r:Rn}
set_option maxHeartbeats 1500000 in
theorem rFinishF (F:Nat)(hF:F=5000)(h:Ru w U k r)(hl:r.l.length≤1000000)(hs:StepOk k):
 Calls Tryz.prog 37 #[.pointer (some ⟨U.g,0,none⟩)] w fun e w'=>e=.returned (.bool (finR k F r).1)∧RuP w U k (finR k F r).2 w':=by
 have HFF:=Lib.hid hF
 clear hF
 have HLK:=Lib.hid h.ey.lk
 have HH:=Lib.hid h
 have hn64:=h.ey.lk.n64
 have HLen:=Lib.hid hl
 obtain⟨g,hg⟩:∃ g,U.g=g:=⟨_,rfl⟩
 obtain⟨d,hd⟩:∃ d,U.d=d:=⟨_,rfl⟩
 have HG:=Lib.hid (And.intro hg hd)
 rw[hg]
 clear h hl hg hd
 go_enter Tryz.func37,Tryz.ntmps37
 go_wp2
 go_loopw [3] (fun x wr=>∃ (T:Nat) (U':RP) (rT:Rn),x=.int .i64 T∧T≤5000∧Hid (Ru wr U' k rT∧UStays w k.n U wr U'∧rT.l.length≤r.l.length+258 * (64 * T)∧finR k F r=finR k (F - T) rT)) (fun x _=>5000 - (intOf x).toNat)
 case atStart=>exact⟨0,U,r,rfl,Nat.zero_le _,Lib.hid ⟨HH.out,UStays.refl _ _ _,by omega,by rw[Nat.sub_zero]⟩⟩
 case round=>
  obtain⟨T,U',rT,rfl,hT,HR⟩:=hrel
  by_cases hlt:T < 5000
  ·have hTi:(T:Int) < 5000:=by omega
   have hc1:=HR.out.1.c1
   have hgg:U'.g=g:=HR.out.2.1.2.2.1.trans HG.out.1
   have hdd:U'.d=d:=HR.out.2.1.2.2.2.trans HG.out.2
   rw[hgg,hdd] at hc1
   clear hgg hdd
   have HF0:Hid (finR k (F - T) rT=if busyJ (midR k rT k.n) k.n=false then (true,midR k rT k.n) else finR k (F - (T+1)) (midR k rT k.n)):=Lib.hid (by rw[show F - T=(F - (T+1))+1 by have:=HFF.out;omega];exact finR_succ _ _ _)
   go_wp2
   go_loopw [4,15] (fun bz x wr=>∃ (j:Nat) (U2:RP),x=.int .i64 j∧j≤k.n∧bz=.bool (busyJ (midR k rT j) j)∧Hid (Ru wr U2 k (midR k rT j)∧UStays w k.n U wr U2∧(midR k rT j).l.length≤r.l.length+258 * (64 * T+j))) (fun _ x _=>k.n - (intOf x).toNat)
   case atStart=>exact⟨0,U',rfl,Nat.zero_le _,rfl,Lib.hid (by rw[midR_zero];exact⟨HR.out.1,HR.out.2.1,HR.out.2.2.1⟩)⟩
   case round=>
    obtain⟨j,U2,rfl,hj,rfl,HJ⟩:=hrel
    by_cases hjt:j < k.n
    ·have hji:(j:Int) < k.n:=by omega
     obtain⟨hRu,hSt,hll⟩:=HJ.out
     have hgg:U2.g=g:=hSt.2.2.1.trans HG.out.1
     have hdd:U2.d=d:=hSt.2.2.2.trans HG.out.2
     have hc1:=hRu.c1
     have hx:=hRu.act hjt
     rw[hgg,hdd] at hc1
     rw[hdd] at hx
     have hlo:=HLen.out
     have HOp:Hid (∀ kd:Int,(if (midR k rT j).act j=2 then 2 else 3)=kd→Calls Tryz.prog 35 #[.pointer (some ⟨g,0,none⟩),.agg #[.int .i64 kd,.int .i64 j,.int .i64 0]] wr fun e w'=>e=.returned (.tuple #[])∧∃ U3:RP,(w'.cell? ⟨g,1,none⟩=some (.slice (some ⟨d,0,none⟩) k.n k.n)∧w'.cell? ⟨d,j,none⟩=some (.int .i64 ((midR k rT (j+1)).act j)))∧Ru w' U3 k (midR k rT (j+1))∧UStays w k.n U w' U3∧(midR k rT (j+1)).l.length≤r.l.length+258 * (64 * T+(j+1))):=Lib.hid (fun kd hkd=>by
      have hc:=rOp hRu kd j 0 false rfl (by omega) hs
      have hol:=op_len HLK.out (midR k rT j) ⟨kd,j,false⟩
      have he:opR k (midR k rT j) ⟨kd,j,false⟩=midR k rT (j+1):=by rw[midR_succ];unfold turnOp;rw[hkd]
      rw[he] at hc hol
      rw[hgg] at hc
      refine hc.mono ?_
      rintro e w' ⟨h1,U3,h3,h4⟩
      have d1:=h3.c1
      have d2:=h3.act hjt
      rw[h4.2.2.1.trans hgg,h4.2.2.2.trans hdd] at d1
      rw[h4.2.2.2.trans hdd] at d2
      exact⟨h1,U3,⟨d1,d2⟩,h3,hSt.then_ h4,by omega⟩)
     have HBz:=Lib.hid (busyJ_succ k rT j)
     generalize busyJ (midR k rT j) j=bj at *
     obtain⟨a0,ha0⟩:∃ a0,(midR k rT j).act j=a0:=⟨_,rfl⟩
     rw[ha0] at hx HOp
     clear ha0 hRu hSt hll hgg hdd HJ hlo
     cases a2:(a0==2) with
     | true=>
      have HC:=Lib.hid (HOp.out 2 (by rw[if_pos (eq_of_beq a2)]))
      clear HOp
      go_wp2_with fail
      refine HC.out.mono ?_
      rintro e w5 ⟨rfl,U3,⟨hc5,hx5⟩,hr5⟩
      have HR5:=Lib.hid hr5
      clear hr5 HC hc1 hx
      cases bj with
      | true=>
       have HB5:Hid (busyJ (midR k rT (j+1)) (j+1)=true):=Lib.hid (by rw[HBz.out];rfl)
       clear HBz
       go_wp2
       go_roundw
       case rel=>exact⟨j+1,U3,by go_num,by omega,by rw[HB5.out],HR5⟩
       case measure=>simp[intOf];omega
      | false=>
       have HB5:Hid (busyJ (midR k rT (j+1)) (j+1)=((midR k rT (j+1)).act j != 0)):=Lib.hid (by rw[HBz.out];rfl)
       clear HBz
       go_wp2
       go_roundw
       case rel=>exact⟨j+1,U3,by go_num,by omega,by rw[HB5.out],HR5⟩
       case measure=>simp[intOf];omega
     | false=>
      have HC:=Lib.hid (HOp.out 3 (by rw[if_neg (ne_of_beq_false a2)]))
      clear HOp
      go_wp2_with fail
      refine HC.out.mono ?_
      rintro e w5 ⟨rfl,U3,⟨hc5,hx5⟩,hr5⟩
      have HR5:=Lib.hid hr5
      clear hr5 HC hc1 hx
      cases bj with
      | true=>
       have HB5:Hid (busyJ (midR k rT (j+1)) (j+1)=true):=Lib.hid (by rw[HBz.out];rfl)
       clear HBz
       go_wp2
       go_roundw
       case rel=>exact⟨j+1,U3,by go_num,by omega,by rw[HB5.out],HR5⟩
       case measure=>simp[intOf];omega
      | false=>
       have HB5:Hid (busyJ (midR k rT (j+1)) (j+1)=((midR k rT (j+1)).act j != 0)):=Lib.hid (by rw[HBz.out];rfl)
       clear HBz
       go_wp2
       go_roundw
       case rel=>exact⟨j+1,U3,by go_num,by omega,by rw[HB5.out],HR5⟩
       case measure=>simp[intOf];omega
    ·obtain rfl:j=k.n:=by omega
     have HE:Hid (finR k F r=if busyJ (midR k rT k.n) k.n=false then (true,midR k rT k.n) else finR k (F - (T+1)) (midR k rT k.n)):=Lib.hid (HR.out.2.2.2.trans HF0.out)
     have hT2:T+1≤5000:=by omega
     cases hbz:busyJ (midR k rT k.n) k.n with
     | true=>
      have HE2:Hid (finR k F r=finR k (F - (T+1)) (midR k rT k.n)):=Lib.hid (by rw[HE.out,hbz];simp)
      clear hbz HE HF0 HR hc1
      go_wp2
      go_roundw
      case rel=>exact⟨T+1,U2,midR k rT k.n,by go_num,hT2,Lib.hid ⟨HJ.out.1,HJ.out.2.1,by have:=HJ.out.2.2;omega,HE2.out⟩⟩
      case measure=>simp[intOf];omega
     | false=>
      have HE2:Hid (finR k F r=(true,midR k rT k.n)):=Lib.hid (by rw[HE.out,hbz];simp)
      clear hbz HE HF0 HR hc1
      go_wp2
      go_ret
      exact⟨by rw[HE2.out];rfl,by rw[HE2.out];exact⟨U2,HJ.out.1,HJ.out.2.1⟩⟩
  ·obtain rfl:T=5000:=by omega
   have HE2:Hid (finR k F r=(false,rT)):=Lib.hid (by rw[HR.out.2.2.2,show F - 5000=0 by have:=HFF.out;omega];exact finR_zero _ _)
   go_wp2
   go_ret
   exact⟨by rw[HE2.out];rfl,by rw[HE2.out];exact⟨U',HR.out.1,HR.out.2.1⟩⟩
theorem rFinish (h:Ru w U k r)(hl:r.l.length≤1000000)(hs:StepOk k):
 Calls Tryz.prog 37 #[.pointer (some ⟨U.g,0,none⟩)] w fun e w'=>e=.returned (.bool (finR k 5000 r).1)∧RuP w U k (finR k 5000 r).2 w':=rFinishF 5000 rfl h hl hs
end
end Go.Proofs.YthdgehcghklflaaGreatDoor
namespace Go.Proofs.YthdgehcghklflaaGreatDoor
variable {k:Lk}{r:Rn}
theorem fold_idle:∀ (l:List Nat),(∀ t∈l,r.act t=0)→l.foldl (turnOp k) r=r
 | [],_=>rfl
 | t :: l,h=>by
  rw[List.foldl_cons,turnOp_idle (h t (by simp))]
  exact fold_idle l (fun t ht=>h t (by simp[ht]))
theorem midR_idle (h:Idle k.n r):midR k r k.n=r:=fold_idle _ (fun t ht=>h t (by simpa using ht))
theorem finR_at:∀ (i F:Nat) (r:Rn),i < F→Idle k.n (turnsP k.n (turnOp k) (i+1) r)→(∀ i',i' < i→¬ Idle k.n (turnsP k.n (turnOp k) (i'+1) r))→finR k F r=(true,turnsP k.n (turnOp k) (i+1) r)
 | i,0,r,h,_,_=>absurd h (Nat.not_lt_zero _)
 | 0,F+1,r,h,h1,h2=>by
  have e:busyJ (midR k r k.n) k.n=false:=busyJ_idle.2 h1
  rw[finR_succ,if_pos e]
  rfl
 | i+1,F+1,r,h,h1,h2=>by
  have e:¬ busyJ (midR k r k.n) k.n=false:=fun e=>h2 0 (Nat.succ_pos _) (busyJ_idle.1 e)
  rw[finR_succ,if_neg e]
  exact finR_at i F (midR k r k.n) (by omega) h1 (fun i' hi'=>h2 (i'+1) (by omega))
theorem finR_ends {i F:Nat}(hF:i < F)(h1:Idle k.n (turnsP k.n (turnOp k) i r))(h2:∀ i',i' < i→¬ Idle k.n (turnsP k.n (turnOp k) i' r)):finR k F r=(true,turnsP k.n (turnOp k) i r):=by
 match i,F,hF with
 | 0,F+1,_=>
  have e1:midR k r k.n=r:=midR_idle h1
  have e:busyJ (midR k r k.n) k.n=false:=busyJ_idle.2 (by rw[e1];exact h1)
  rw[finR_succ,if_pos e,e1]
  rfl
 | i+1,F,hF=>exact finR_at i F r (by omega) h1 (fun i' hi'=>h2 (i'+1) (by omega))
set_option maxRecDepth 100000
section
variable {k:Lk}(S:Simple k)
theorem simple_endsF (r:Rn)(h:S.I r)(F:Nat)(hn:k.n * S.c < F):∃ r2,finR k F r=(true,r2)∧S.I r2∧Idle k.n r2:=by
 obtain⟨i,h1,h2,h3,h4⟩:=simple_ends S r h
 exact⟨_,finR_ends (by omega) h2 h3,h4,h2⟩
end
theorem stepsR_succ (k:Lk)(t:Nat):∀ (j:Nat) (r:Rn),stepsR k t (j+1) r=opR k (stepsR k t j r) ⟨3,t,false⟩
 | 0,r=>rfl
 | j+1,r=>by
  show stepsR k t (j+1) (opR k r ⟨3,t,false⟩)=_
  rw[stepsR_succ k t j]
  rfl
theorem turn_len {k:Lk}(h:OkLk k)(r:Rn)(t:Nat):(turnOp k r t).l.length≤r.l.length+258:=op_len h _ _
theorem midR_len {k:Lk}(h:OkLk k)(r:Rn):∀ j,(midR k r j).l.length≤r.l.length+258 * j
 | 0=>by rw[midR_zero];omega
 | j+1=>by
  rw[midR_succ]
  have h1:=midR_len h r j
  have h2:=turn_len h (midR k r j) j
  omega
theorem finR_len {k:Lk}(h:OkLk k):∀ (F:Nat) (r:Rn),(finR k F r).2.l.length≤r.l.length+258 * k.n * F
 | 0,r=>by rw[finR_zero];simp
 | F+1,r=>by
  have h1:=midR_len h r k.n
  rw[finR_succ,Nat.mul_add]
  split
  ·simp only;omega
  ·have h2:=finR_len h F (midR k r k.n)
   omega
section
variable {n:Nat}{st:Int}
theorem tk_check {l:List En}(h1:1≤n)(hn:n≤64)(h:Trace (n:Int) l):checkN n l=l.length:=by
 unfold checkN
 rw[if_pos ⟨by omega,by omega⟩]
 exact checkD_all h
theorem tk_start (h0:0≤st)(h1:st < 4294967296):TkI n st 0 (rn0 (tkK n) [st,st] (tkR n)):=tk_new n st h0 h1 (tkR n) (tkR_at n)
theorem tk_run (hn:n≤64)(h0:0≤st)(h1:st < 4294967296)(l:List Opn3):∃ s,TkI n st s (runR (tkK n) (rn0 (tkK n) [st,st] (tkR n)) l):=
 runR_inv (I:=fun r=>∃ s,TkI n st s r) (fun r o h=>tk_op hn o h) l _ ⟨0,tk_start h0 h1⟩
theorem tk_restsT (g1:1≤n)(hn:n≤8)(h0:0≤st)(h1:st < 4294967296)(l:List Opn3){t:Nat}(ht:t < n):
 ∃ r2 r3 r4,finR (tkK n) 5000 (runR (tkK n) (rn0 (tkK n) [st,st] (tkR n)) l)=(true,r2)∧r2.bad=false∧stepsR (tkK n) t 2 (opR (tkK n) r2 ⟨1,t,false⟩)=r3∧r3.act t=2∧
  stepsR (tkK n) t 1 (opR (tkK n) r3 ⟨2,t,false⟩)=r4∧r4.bad=false∧r4.act t=0∧checkN n r4.l=r4.l.length:=by
 have hI:=tk_run (n:=n) (by omega) h0 h1 l
 obtain⟨r2,e2,⟨s2,h2⟩,hid⟩:=simple_endsF (tkS n st (by omega)) _ hI 5000 (by show n * 4 < 5000;omega)
 obtain⟨a1,a2,s5,h5⟩:=tk_alone h2 (by omega) ht hid
 exact⟨r2,_,_,e2,h2.bad,rfl,a1,rfl,h5.bad,a2,tk_check g1 (by omega) h5.tr⟩
end
end Go.Proofs.YthdgehcghklflaaGreatDoor
namespace Go.Proofs.YthdgehcghklflaaGreatDoor
set_option maxRecDepth 100000
open Go.ChangeShapes Go.WideShapes Go.ChangeAt Go.RowKit
theorem Ru.not_box {W:World}{U:RP}{k:Lk}{r:Rn}{b:Nat}{cs:Array Value}(h:Ru W U k r)(hb:Bk W b 37 cs):¬ U.Own k.n b:=by
 rintro(e | e | e | e)
 ·exact Bk.unlike h.ptr hb (by decide) e.symm
 ·obtain⟨cs2,hb2,_⟩:=h.acts.bk
  exact Bk.unlike hb2 hb (by decide) e.symm
 ·obtain⟨cs2,hb2⟩:=own_bk h.ents e
  exact Bk.unlike hb2 hb (by decide) rfl
 ·exact h.ey.not_own hb (by decide) (by decide) (by decide) (by decide) (by decide) (by decide) (by decide) (by decide) e
def RuO (base:Nat)(w:World)(k:Lk)(g bx:Nat)(cs:Array Value)(r:Rn)(W:World):Prop:=∃ U:RP,(Ru W U k r∧(∀ i,U.Own k.n i→base≤i)∧U.g=g)∧Within w W (fun i=>base≤i)∧Bk W bx 37 cs
section
variable {base:Nat}{w W W':World}{k:Lk}{g bx:Nat}{cs:Array Value}{r r':Rn}{U U':RP}
theorem RuO.next (h:(Ru W U k r∧(∀ i,U.Own k.n i→base≤i)∧U.g=g)∧Within w W (fun i=>base≤i)∧Bk W bx 37 cs)(hb:base≤w.heap.size)(h':Ru W' U' k r')(hs:UStays W k.n U W' U'):RuO base w k g bx cs r' W':=by
 obtain⟨⟨h1,h2,h3⟩,h4,h5⟩:=h
 refine⟨U',⟨h',fun i hi=>?_,hs.2.2.1.trans h3⟩,h4.then_ (hs.1.wide (S':=fun i=>base≤i) (fun i h _=>h2 i h)) (fun i h=>.inl h),h5.within hs.1 (h1.not_box h5)⟩
 rcases hs.2.1 i hi with e | e
 ·exact h2 i e
 ·exact Nat.le_trans hb (Nat.le_trans h4.size e)
theorem RuO.below (h:RuO base w k g bx cs r W)(hb:base≤w.heap.size)(hW:Below W.heap.size W W'):RuO base w k g bx cs r W':=by
 obtain⟨U,h⟩:=h
 exact RuO.next h hb (h.1.1.below hW) ((UStays.refl W k.n U).grown hW)
theorem ruo_op (h:RuO base w k g bx cs r W)(hb:base≤w.heap.size)(kd t' L:Int)(late:Bool)(hL:decide (L≠0)=late)(hl:r.l.length+258 < 100000000)(hs:StepOk k):
 Calls Tryz.prog 35 #[.pointer (some ⟨g,0,none⟩),.agg #[.int .i64 kd,.int .i64 t',.int .i64 L]] W fun e w'=>e=.returned (.tuple #[])∧RuO base w k g bx cs (opR k r ⟨kd,t',late⟩) w':=by
 obtain⟨U,h⟩:=h
 have hc:=rOp h.1.1 kd t' L late hL hl hs
 rw[h.1.2.2] at hc
 refine hc.mono ?_
 rintro e w' ⟨h1,U2,h3,h4⟩
 exact⟨h1,RuO.next h hb h3 h4⟩
theorem ruo_finish (h:RuO base w k g bx cs r W)(hb:base≤w.heap.size)(hl:r.l.length≤1000000)(hs:StepOk k):
 Calls Tryz.prog 37 #[.pointer (some ⟨g,0,none⟩)] W fun e w'=>e=.returned (.bool (finR k 5000 r).1)∧RuO base w k g bx cs (finR k 5000 r).2 w':=by
 obtain⟨U,h⟩:=h
 have hc:=rFinish h.1.1 hl hs
 rw[h.1.2.2] at hc
 refine hc.mono ?_
 rintro e w' ⟨h1,U2,h3,h4⟩
 exact⟨h1,RuO.next h hb h3 h4⟩
theorem RuO.c (h:RuO base w k g bx cs r W):W.cell? ⟨g,3,none⟩=some (.int .i64 (badI r.bad))∧∃ d,W.cell? ⟨g,1,none⟩=some (.slice (some ⟨d,0,none⟩) k.n k.n)∧∀ t,t < k.n→W.cell? ⟨d,t,none⟩=some (.int .i64 (r.act t)):=by
 obtain⟨U,⟨h1,h2,rfl⟩,h3⟩:=h
 exact⟨h1.c3,U.d,h1.c1,fun t ht=>h1.act ht⟩
theorem RuO.box (h:RuO base w k g bx cs r W):Bk W bx 37 cs:=by
 obtain⟨U,h⟩:=h
 exact h.2.2
theorem RuO.win (h:RuO base w k g bx cs r W):Within w W (fun i=>base≤i):=by
 obtain⟨U,h⟩:=h
 exact h.2.1
theorem RuO.ents (h:RuO base w k g bx cs r W)(hl:r.l.length≤100000000):∃ al capl,W.cell? ⟨g,2,none⟩=some (.slice al r.l.length capl)∧∀ W2,Below W.heap.size W W2→Calls Tryz.prog 36 #[.int .i64 k.n,.slice al r.l.length capl] W2 fun e w'=>e=.returned (.int .i64 (checkN k.n r.l:Nat))∧Below W2.heap.size W2 w':=by
 obtain⟨U,⟨h1,h2,rfl⟩,h3⟩:=h
 obtain⟨al,capl,elv,hm1,hm2,hS⟩:=h1.ents.is
 have c2:=h1.c2
 rw[elv] at c2
 exact⟨al,capl,c2,fun W2 hW=>rCheck k.n r.l al capl W2 (hS.below hW) hm1 hm2 (by omega)⟩
end
theorem stepsR_len {k:Lk}(h:OkLk k)(t:Nat)(r:Rn):∀ j,(stepsR k t j r).l.length≤r.l.length+258 * j
 | 0=>by show r.l.length≤_;omega
 | j+1=>by
  rw[stepsR_succ]
  have h1:=stepsR_len h t r j
  have h2:=op_len h (stepsR k t j r) ⟨3,t,false⟩
  omega
end Go.Proofs.YthdgehcghklflaaGreatDoor
