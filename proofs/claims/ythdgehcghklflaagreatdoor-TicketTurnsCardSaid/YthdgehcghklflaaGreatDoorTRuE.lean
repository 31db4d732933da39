import Derived.Test.YthdgehcghklflaaGreatDoorTRuD
import Derived.Test.YthdgehcghklflaaGreatDoorTEyN
import Derived.Test.YthdgehcghklflaaGreatDoorTWdA
import Derived.Test.YthdgehcghklflaaGreatDoorTFfS
import Derived.Test.YthdgehcghklflaaGreatDoorTPrgM
import Derived.Test.YthdgehcghklflaaGreatDoorTAsmM
set_option linter.unusedVariables false
namespace Go.Proofs.YthdgehcghklflaaGreatDoor
set_option maxRecDepth 100000
open Go.ChangeShapes Go.WideShapes Go.ChangeAt Go.RowKit
theorem makeInts (N:Nat)(hN:N≤40000)(W:World):(Instr.makeSlice 26 (.int .i64 N) (.int .i64 N)).run Tryz.prog W=.ok (.slice (some ⟨W.heap.size,0,none⟩) N N) (W.alloc (.cells (madeCells #[.int .i64 0] N) 3)):=by
 obtain⟨i0,hi0,hz0,hz1,hz2⟩:=info_parts intinfo
 have h:=run_make (P:=Tryz.prog) W 26 3 i0 _ Tryz.underlying26 hi0 hz0 .i64 .i64 N N (by omega) (by omega) (by rw[hz2];omega) (by omega)
 rw[hz1] at h
 simpa [Value.cells] using h
theorem actL_zero (n:Nat):actL (fun _=>0) n=List.replicate n 0:=by
 unfold actL
 exact List.ext_getElem (by rw[List.length_map,List.length_range,List.length_replicate]) (fun i h1 h2=>by rw[List.getElem_map,List.getElem_replicate])
section
variable {w:World}{k:Lk}
def NwO (base:Nat)(k:Lk)(init r7:List Int)(Y:YP)(W:World):Prop:=Ey W Y k (newM k init r7)∧∀ i,Y.Own k.n i→base≤i
def MkO (base n:Nat)(d:Nat)(W:World):Prop:=Its W d n (List.replicate n 0)∧base≤d
def BgO (base:Nat)(k:Lk)(init r7:List Int)(U:RP)(W:World):Prop:=Ru W U k (rn0 k init r7)∧∀ i,U.Own k.n i→base≤i
def PrO (base:Nat)(k:Lk)(init r7:List Int)(x y:Value)(W:World):Prop:=∃ (Y:YP) (d:Nat),x=.pointer (some ⟨Y.y,0,none⟩)∧y=.slice (some ⟨d,0,none⟩) k.n k.n∧NwO base k init r7 Y W∧MkO base k.n d W∧¬ Y.Own k.n d
theorem NwO.below {base:Nat}{k:Lk}{init r7:List Int}{Y:YP}{W W':World}(h:NwO base k init r7 Y W)(hb:Below W.heap.size W W'):NwO base k init r7 Y W':=⟨h.1.below hb,h.2⟩
theorem MkO.below {base n d:Nat}{W W':World}(h:MkO base n d W)(hb:Below W.heap.size W W'):MkO base n d W':=⟨h.1.within (within_of_below hb) (by simp),h.2⟩
theorem BgO.below {base:Nat}{k:Lk}{init r7:List Int}{U:RP}{W W':World}(h:BgO base k init r7 U W)(hb:Below W.heap.size W W'):BgO base k init r7 U W':=⟨h.1.below hb,h.2⟩
set_option maxHeartbeats 4000000 in
theorem rBegin {base:Nat}{v:Value}{init r7:List Int}(hb:base≤w.heap.size)(hk:OkLk k)(hv:Rv base w v ⟨k.l,k.lo,k.un⟩ k.zs init r7 k.each)(hi:init.length=tot k.zs)(hiu:U32s init)(hr:r7.length=k.n)(hru:U32s r7):
 Calls Tryz.prog 34 #[v,.int .i64 k.n] w fun e w'=>∃ U:RP,e=.returned (.pointer (some ⟨U.g,0,none⟩))∧BgO base k init r7 U w'∧Below w.heap.size w w':=by
 have HNw:Hid (∀ W,Below w.heap.size w W→Calls Tryz.prog 20 #[v,.int .i64 k.n] W (NewYQ W base k init r7)):=Lib.hid (fun W hW=>yNewQ (Nat.le_trans hb hW.size) hk (hv.below hW) hi hiu hr hru)
 have hn64:=hk.n64
 obtain⟨sl,aS,cS,aI,cI,aR,cR,rfl,ho,-⟩:=hv
 simp only at ho HNw ⊢
 obtain⟨aL,cL,rfl,_⟩:=own_is ho
 have hbz:Below w.heap.size w (w.alloc (.cells #[.slice aL k.l.length cL,.int .i64 k.lo,.int .i64 k.un,.slice aS k.zs.length cS,.slice aI init.length cI,.int .i64 (k.each:Int),.slice aR r7.length cR] 37)):=(Below.refl _ _).alloc (Nat.le_refl _) _
 have hB:=Bk.made w 37 #[.slice aL k.l.length cL,.int .i64 k.lo,.int .i64 k.un,.slice aS k.zs.length cS,.slice aI init.length cI,.int .i64 (k.each:Int),.slice aR r7.length cR]
 clear ho hk hi hiu hr hru
 go_enter Tryz.func34,Tryz.ntmps34
 go_upto_region 1 with fail
 refine wp_region_pair (fun W=>Below w.heap.size w W∧Bk W w.heap.size 37 #[.slice aL k.l.length cL,.int .i64 k.lo,.int .i64 k.un,.slice aS k.zs.length cS,.slice aI init.length cI,.int .i64 (k.each:Int),.slice aR r7.length cR]) (fun vs=>{ tmps:=#[.agg #[.slice aL k.l.length cL,.int .i64 k.lo,.int .i64 k.un,.slice aS k.zs.length cS,.slice aI init.length cI,.int .i64 (k.each:Int),.slice aR r7.length cR],.int .i64 (k.n:Int),.pointer (some ⟨w.heap.size,0,none⟩),undef,vs 7,vs 0,vs 1,vs 2,vs 3,vs 4,vs 5,vs 6],defers:=[] }) (mixT [(2,fun v W=>∃ Y:YP,v=.pointer (some ⟨Y.y,0,none⟩)∧NwO base k init r7 Y W),(4,fun v W=>∃ d,v=.slice (some ⟨d,0,none⟩) k.n k.n∧MkO base k.n d W),(5,fun v W=>∃ (Y:YP) (d:Nat),v=.agg #[.pointer (some ⟨Y.y,0,none⟩),.slice (some ⟨d,0,none⟩) k.n k.n,.slice none 0 0,.int .i64 0]∧NwO base k init r7 Y W∧MkO base k.n d W∧¬ Y.Own k.n d),(6,fun v W=>∃ U:RP,v=.pointer (some ⟨U.g,0,none⟩)∧BgO base k init r7 U W),(7,fun v W=>∃ U:RP,v=.pointer (some ⟨U.g,0,none⟩)∧BgO base k init r7 U W)] [.agg #[.slice aL k.l.length cL,.int .i64 k.lo,.int .i64 k.un,.slice aS k.zs.length cS,.slice aI init.length cI,.int .i64 (k.each:Int),.slice aR r7.length cR],.int .i64 (k.n:Int),undef,.int .i64 (k.n:Int),undef,undef,undef,undef]) 2 4 (PrO base k init r7) ?ghm ?ghr ?ghab ?ghal ?ghbl ?ghlit ?gh0 ?ghW ?ghF ?ghP ?gops ?gdone
 case ghm=>kernel_rfl
 case ghr=>kernel_rfl
 case ghab=>decide
 case ghal=>decide
 case ghbl=>decide
 case ghlit=>intro vs;rfl
 case gh0=>exact⟨hbz,hB⟩
 case ghW=>exact fun W W2 h hb=>⟨h.1.trans (hb.mono h.1.size),Bk.within h.2 (within_of_below hb) (by simp)⟩
 case ghF=>exact mixT_stable (by
  intro p0 hp
  simp only[List.mem_cons,List.not_mem_nil,or_false] at hp
  rcases hp with rfl | rfl | rfl | rfl | rfl
  ·exact fun v W W2 ⟨Y,h1,h2⟩ hb=>⟨Y,h1,h2.below hb⟩
  ·exact fun v W W2 ⟨d,h1,h2⟩ hb=>⟨d,h1,h2.below hb⟩
  ·exact fun v W W2 ⟨Y,d,h1,h2,h3,h4⟩ hb=>⟨Y,d,h1,h2.below hb,h3.below hb,h4⟩
  ·exact fun v W W2 ⟨U,h1,h2⟩ hb=>⟨U,h1,h2.below hb⟩
  ·exact fun v W W2 ⟨U,h1,h2⟩ hb=>⟨U,h1,h2.below hb⟩)
 case ghP=>exact fun x y W W2 ⟨Y,d,h1,h2,h3,h4,h5⟩ hb=>⟨Y,d,h1,h2,h3.below hb,h4.below hb,h5⟩
 case gops=>
  refine⟨?_,?_,?_,?_,?_,?_,?_,?_,trivial⟩
  ·intro vs W hW hd hp
   refine leaves_free rfl ?_
   have hq:=hW.2
   obtain⟨y0,y1,y2,y3,y4,y5,y6⟩:W.cell? ⟨w.heap.size,0,none⟩=some (.slice aL k.l.length cL)∧W.cell? ⟨w.heap.size,1,none⟩=some (.int .i64 k.lo)∧W.cell? ⟨w.heap.size,2,none⟩=some (.int .i64 k.un)∧W.cell? ⟨w.heap.size,3,none⟩=some (.slice aS k.zs.length cS)∧W.cell? ⟨w.heap.size,4,none⟩=some (.slice aI init.length cI)∧W.cell? ⟨w.heap.size,5,none⟩=some (.int .i64 (k.each:Int))∧W.cell? ⟨w.heap.size,6,none⟩=some (.slice aR r7.length cR):=⟨hq.cell 0,hq.cell 1,hq.cell 2,hq.cell 3,hq.cell 4,hq.cell 5,hq.cell 6⟩
   clear hq hd hp
   go_simp
   exact⟨⟨rfl,fun e=>absurd e (by decide),fun e=>absurd e (by decide)⟩,Below.refl _ _⟩
  ·intro vs W hW hd hp
   refine leaves_free rfl ?_
   clear hd hp
   go_simp
   exact⟨⟨rfl,fun e=>absurd e (by decide),fun e=>absurd e (by decide)⟩,Below.refl _ _⟩
  ·intro vs W hW hd hp
   refine leaves_free rfl ?_
   have e0:vs 0=.agg #[.slice aL k.l.length cL,.int .i64 k.lo,.int .i64 k.un,.slice aS k.zs.length cS,.slice aI init.length cI,.int .i64 (k.each:Int),.slice aR r7.length cR]:=hd 0 (by decide)
   have e1:vs 1=.int .i64 (k.n:Int):=hd 1 (by decide)
   have hc:=HNw.out W hW.1
   have hsz:=hW.1.size
   clear hd hp
   go_simp
   refine hc.mono ?_
   rintro e W2 ⟨Y,rfl,h2,h3,h4⟩
   refine⟨_,rfl,⟨⟨Y,rfl,h2,fun i hi=>(h4 i hi).1⟩,fun _ y hy=>?_,fun e=>absurd e (by decide)⟩,h3⟩
   obtain⟨d,rfl,hd4⟩:∃ d,y=.slice (some ⟨d,0,none⟩) k.n k.n∧MkO base k.n d W:=hy
   refine⟨Y,d,rfl,rfl,⟨h2,fun i hi=>(h4 i hi).1⟩,hd4.below h3,fun hi=>?_⟩
   rcases(h4 d hi).2 with e | e
   ·obtain⟨c,hc2⟩:=own_bk h2.code e
    obtain⟨c2,hc3,_⟩:=(hd4.below h3).1.bk
    exact Bk.unlike hc2 hc3 (by decide) rfl
   ·have:=hd4.1.lt;omega
  ·intro vs W hW hd hp
   refine leaves_free rfl ?_
   clear hd hp
   go_simp
   exact⟨⟨rfl,fun e=>absurd e (by decide),fun e=>absurd e (by decide)⟩,Below.refl _ _⟩
  ·intro vs W hW hd hp
   refine leaves_free rfl ?_
   have e3:vs 3=.int .i64 (k.n:Int):=hd 3 (by decide)
   have hmk:=makeInts k.n (by omega) W
   have hA:Below W.heap.size W (W.alloc (.cells (madeCells #[.int .i64 0] k.n) 3)):=(Below.refl _ _).alloc (Nat.le_refl _) _
   have hI:=Its.made W k.n (by simp only[maxLen];omega)
   have hsz:=hW.1.size
   clear hd hp
   go_simp
   try simp only[hmk]
   refine⟨⟨⟨W.heap.size,rfl,hI,Nat.le_trans hb hsz⟩,fun e=>absurd e (by decide),fun _ x hx=>?_⟩,hA⟩
   obtain⟨Y,rfl,hY⟩:∃ Y:YP,x=.pointer (some ⟨Y.y,0,none⟩)∧NwO base k init r7 Y W:=hx
   exact⟨Y,W.heap.size,rfl,rfl,hY.below hA,⟨hI,Nat.le_trans hb hsz⟩,fun hi=>by have:=hY.1.lt hi;omega⟩
  ·intro vs W hW hd hp
   refine leaves_free rfl ?_
   obtain⟨Y,d,e2,e4,h2,h4,h5⟩:=hp (by decide) (by decide)
   clear hd
   go_simp
   exact⟨⟨⟨Y,d,rfl,h2,h4,h5⟩,fun e=>absurd e (by decide),fun e=>absurd e (by decide)⟩,Below.refl _ _⟩
  ·intro vs W hW hd hp
   refine leaves_free rfl ?_
   obtain⟨Y,d,e5,h2,h4,h5⟩:=hd 5 (by decide)
   have hA:Below W.heap.size W (W.alloc (.cells #[.pointer (some ⟨Y.y,0,none⟩),.slice (some ⟨d,0,none⟩) k.n k.n,.slice none 0 0,.int .i64 0] 86)):=(Below.refl _ _).alloc (Nat.le_refl _) _
   have hM:=Bk.made W 86 #[.pointer (some ⟨Y.y,0,none⟩),.slice (some ⟨d,0,none⟩) k.n k.n,.slice none 0 0,.int .i64 0]
   have hsz:=hW.1.size
   clear hd hp
   go_simp
   refine⟨⟨⟨⟨W.heap.size,Y,d,.slice none 0 0⟩,rfl,⟨hM,?_,World.ownsRow_nil _ _ _ _,h2.1.below hA,h5⟩,fun i hi=>?_⟩,fun e=>absurd e (by decide),fun e=>absurd e (by decide)⟩,hA⟩
   ·show Its _ d k.n (actL (fun _=>0) k.n)
    rw[actL_zero]
    exact(h4.below hA).1
   ·rcases hi with e | e | e | e
    ·rw[e];exact Nat.le_trans hb hsz
    ·rw[e];exact h4.2
    ·cases e
    ·exact h2.2 i e
  ·intro vs W hW hd hp
   refine leaves_free rfl ?_
   obtain⟨U,e6,h6⟩:=hd 6 (by decide)
   clear hd hp
   go_simp
   exact⟨⟨⟨U,rfl,h6⟩,fun e=>absurd e (by decide),fun e=>absurd e (by decide)⟩,Below.refl _ _⟩
 case gdone=>
  intro vs W hW hf hp
  obtain⟨U,e7,h7⟩:=hf 7 (by decide)
  simp only[e7]
  have hbl:=hW.1
  clear hf hp hW
  go_wp2
  go_ret
  exact⟨U,rfl,h7,hbl⟩
end
def busyJ (r:Rn):Nat→Bool
 | 0=>false
 | j+1=>busyJ r j || (r.act j != 0)
def midR (k:Lk)(r:Rn)(j:Nat):Rn:=(List.range j).foldl (turnOp k) r
def finR (k:Lk):Nat→Rn→Bool×Rn
 | 0,r=>(false,r)
 | f+1,r=>if busyJ (midR k r k.n) k.n=false then (true,midR k r k.n) else finR k f (midR k r k.n)
attribute [local irreducible] finR midR
end Go.Proofs.YthdgehcghklflaaGreatDoor
namespace Go.Proofs.YthdgehcghklflaaGreatDoor
set_option maxRecDepth 100000
def busyS (x:Srv):Nat→Bool
 | 0=>false
 | j+1=>busyS x j || ((x.r.act j != 0) || decide (0 < x.left j))
theorem busyS_keep {x x':Srv}:∀ {j:Nat},(∀ t,t < j→x'.r.act t=x.r.act t∧x'.left t=x.left t)→busyS x' j=busyS x j
 | 0,_=>rfl
 | j+1,h=>by
  unfold busyS
  rw[busyS_keep (fun t ht=>h t (by omega)),(h j (by omega)).1,(h j (by omega)).2]
theorem busyS_done {x:Srv}:∀ {n:Nat},busyS x n=false↔srvDone n x
 | 0=>⟨fun _ t ht=>by omega,fun _=>rfl⟩
 | n+1=>by
  unfold busyS
  rw[Bool.or_eq_false_iff,Bool.or_eq_false_iff,busyS_done]
  constructor
  ·rintro⟨h1,h2,h3⟩ t ht
   by_cases e:t=n
   ·subst e
    exact⟨by simpa using h2,by simpa using h3⟩
   ·exact h1 t (by omega)
  ·intro h
   exact⟨fun t ht=>h t (by omega),by simpa using (h n (by omega)).1,by simpa using (h n (by omega)).2⟩
theorem srvOp_other {k:Lk}{x:Srv}{t s:Nat}(h:s≠t):(srvOp k x t).r.act s=x.r.act s∧(srvOp k x t).left s=x.left s:=by
 unfold srvOp
 split
 ·exact⟨opR_act (by simp only;omega),updN_other h⟩
 ·exact⟨turn_act h,rfl⟩
def midS (k:Lk)(x:Srv)(j:Nat):Srv:=(List.range j).foldl (srvOp k) x
theorem midS_zero (k:Lk)(x:Srv):midS k x 0=x:=rfl
theorem midS_succ (k:Lk)(x:Srv)(j:Nat):midS k x (j+1)=srvOp k (midS k x j) j:=by
 unfold midS
 rw[List.range_succ,List.foldl_append];rfl
theorem busyS_succ (k:Lk)(x:Srv)(j:Nat):busyS (midS k x (j+1)) (j+1)=(busyS (midS k x j) j || (((midS k x (j+1)).r.act j != 0) || decide (0 < (midS k x (j+1)).left j))):=by
 show (busyS (midS k x (j+1)) j || _)=_
 rw[busyS_keep (fun t ht=>?_)]
 rw[midS_succ]
 exact srvOp_other (by omega)
def srvF (k:Lk):Nat→Srv→Srv
 | 0,x=>x
 | f+1,x=>if busyS (midS k x k.n) k.n=false∨(midS k x k.n).r.bad=true then midS k x k.n else srvF k f (midS k x k.n)
theorem srvF_succ (k:Lk)(f:Nat)(x:Srv):srvF k (f+1) x=if busyS (midS k x k.n) k.n=false∨(midS k x k.n).r.bad=true then midS k x k.n else srvF k f (midS k x k.n):=rfl
theorem srvF_zero (k:Lk)(x:Srv):srvF k 0 x=x:=rfl
theorem srvF_at {k:Lk}:∀ (i F:Nat) (x:Srv),i < F→(∀ i',(turnsP k.n (srvOp k) i' x).r.bad=false)→srvDone k.n (turnsP k.n (srvOp k) (i+1) x)→(∀ i',i' < i→¬ srvDone k.n (turnsP k.n (srvOp k) (i'+1) x))→srvF k F x=turnsP k.n (srvOp k) (i+1) x
 | i,0,x,h,_,_,_=>absurd h (Nat.not_lt_zero _)
 | 0,F+1,x,h,_,h1,h2=>by
  have e:busyS (midS k x k.n) k.n=false:=busyS_done.2 h1
  rw[srvF_succ,if_pos (.inl e)]
  rfl
 | i+1,F+1,x,h,hb,h1,h2=>by
  have e:¬ (busyS (midS k x k.n) k.n=false∨(midS k x k.n).r.bad=true):=by
   rintro(e | e)
   ·exact h2 0 (Nat.succ_pos _) (busyS_done.1 e)
   ·have:=hb 1
    rw[show (midS k x k.n).r.bad=(turnsP k.n (srvOp k) 1 x).r.bad from rfl,this] at e
    cases e
  rw[srvF_succ,if_neg e]
  exact srvF_at i F (midS k x k.n) (by omega) (fun i'=>hb (i'+1)) h1 (fun i' hi'=>h2 (i'+1) (by omega))
theorem srvF_ends {k:Lk}{x:Srv}{i F:Nat}(hF:i≤F)(h0:0 < F)(hb:∀ i',(turnsP k.n (srvOp k) i' x).r.bad=false)(h1:srvDone k.n (turnsP k.n (srvOp k) i x))(h2:∀ i',i' < i→¬ srvDone k.n (turnsP k.n (srvOp k) i' x)):srvF k F x=turnsP k.n (srvOp k) i x:=by
 match i,F,hF,h0 with
 | 0,F+1,_,_=>
  have e1:midS k x k.n=x:=srv_done_turn h1
  have e:busyS (midS k x k.n) k.n=false:=busyS_done.2 (by rw[e1];exact h1)
  rw[srvF_succ,if_pos (.inl e),e1]
  rfl
 | i+1,F,hF,_=>exact srvF_at i F x (by omega) hb h1 (fun i' hi'=>h2 (i'+1) (by omega))
section
variable {k:Lk}(S:Simple k)
theorem simple_servedF (hbad:∀ r,S.I r→r.bad=false)(hc:S.c≤99)(r:Rn)(h:S.I r)(hr:∀ t,r.act t=0)(calls:Nat):
 (srvF k (100 * (k.n+1) * (calls+1)) ⟨r,fun _=>calls,0⟩).got=k.n * calls∧S.I (srvF k (100 * (k.n+1) * (calls+1)) ⟨r,fun _=>calls,0⟩).r:=by
 obtain⟨i,h1,h2,h3,h4,h5⟩:=simple_served S r h hr calls
 have keep1:∀ r t,t < k.n→S.fin.I r→S.fin.I (opR k r ⟨1,t,false⟩):=fun r t _ h=>S.keep r _ h
 let P:=srvProg S.fin S.c keep1 (fun r t ht h ha=>simple_call S r t ht h ha) (fun r t h ht he=>S.idle r t h ht he)
 have hb:∀ i',(turnsP k.n (srvOp k) i' ⟨r,fun _=>calls,0⟩).r.bad=false:=fun i'=>hbad _ (prog_turns P i' ⟨r,fun _=>calls,0⟩ h)
 have e:=srvF_ends (F:=100 * (k.n+1) * (calls+1)) (Nat.le_trans h1 (turns_enough S.c k.n calls hc)) (Nat.mul_pos (Nat.mul_pos (by omega) (by omega)) (by omega)) hb h2 h3
 rw[e]
 exact⟨h4,h5⟩
end
theorem turn_len {k:Lk}(h:OkLk k)(r:Rn)(t:Nat):(turnOp k r t).l.length≤r.l.length+258:=op_len h _ _
theorem srvOp_len {k:Lk}(h:OkLk k)(x:Srv)(t:Nat):(srvOp k x t).r.l.length≤x.r.l.length+258:=by
 unfold srvOp
 split
 ·exact op_len h _ _
 ·exact turn_len h _ _
theorem srvOp_got {k:Lk}(x:Srv)(t:Nat):(srvOp k x t).got≤x.got+1:=by
 unfold srvOp
 split
 ·simp
 ·simp only;split <;> omega
section
variable {n:Nat}{st:Int}
theorem tk_check {l:List En}(h1:1≤n)(hn:n≤64)(h:Trace (n:Int) l):checkN n l=l.length:=by
 unfold checkN
 rw[if_pos ⟨by omega,by omega⟩]
 exact checkD_all h
theorem tk_start (h0:0≤st)(h1:st < 4294967296):TkI n st 0 (rn0 (tkK n) [st,st] (tkR n)):=tk_new n st h0 h1 (tkR n) (tkR_at n)
theorem tk_servedT (g1:1≤n)(hn:n≤64)(h0:0≤st)(h1:st < 4294967296)(calls:Nat):
 (srvF (tkK n) (100 * (n+1) * (calls+1)) ⟨rn0 (tkK n) [st,st] (tkR n),fun _=>calls,0⟩).got=n * calls∧
 (srvF (tkK n) (100 * (n+1) * (calls+1)) ⟨rn0 (tkK n) [st,st] (tkR n),fun _=>calls,0⟩).r.bad=false∧
 checkN n (srvF (tkK n) (100 * (n+1) * (calls+1)) ⟨rn0 (tkK n) [st,st] (tkR n),fun _=>calls,0⟩).r.l=(srvF (tkK n) (100 * (n+1) * (calls+1)) ⟨rn0 (tkK n) [st,st] (tkR n),fun _=>calls,0⟩).r.l.length:=by
 obtain⟨e,s,h⟩:=simple_servedF (tkS n st hn) (fun r ⟨s,h⟩=>h.bad) (by show 4≤99;omega) (rn0 (tkK n) [st,st] (tkR n)) ⟨0,tk_start h0 h1⟩ (fun t=>rfl) calls
 exact⟨e,h.bad,tk_check g1 hn h.tr⟩
end
end Go.Proofs.YthdgehcghklflaaGreatDoor
namespace Go.Proofs.YthdgehcghklflaaGreatDoor
set_option maxRecDepth 100000
open Go.ChangeShapes Go.WideShapes Go.ChangeAt Go.RowKit
theorem Ru.not_box {W:World}{U:RP}{k:Lk}{r:Rn}{b:Nat}{cs:Array Value}(h:Ru W U k r)(hb:Bk W b 37 cs):¬ U.Own k.n b:=by
 rintro(e | e | e | e)
 ·exact Bk.unlike h.ptr hb (by decide) e.symm
 ·obtain⟨cs2,hb2,_⟩:=h.acts.bk
  exact Bk.unlike hb2 hb (by decide) e.symm
 ·obtain⟨cs2,hb2⟩:=own_bk h.ents e
  exact Bk.unlike hb2 hb (by decide) rfl
 ·exact h.ey.not_own hb (by decide) (by decide) (by decide) (by decide) (by decide) (by decide) (by decide) (by decide) e
def RuO (base:Nat)(w:World)(k:Lk)(g bx:Nat)(cs:Array Value)(r:Rn)(W:World):Prop:=∃ U:RP,(Ru W U k r∧(∀ i,U.Own k.n i→base≤i)∧U.g=g)∧Within w W (fun i=>base≤i)∧Bk W bx 37 cs
section
variable {base:Nat}{w W W':World}{k:Lk}{g bx:Nat}{cs:Array Value}{r r':Rn}{U U':RP}
theorem RuO.c (h:RuO base w k g bx cs r W):W.cell? ⟨g,3,none⟩=some (.int .i64 (badI r.bad))∧∃ d,W.cell? ⟨g,1,none⟩=some (.slice (some ⟨d,0,none⟩) k.n k.n)∧∀ t,t < k.n→W.cell? ⟨d,t,none⟩=some (.int .i64 (r.act t)):=by
 obtain⟨U,⟨h1,h2,rfl⟩,h3⟩:=h
 exact⟨h1.c3,U.d,h1.c1,fun t ht=>h1.act ht⟩
theorem RuO.win (h:RuO base w k g bx cs r W):Within w W (fun i=>base≤i):=by
 obtain⟨U,h⟩:=h
 exact h.2.1
theorem RuO.ents (h:RuO base w k g bx cs r W)(hl:r.l.length≤100000000):∃ al capl,W.cell? ⟨g,2,none⟩=some (.slice al r.l.length capl)∧∀ W2,Below W.heap.size W W2→Calls Tryz.prog 36 #[.int .i64 k.n,.slice al r.l.length capl] W2 fun e w'=>e=.returned (.int .i64 (checkN k.n r.l:Nat))∧Below W2.heap.size W2 w':=by
 obtain⟨U,⟨h1,h2,rfl⟩,h3⟩:=h
 obtain⟨al,capl,elv,hm1,hm2,hS⟩:=h1.ents.is
 have c2:=h1.c2
 rw[elv] at c2
 exact⟨al,capl,c2,fun W2 hW=>rCheck k.n r.l al capl W2 (hS.below hW) hm1 hm2 (by omega)⟩
end
def lfL (f:Nat→Nat)(n:Nat):List Int:=actL (fun t=>(f t:Int)) n
theorem lfL_congr {f f':Nat→Nat}{n:Nat}(h:∀ t,t < n→f t=f' t):lfL f n=lfL f' n:=by
 unfold lfL actL
 apply List.map_congr_left
 intro t ht
 rw[h t (List.mem_range.1 ht)]
theorem lfL_set (f:Nat→Nat){n t:Nat}(h:t < n)(v:Nat):(lfL f n).set t (v:Int)=lfL (updN f t v) n:=by
 unfold lfL
 rw[actL_set _ h]
 congr 1
 funext s
 unfold updN
 by_cases e:s=t
 ·simp[e]
 ·simp[e]
def SvO (base:Nat)(w:World)(k:Lk)(g bx:Nat)(cs:Array Value)(lb:Nat)(x:Srv)(W:World):Prop:=
 ∃ U:RP,((Ru W U k x.r∧(∀ i,U.Own k.n i→base≤i)∧U.g=g)∧Within w W (fun i=>base≤i)∧Bk W bx 37 cs)∧Its W lb k.n (lfL x.left k.n)∧¬ U.Own k.n lb∧base≤lb
section
variable {base:Nat}{w W W':World}{k:Lk}{g bx lb:Nat}{cs:Array Value}{x:Srv}
theorem SvO.ruo (h:SvO base w k g bx cs lb x W):RuO base w k g bx cs x.r W:=by
 obtain⟨U,h1,_⟩:=h
 exact⟨U,h1⟩
theorem svo_op (h:SvO base w k g bx cs lb x W)(hb:base≤w.heap.size)(kd t' L:Int)(late:Bool)(hL:decide (L≠0)=late)(hl:x.r.l.length+258 < 100000000)(hs:StepOk k):
 Calls Tryz.prog 35 #[.pointer (some ⟨g,0,none⟩),.agg #[.int .i64 kd,.int .i64 t',.int .i64 L]] W fun e w'=>e=.returned (.tuple #[])∧SvO base w k g bx cs lb { x with r:=opR k x.r ⟨kd,t',late⟩ } w':=by
 obtain⟨U,h,hI,hn,hge⟩:=h
 have hc:=rOp h.1.1 kd t' L late hL hl hs
 rw[h.1.2.2] at hc
 refine hc.mono ?_
 rintro e w' ⟨h1,U2,h3,h4⟩
 obtain⟨⟨k1,k2,k3⟩,k4,k5⟩:=h
 refine⟨h1,U2,⟨⟨h3,fun i hi=>?_,h4.2.2.1.trans k3⟩,k4.then_ (h4.1.wide (S':=fun i=>base≤i) (fun i h _=>k2 i h)) (fun i h=>.inl h),k5.within h4.1 (k1.not_box k5)⟩,hI.within h4.1 hn,fun hi=>?_,hge⟩
 ·rcases h4.2.1 i hi with e | e
  ·exact k2 i e
  ·exact Nat.le_trans hb (Nat.le_trans k4.size e)
 ·rcases h4.2.1 lb hi with e | e
  ·exact hn e
  ·have:=hI.lt;omega
theorem SvO.put (h:SvO base w k g bx cs lb x W){t:Nat}(ht:t < k.n)(v:Nat):SvO base w k g bx cs lb { x with left:=updN x.left t v } (W.setCell ⟨lb,t,none⟩ (.int .i64 v)):=by
 obtain⟨U,⟨⟨k1,k2,k3⟩,k4,k5⟩,hI,hn,hge⟩:=h
 have hw:Within W (W.setCell ⟨lb,t,none⟩ (.int .i64 v)) (fun b=>b=lb):=(Within.refl W (fun b=>b=lb)).put lb t _ (.inl rfl)
 have h2:=hI.put t v
 rw[lfL_set _ ht] at h2
 refine⟨U,⟨⟨k1.kept hw (fun i hi e=>hn (e ▸ hi)),k2,k3⟩,k4.then_ (hw.wide (S':=fun i=>base≤i) (by rintro i rfl _;exact hge)) (fun i h=>.inl h),k5.within hw (fun e=>?_)⟩,h2,hn,hge⟩
 obtain⟨c,hc,_⟩:=hI.bk
 exact Bk.unlike k5 hc (by decide) e
theorem SvO.row (h:SvO base w k g bx cs lb x W){t:Nat}(ht:t < k.n):W.cell? ⟨lb,t,none⟩=some (.int .i64 (x.left t)):=by
 obtain⟨U,_,hI,_⟩:=h
 have:=hI.at_ (i:=t) (by unfold lfL;rw[actL_len];exact ht)
 unfold lfL at this
 rwa [actL_at _ ht] at this
theorem SvO.free (h:SvO base w k g bx cs lb x W):∀ i,W.frozen? ⟨lb,i,none⟩=false:=by
 obtain⟨U,_,hI,_⟩:=h
 obtain⟨c,hc,_⟩:=hI.bk
 exact Bk.free hc
theorem SvO.congr (h:SvO base w k g bx cs lb x W){x':Srv}(hr:x'.r=x.r)(hl:∀ t,t < k.n→x'.left t=x.left t):SvO base w k g bx cs lb x' W:=by
 obtain⟨U,h1,h2,h3⟩:=h
 refine⟨U,by rw[hr];exact h1,?_,h3⟩
 rw[lfL_congr hl]
 exact h2
theorem svo_made (h:RuO base w k g bx cs x.r W)(hb:base≤w.heap.size)(hn:k.n≤maxLen)(hz:∀ t,x.left t=0):SvO base w k g bx cs W.heap.size x (W.alloc (.cells (madeCells #[.int .i64 0] k.n) 3)):=by
 obtain⟨U,⟨k1,k2,k3⟩,k4,k5⟩:=h
 have hW:Below W.heap.size W (W.alloc (.cells (madeCells #[.int .i64 0] k.n) 3)):=(Below.refl _ _).alloc (Nat.le_refl _) _
 have hI:=Its.made W k.n hn
 refine⟨U,⟨⟨k1.below hW,k2,k3⟩,k4.then_ ((within_of_below hW).wide (S':=fun i=>base≤i) (by simp)) (fun i h=>.inl h),(hW.block _ (Bk.lt k5)).trans k5⟩,?_,fun hi=>by have:=k1.lt hi;omega,Nat.le_trans hb k4.size⟩
 have e:lfL x.left k.n=List.replicate k.n 0:=by
  unfold lfL
  rw[←actL_zero]
  congr 1
  funext t
  rw[hz t];rfl
 rw[e]
 exact hI
end
theorem srvOp_call {k:Lk}{x:Srv}{t:Nat}(h1:x.r.act t=0)(h2:0 < x.left t):srvOp k x t={ x with r:=opR k x.r ⟨1,t,false⟩,left:=updN x.left t (x.left t - 1) }:=by
 unfold srvOp
 rw[if_pos ⟨h1,h2⟩]
theorem srvOp_left {k:Lk}(x:Srv)(t s:Nat):(srvOp k x t).left s≤x.left s:=by
 unfold srvOp
 split
 ·show updN x.left t (x.left t - 1) s≤x.left s
  unfold updN
  by_cases e:s=t
  ·subst e;simp
  ·simp[e]
 ·exact Nat.le_refl _
theorem srvOp_free {k:Lk}{x:Srv}{t:Nat}(h1:x.r.act t=2):srvOp k x t={ x with r:=opR k x.r ⟨2,t,false⟩,got:=x.got+1 }:=by
 unfold srvOp turnOp
 rw[if_neg (by omega),if_pos h1,if_pos h1]
theorem srvOp_step {k:Lk}{x:Srv}{t:Nat}(h1:¬ (x.r.act t=0∧0 < x.left t))(h2:x.r.act t≠2):srvOp k x t={ x with r:=opR k x.r ⟨3,t,false⟩ }:=by
 unfold srvOp turnOp
 rw[if_neg h1,if_neg h2,if_neg h2]
 rfl
end Go.Proofs.YthdgehcghklflaaGreatDoor
