import Derived.Test.YthdgehcghklflaaGreatDoorRRuE
set_option linter.unusedVariables false
namespace Go.Proofs.YthdgehcghklflaaGreatDoor
set_option maxRecDepth 100000
open Go.ChangeShapes Go.WideShapes Go.ChangeAt Go.RowKit
section
variable {w:World}{k:Lk}
set_option maxHeartbeats 4000000 in
theorem rRests {base:Nat}{v:Value}{init r7:List Int}(ops:List OpC)(cap1:Nat)(ab:Option Addr)(hb:base≤w.heap.size)(hk:OkLk k)(he:k.each=0)(hv:Rv base w v ⟨k.l,k.lo,k.un⟩ k.zs init r7 k.each)(hi:init.length=tot k.zs)(hiu:U32s init)(hr:r7.length=k.n)(hru:U32s r7)
 (ho:OpsS base w ab ops) (hlen:ops.length≤3000) (t lock unlock:Nat) (ht:t < k.n) (hlo:lock≤100) (hun:unlock≤100) (r2 r3 r4:Rn)
 (e2:finR k 5000 (runR k (rn0 k init r7) (ops.map OpC.op))=(true,r2)) (b2:r2.bad=false) (e3:stepsR k t lock (opR k r2 ⟨1,t,false⟩)=r3) (a3:r3.act t=2)
 (e4:stepsR k t unlock (opR k r3 ⟨2,t,false⟩)=r4) (b4:r4.bad=false) (a4:r4.act t=0) (c4:checkN k.n r4.l=r4.l.length) (hs:StepOk k):
 Calls Tryz.prog 18 #[v,.int .i64 k.n,.slice ab ops.length cap1,.int .i64 t,.int .i64 lock,.int .i64 unlock] w fun e w'=>e=.returned (.bool true)∧Within w w' (fun i=>base≤i):=by
 have HBg:Hid (∀ W,Below w.heap.size w W→Calls Tryz.prog 34 #[v,.int .i64 k.n] W fun e w'=>∃ U:RP,e=.returned (.pointer (some ⟨U.g,0,none⟩))∧BgO base k init r7 U w'∧Below W.heap.size W w'):=Lib.hid (fun W hW=>rBegin (Nat.le_trans hb hW.size) hk (hv.below hW) hi hiu hr hru)
 have HRL:Hid (∀ j,j≤ops.length→(runR k (rn0 k init r7) ((ops.take j).map OpC.op)).l.length≤258 * 3000):=Lib.hid (fun j hj=>by
  have:=runR_len hk ((ops.take j).map OpC.op) (rn0 k init r7)
  have h0:(rn0 k init r7).l.length=0:=rfl
  rw[h0,List.length_map,List.length_take] at this
  have h2:min j ops.length≤3000:=by omega
  have h3:258 * min j ops.length≤258 * 3000:=Nat.mul_le_mul_left _ h2
  omega)
 have HTk:Hid ((ops.take ops.length).map OpC.op=ops.map OpC.op):=Lib.hid (by rw[List.take_length])
 have HR2:Hid (r2.l.length≤84000000):=Lib.hid (by
  have h1:=finR_len hk 5000 (runR k (rn0 k init r7) (ops.map OpC.op))
  have h2:=HRL.out ops.length (Nat.le_refl _)
  rw[HTk.out] at h2
  rw[e2] at h1
  simp only at h1
  have h3:258 * k.n * 5000≤258 * 64 * 5000:=Nat.mul_le_mul_right _ (Nat.mul_le_mul_left _ hk.n64)
  omega)
 have HA:Hid (∀ j,j≤lock→(stepsR k t j (opR k r2 ⟨1,t,false⟩)).l.length≤84000000+258 * 101):=Lib.hid (fun j hj=>by
  have h1:=stepsR_len hk t (opR k r2 ⟨1,t,false⟩) j
  have h2:=op_len hk r2 ⟨1,t,false⟩
  have h3:=HR2.out
  omega)
 have HC:Hid (∀ j,j≤unlock→(stepsR k t j (opR k r3 ⟨2,t,false⟩)).l.length≤84000000+258 * 202):=Lib.hid (fun j hj=>by
  have h1:=stepsR_len hk t (opR k r3 ⟨2,t,false⟩) j
  have h2:=op_len hk r3 ⟨2,t,false⟩
  have h3:=HA.out lock (Nat.le_refl _)
  rw[e3] at h3
  omega)
 have HSn:=Lib.hid (fun j h=>runR_snoc k (rn0 k init r7) ops j h)
 have HSA:=Lib.hid (fun j=>stepsR_succ k t j (opR k r2 ⟨1,t,false⟩))
 have HSC:=Lib.hid (fun j=>stepsR_succ k t j (opR k r3 ⟨2,t,false⟩))
 have HZA:Hid (stepsR k t 0 (opR k r2 ⟨1,t,false⟩)=opR k r2 ⟨1,t,false⟩):=Lib.hid rfl
 have HZC:Hid (stepsR k t 0 (opR k r3 ⟨2,t,false⟩)=opR k r3 ⟨2,t,false⟩):=Lib.hid rfl
 have HE:=Lib.hid (And.intro e2 (And.intro e3 e4))
 have HF:=Lib.hid (And.intro b2 (And.intro a3 (And.intro b4 (And.intro a4 c4))))
 have hn64:=hk.n64
 have HHb:=Lib.hid hb
 obtain⟨sl,aS,cS,aI,cI,aR,cR,rfl,hsl,-⟩:=hv
 simp only at hsl HBg ⊢
 obtain⟨aL,cL,rfl,_⟩:=own_is hsl
 have HO:=Lib.hid ho
 have e0:((k.each:Nat):Int)=0:=by rw[he];rfl
 rw[e0] at HBg ⊢
 have hbz:Below w.heap.size w (w.alloc (.cells #[.slice aL k.l.length cL,.int .i64 k.lo,.int .i64 k.un,.slice aS k.zs.length cS,.slice aI init.length cI,.int .i64 0,.slice aR r7.length cR] 37)):=(Below.refl _ _).alloc (Nat.le_refl _) _
 have hB:=Bk.made w 37 #[.slice aL k.l.length cL,.int .i64 k.lo,.int .i64 k.un,.slice aS k.zs.length cS,.slice aI init.length cI,.int .i64 0,.slice aR r7.length cR]
 clear hsl hk hi hiu hr hru ho e2 e3 e4 b2 a3 b4 a4 c4 he e0
 generalize hrn:rn0 k init r7=rn at *
 go_enter Tryz.func18,Tryz.ntmps18
 go_upto_region 1 with fail
 generalize w.alloc (.cells #[.slice aL k.l.length cL,.int .i64 k.lo,.int .i64 k.un,.slice aS k.zs.length cS,.slice aI init.length cI,.int .i64 0,.slice aR r7.length cR] 37)=z at *
 obtain⟨y0,y1,y2,y3,y4,y5,y6⟩:z.cell? ⟨w.heap.size,0,none⟩=some (.slice aL k.l.length cL)∧z.cell? ⟨w.heap.size,1,none⟩=some (.int .i64 k.lo)∧z.cell? ⟨w.heap.size,2,none⟩=some (.int .i64 k.un)∧z.cell? ⟨w.heap.size,3,none⟩=some (.slice aS k.zs.length cS)∧z.cell? ⟨w.heap.size,4,none⟩=some (.slice aI init.length cI)∧z.cell? ⟨w.heap.size,5,none⟩=some (.int .i64 0)∧z.cell? ⟨w.heap.size,6,none⟩=some (.slice aR r7.length cR):=⟨hB.cell 0,hB.cell 1,hB.cell 2,hB.cell 3,hB.cell 4,hB.cell 5,hB.cell 6⟩
 have HC1:=Lib.hid (HBg.out z hbz)
 clear HBg
 go_wp2_with fail
 refine HC1.out.mono ?_
 rintro e w2 ⟨U,rfl,hU,hw2⟩
 clear HC1 y0 y1 y2 y3 y4 y5 y6
 have h2:=hbz.trans (hw2.mono hbz.size)
 obtain⟨g,hg⟩:∃ g,U.g=g:=⟨_,rfl⟩
 rw[hg]
 obtain⟨bx,hbx⟩:∃ bx,w.heap.size=bx:=⟨_,rfl⟩
 have HR0:Hid (RuO base w k g bx #[.slice aL k.l.length cL,.int .i64 k.lo,.int .i64 k.un,.slice aS k.zs.length cS,.slice aI init.length cI,.int .i64 0,.slice aR r7.length cR] rn w2):=Lib.hid ⟨U,⟨by rw[←hrn];exact hU.1,hU.2,hg⟩,(within_of_below h2).wide (S':=fun i=>base≤i) (by simp),by rw[←hbx];exact(hw2.block _ (Bk.lt hB)).trans hB⟩
 rw[hbx]
 clear hU hB hbz hw2 hg h2
 go_wp2
 go_loopw [24] (fun x wr=>∃ (j:Nat),x=.int .i64 j∧j≤ops.length∧Hid (RuO base w k g bx #[.slice aL k.l.length cL,.int .i64 k.lo,.int .i64 k.un,.slice aS k.zs.length cS,.slice aI init.length cI,.int .i64 0,.slice aR r7.length cR] (runR k rn ((ops.take j).map OpC.op)) wr)) (fun x _=>ops.length - (intOf x).toNat)
 case atStart=>exact⟨0,rfl,Nat.zero_le _,HR0⟩
 case round=>
  clear HR0
  obtain⟨j,rfl,hj,HR⟩:=hrel
  by_cases hlt:j < ops.length
  ·have hji:(j:Int) < ops.length:=by omega
   have hS:=HO.out.within HR.out.win HHb.out (fun i h=>h)
   obtain⟨b,off,rfl,hbb,hcs⟩:=hS (by omega)
   obtain⟨c0,c1,c2⟩:=hcs j ops[j] (List.getElem?_eq_getElem hlt)
   have hN:=HSn.out j hlt
   try rw[hrn] at hN
   have hlr:=HRL.out j hj
   try rw[hrn] at hlr
   have HOpr:Hid (∀ W,Below wr.heap.size wr W→Calls Tryz.prog 35 #[.pointer (some ⟨g,0,none⟩),.agg #[.int .i64 ops[j].kd,.int .i64 ops[j].t,.int .i64 ops[j].L]] W fun e w'=>e=.returned (.tuple #[])∧RuO base w k g bx #[.slice aL k.l.length cL,.int .i64 k.lo,.int .i64 k.un,.slice aS k.zs.length cS,.slice aI init.length cI,.int .i64 0,.slice aR r7.length cR] (runR k rn ((ops.take (j+1)).map OpC.op)) w'):=Lib.hid (fun W hW=>by
    rw[hN]
    exact ruo_op (HR.out.below HHb.out hW) HHb.out ops[j].kd ops[j].t ops[j].L (decide (ops[j].L≠0)) rfl (by omega) hs)
   generalize ops[j]=x at *
   obtain⟨kd,tt,L⟩:=x
   simp only at c0 c1 c2 HOpr
   clear hS hcs hN hlr HR
   go_upto_region 5 with fail
   have hb5:Below wr.heap.size wr (wr.alloc (.cells #[.int .i64 kd,.int .i64 tt,.int .i64 L] 61)):=(Below.refl _ _).alloc (Nat.le_refl _) _
   have hB5:=Bk.made wr 61 #[.int .i64 kd,.int .i64 tt,.int .i64 L]
   have hc5:=HOpr.out _ hb5
   clear HOpr hb5
   generalize wr.alloc (.cells #[.int .i64 kd,.int .i64 tt,.int .i64 L] 61)=z5 at *
   obtain⟨e0,e1,e2⟩:z5.cell? ⟨wr.heap.size,0,none⟩=some (.int .i64 kd)∧z5.cell? ⟨wr.heap.size,1,none⟩=some (.int .i64 tt)∧z5.cell? ⟨wr.heap.size,2,none⟩=some (.int .i64 L):=⟨hB5.cell 0,hB5.cell 1,hB5.cell 2⟩
   have HC5:=Lib.hid hc5
   clear hc5 hB5 c0 c1 c2
   go_wp2_with fail
   refine HC5.out.mono ?_
   rintro e w5 ⟨rfl,h3⟩
   have N3:=Lib.hid h3
   clear h3 HC5 e0 e1 e2
   go_wp2
   go_roundw
   case rel=>exact⟨j+1,by go_num,by omega,N3⟩
   case measure=>simp[intOf];omega
  ·obtain rfl:j=ops.length:=by omega
   have HFn:Hid (Calls Tryz.prog 37 #[.pointer (some ⟨g,0,none⟩)] wr fun e w'=>e=.returned (.bool true)∧RuO base w k g bx #[.slice aL k.l.length cL,.int .i64 k.lo,.int .i64 k.un,.slice aS k.zs.length cS,.slice aI init.length cI,.int .i64 0,.slice aR r7.length cR] r2 w'):=Lib.hid (by
    have h0:=HR.out
    rw[HTk.out] at h0
    have h1:=ruo_finish h0 HHb.out (by
     have h9:=HRL.out ops.length (Nat.le_refl _);rw[HTk.out] at h9;try rw[hrn] at h9
     omega) hs
    have h8:=HE.out.1
    try rw[hrn] at h8
    rw[h8] at h1
    exact h1)
   clear HR
   go_wp2_with fail
   refine HFn.out.mono ?_
   rintro e w3 ⟨rfl,h3⟩
   obtain⟨c3,-⟩:=h3.c
   rw[HF.out.1] at c3
   replace c3:w3.cell? ⟨g,3,none⟩=some (.int .i64 0):=c3
   have hbox:=h3.box
   have y5:w3.cell? ⟨bx,5,none⟩=some (.int .i64 0):=hbox.cell 5
   have H3:=Lib.hid h3
   clear h3 HFn hbox
   go_upto_region 9 with fail
   clear c3
   go_quiet (fail)
   clear y5
   have h4:=H3.out.below HHb.out (below_drawnU w3 nq)
   generalize w3.drewN nq=w4 at *
   have HO1:=Lib.hid (ruo_op h4 HHb.out 1 t 0 false rfl (by have h9:=HR2.out;omega) hs)
   clear h4 H3
   go_wp2_with fail
   refine HO1.out.mono ?_
   rintro e w5 ⟨rfl,h5⟩
   have HA0:=Lib.hid h5
   clear h5 HO1
   go_wp2
   go_loopw [17] (fun x wr=>∃ (j:Nat),x=.int .i64 j∧j≤lock∧Hid (RuO base w k g bx #[.slice aL k.l.length cL,.int .i64 k.lo,.int .i64 k.un,.slice aS k.zs.length cS,.slice aI init.length cI,.int .i64 0,.slice aR r7.length cR] (stepsR k t j (opR k r2 ⟨1,t,false⟩)) wr)) (fun x _=>lock - (intOf x).toNat)
   case atStart=>exact⟨0,rfl,Nat.zero_le _,Lib.hid (by rw[HZA.out];exact HA0.out)⟩
   case round=>
    clear HA0
    obtain⟨j,rfl,hj,HR⟩:=hrel
    by_cases hlt:j < lock
    ·have hji:(j:Int) < lock:=by omega
     have HO2:Hid (Calls Tryz.prog 35 #[.pointer (some ⟨g,0,none⟩),.agg #[.int .i64 3,.int .i64 t,.int .i64 0]] wr fun e w'=>e=.returned (.tuple #[])∧RuO base w k g bx #[.slice aL k.l.length cL,.int .i64 k.lo,.int .i64 k.un,.slice aS k.zs.length cS,.slice aI init.length cI,.int .i64 0,.slice aR r7.length cR] (stepsR k t (j+1) (opR k r2 ⟨1,t,false⟩)) w'):=Lib.hid (by
      rw[HSA.out j]
      exact ruo_op HR.out HHb.out 3 t 0 false rfl (by have h9:=HA.out j hj;omega) hs)
     clear HR
     go_wp2_with fail
     refine HO2.out.mono ?_
     rintro e w6 ⟨rfl,h6⟩
     have H6:=Lib.hid h6
     clear h6 HO2
     go_wp2
     go_roundw
     case rel=>exact⟨j+1,by go_num,by omega,H6⟩
     case measure=>simp[intOf];omega
    ·obtain rfl:j=lock:=by omega
     have h6:=HR.out
     rw[HE.out.2.1] at h6
     obtain⟨-,d,c1,ca⟩:=h6.c
     have hx:=ca t ht
     rw[HF.out.2.1] at hx
     have HO3:=Lib.hid (ruo_op h6 HHb.out 2 t 0 false rfl (by have h9:=HA.out j (Nat.le_refl _);rw[HE.out.2.1] at h9;omega) hs)
     clear h6 ca HR
     go_wp2_with fail
     refine HO3.out.mono ?_
     rintro e w7 ⟨rfl,h7⟩
     have HC0:=Lib.hid h7
     clear h7 HO3 c1 hx
     go_wp2
     go_loopw [18] (fun x wr=>∃ (i:Nat),x=.int .i64 i∧i≤unlock∧Hid (RuO base w k g bx #[.slice aL k.l.length cL,.int .i64 k.lo,.int .i64 k.un,.slice aS k.zs.length cS,.slice aI init.length cI,.int .i64 0,.slice aR r7.length cR] (stepsR k t i (opR k r3 ⟨2,t,false⟩)) wr)) (fun x _=>unlock - (intOf x).toNat)
     case atStart=>exact⟨0,rfl,Nat.zero_le _,Lib.hid (by rw[HZC.out];exact HC0.out)⟩
     case round=>
      clear HC0
      obtain⟨i,rfl,hi,HR⟩:=hrel
      by_cases hlt2:i < unlock
      ·have hji:(i:Int) < unlock:=by omega
       have HO2:Hid (Calls Tryz.prog 35 #[.pointer (some ⟨g,0,none⟩),.agg #[.int .i64 3,.int .i64 t,.int .i64 0]] wr fun e w'=>e=.returned (.tuple #[])∧RuO base w k g bx #[.slice aL k.l.length cL,.int .i64 k.lo,.int .i64 k.un,.slice aS k.zs.length cS,.slice aI init.length cI,.int .i64 0,.slice aR r7.length cR] (stepsR k t (i+1) (opR k r3 ⟨2,t,false⟩)) w'):=Lib.hid (by
        rw[HSC.out i]
        exact ruo_op HR.out HHb.out 3 t 0 false rfl (by have h9:=HC.out i hi;omega) hs)
       clear HR
       go_wp2_with fail
       refine HO2.out.mono ?_
       rintro e w8 ⟨rfl,h8⟩
       have H8:=Lib.hid h8
       clear h8 HO2
       go_wp2
       go_roundw
       case rel=>exact⟨i+1,by go_num,by omega,H8⟩
       case measure=>simp[intOf];omega
      ·obtain rfl:i=unlock:=by omega
       have h8:=HR.out
       rw[HE.out.2.2] at h8
       have hl4:r4.l.length≤100000000:=by have h9:=HC.out i (Nat.le_refl _);rw[HE.out.2.2] at h9;omega
       obtain⟨al,capl,c2,hch⟩:=h8.ents hl4
       obtain⟨c3,d2,c1,ca⟩:=h8.c
       have hx:=ca t ht
       rw[HF.out.2.2.2.1] at hx
       rw[HF.out.2.2.1] at c3
       replace c3:wr.cell? ⟨g,3,none⟩=some (.int .i64 0):=c3
       have HF2:Hid (∀ q:Grw wr,Calls Tryz.prog 36 #[.int .i64 k.n,.slice al r4.l.length capl] q.x fun e w'=>e=.returned (.int .i64 (r4.l.length:Nat))∧Below q.x.heap.size q.x w'):=Lib.hid (fun q=>by
        have h9:=hch q.x q.ok
        rw[HF.out.2.2.2.2] at h9
        exact h9)
       have g3:∀ q:Grw wr,q.x.cell? ⟨g,3,none⟩=some (.int .i64 0):=fun q=>q.cell c3
       have g2:∀ q:Grw wr,q.x.cell? ⟨g,2,none⟩=some (.slice al r4.l.length capl):=fun q=>q.cell c2
       have g1:∀ q:Grw wr,q.x.cell? ⟨g,1,none⟩=some (.slice (some ⟨d2,0,none⟩) k.n k.n):=fun q=>q.cell c1
       have gx:∀ q:Grw wr,q.x.cell? ⟨d2,t,none⟩=some (.int .i64 0):=fun q=>q.cell hx
       have HW:=Lib.hid h8.win
       clear c1 c2 c3 hx ca hch h8 HR
       go_upto_region 24 with fail
       refine wp_region_grow (by kernel_rfl) (by kernel_rfl) ?_
       repeat (go_big_quiet_step ((go_at_call 36;with_reducible exact grw_call (HF2.out _))))
       refine wpQuiet_nil ?_
       rintro y ⟨q,rfl⟩
       have hfin:=HW.out.then_ ((within_of_below q.ok).wide (S':=fun i=>base≤i) (by simp)) (fun i h=>.inl h)
       clear g1 g2 g3 gx HF2
       go_wp2
       go_ret
       exact⟨rfl,hfin⟩
end
end Go.Proofs.YthdgehcghklflaaGreatDoor
