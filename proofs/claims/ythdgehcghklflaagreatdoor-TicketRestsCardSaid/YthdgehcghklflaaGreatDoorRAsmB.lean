import Derived.Test.YthdgehcghklflaaGreatDoorRMem
import Derived.Test.YthdgehcghklflaaGreatDoorRPrgM
import Derived.Deep.RegionHeld3
import Derived.Deep.CutBlock
set_option linter.unusedVariables false
namespace Go.Proofs.YthdgehcghklflaaGreatDoor
open Go.ChangeShapes Go.WideShapes Go.ChangeAt Go.RowKit
abbrev Rw:=Ins×List UInt8×Int
def rowC (r:Rw):List Value:=[.int .i64 r.1.op,.int .i64 r.1.d,.int .i64 r.1.s,.int .i64 r.1.t,.int .i64 r.1.u,.int .i64 r.1.a,.int .u32 r.1.k,.int .i64 r.1.pl,bs r.2.1,.int .i64 r.2.2]
theorem rowC_len (r:Rw):(rowC r).length=10:=rfl
def rowsC (rs:List Rw):List Value:=rs.flatMap rowC
theorem rowsC_snoc (rs:List Rw)(r:Rw):rowsC (rs++[r])=rowsC rs++rowC r:=by simp[rowsC]
theorem rowC_one (r:Rw):∀ u∈rowC r,u.oneCell'=true:=by
 intro u hu
 simp only[rowC,List.mem_cons,List.not_mem_nil,or_false] at hu
 rcases hu with rfl | rfl | rfl | rfl | rfl | rfl | rfl | rfl | rfl | rfl <;> rfl
def Dr (w:World)(p m lo:Nat)(ls:List (List UInt8×Int))(rs:List Rw):Prop:=
 ∃ v,Bk w p 137 #[v,.map (some m)]∧Labs w m ls∧w.ownsRow lo 204 10 v rs.length (rowsC rs)
section
variable {w w':World}{p m lo:Nat}{ls:List (List UInt8×Int)}{rs:List Rw}
theorem Dr.within {S:Nat→Prop}(h:Dr w p m lo ls rs)(k:Within w w' S)(hp:¬ S p)(hm:¬ S m)(hl:∀ b,S b→b < lo):Dr w' p m lo ls rs:=by
 obtain⟨v,h1,h2,h3⟩:=h
 refine⟨v,h1.within k hp,h2.within k hm,own_within h3 k fun g hg hs=>?_⟩
 have:=(World.ownsRow.lt h3 g hg).1
 have:=hl g hs
 omega
theorem Dr.lts (h:Dr w p m lo ls rs):p < w.heap.size∧m < w.heap.size:=by
 obtain⟨v,h1,h2,h3⟩:=h
 exact⟨h1.lt,h2.lt⟩
end
abbrev InDr (p m lo:Nat):Nat→Prop:=fun b=>b=p∨b=m∨lo≤b
section
variable {w:World}{p m lo:Nat}{ls:List (List UInt8×Int)}{rs:List Rw}
theorem cAddLabelNo (h:Dr w p m lo ls rs)(s:List UInt8)(hs:s.length≤1000000)(hk:labB ls s=true):
 Calls Tryz.prog 97 #[.pointer (some ⟨p,0,none⟩),bs s] w fun e w'=>e=.returned (.int .i64 2)∧w=w':=by
 obtain⟨v,h1,h2,h3⟩:=h
 have hl:=h2.look s hs
 rw[hk] at hl
 have c0:w.cell? ⟨p,0,none⟩=some v:=h1.cell 0
 have c1:w.cell? ⟨p,1,none⟩=some (.map (some m)):=h1.cell 1
 unfold bs
 go_enter Tryz.func97,Tryz.ntmps97
 go_wp2
 go_ret
 exact⟨rfl,rfl⟩
theorem cAddLabel (h:Dr w p m lo ls rs)(s:List UInt8)(hs:s.length≤1000000)(hn:ls.length < 1000000)(hr:rs.length≤64)(hk:labB ls s=false):
 Calls Tryz.prog 97 #[.pointer (some ⟨p,0,none⟩),bs s] w fun e w'=>e=.returned (.int .i64 0)∧Dr w' p m lo (ls++[(s,(rs.length:Int))]) rs∧Within w w' (InDr p m lo):=by
 obtain⟨v,h1,h2,h3⟩:=h
 have hl:=h2.look s hs
 rw[hk] at hl
 obtain⟨a,cap,rfl,hcap,hmax,_⟩:=own_is h3
 have c0:w.cell? ⟨p,0,none⟩=some (.slice a rs.length cap):=h1.cell 0
 have c1:w.cell? ⟨p,1,none⟩=some (.map (some m)):=h1.cell 1
 have h2d:Labs w.drew m ls:=h2.same rfl
 obtain⟨w1,hrun,hL,hO⟩:=h2d.add hn hs (p:=(rs.length:Int)) (by omega) (by omega) hk
 have hmp:=h2.not_bk h1
 have hw1:Within w w1 (fun b=>b=m):=by
  have:Within w.drew w1 (fun b=>b=m):=.of_grown hO (by rintro i e;cases e;exact .inl rfl)
  exact⟨this.os,this.tape,this.output,this.size,this.block⟩
 unfold bs
 go_enter Tryz.func97,Tryz.ntmps97
 go_wp2
 go_region
 go_wp2
 go_ret
 refine⟨rfl,⟨_,h1.within hw1 (fun e=>hmp e.symm),hL,own_within h3 hw1 fun g hg e=>?_⟩,hw1.wide fun i hi _=>.inr (.inl hi)⟩
 obtain⟨cs,hb⟩:=own_bk h3 hg
 exact h2.not_bk hb e.symm
def rvA (r:Rw):Value:=.agg #[.int .i64 r.1.op,.int .i64 r.1.d,.int .i64 r.1.s,.int .i64 r.1.t,.int .i64 r.1.u,.int .i64 r.1.a,.int .u32 r.1.k,.int .i64 r.1.pl,bs r.2.1,.int .i64 r.2.2]
theorem rowInfo:(Tryz.prog.info? 204).map (fun i=>(i.zero,i.size,i.bytes))=some (some (.agg #[.int .i64 0,.int .i64 0,.int .i64 0,.int .i64 0,.int .i64 0,.int .i64 0,.int .u32 0,.int .i64 0,bs [],.int .i64 0]),10,88):=by kernel_rfl
theorem cAddRowNo (h:Dr w p m lo ls rs)(hr:rs.length=64)(r:Rw):
 Calls Tryz.prog 99 #[.pointer (some ⟨p,0,none⟩),rvA r] w fun e w'=>e=.returned (.int .i64 9)∧Below w.heap.size w w':=by
 obtain⟨v,h1,h2,h3⟩:=h
 obtain⟨a,cap,rfl,hcap,hmax,_⟩:=own_is h3
 rw[hr] at h1
 obtain⟨⟨op,d,s,t,u,a',k,pl⟩,nm,ln⟩:=r
 have hb:Below w.heap.size w (w.alloc (.cells #[.int .i64 op,.int .i64 d,.int .i64 s,.int .i64 t,.int .i64 u,.int .i64 a',.int .u32 k,.int .i64 pl,.string ⟨nm.toArray⟩,.int .i64 ln] 204)):=(Below.refl _ _).alloc (Nat.le_refl _) _
 have c0:(w.alloc (.cells #[.int .i64 op,.int .i64 d,.int .i64 s,.int .i64 t,.int .i64 u,.int .i64 a',.int .u32 k,.int .i64 pl,.string ⟨nm.toArray⟩,.int .i64 ln] 204)).cell? ⟨p,0,none⟩=some (.slice a 64 cap):=(h1.alloc _).cell 0
 unfold rvA bs
 simp only
 go_enter Tryz.func99,Tryz.ntmps99
 go_wp2
 go_ret
 exact⟨rfl,hb⟩
theorem row_end {w W w':World}{v v2:Value}{o:Obj}{r:Rw}(hW:Within w W (fun _=>False))(q1:Bk W p 137 #[v,.map (some m)])(q2:Labs W m ls)(q3:W.ownsRow lo 204 10 v rs.length (rowsC rs))
 (hgr:(W.drew.alloc o).grownBy w' v.ownBlock) (hown:w'.ownsRow lo 204 10 v2 (rs.length+1) (rowsC rs++rowC r)):
 Dr (w'.setCell ⟨p,0,none⟩ v2) p m lo ls (rs++[r])∧Within w (w'.setCell ⟨p,0,none⟩ v2) (InDr p m lo):=by
 have hmp:=q2.not_bk q1
 have hA:Within W (W.drew.alloc o) (fun _=>False):=((Within.refl W _).draws 1).alloc o
 have hB:Within (W.drew.alloc o) w' (fun b=>some b=v.ownBlock):=.of_grown hgr (by rintro i e;exact .inl e.symm)
 have hC:Within W w' (fun b=>some b=v.ownBlock):=(hA.wide (by simp)).then_ hB (by rintro i e;exact .inl e)
 have q1':Bk w' p _ _:=q1.within hC fun e=>by
  obtain⟨cs,hb⟩:=own_bk q3 e.symm
  exact Bk.unlike hb q1 (by decide) rfl
 have q2':Labs w' m ls:=q2.within hC fun e=>by
  obtain⟨cs,hb⟩:=own_bk q3 e.symm
  exact q2.not_bk hb rfl
 refine⟨⟨v2,q1'.put 0 v2,q2'.within ((Within.refl w' (fun b=>b=p)).put p 0 v2 (.inl rfl)) hmp,?_⟩,?_⟩
 ·rw[rowsC_snoc,List.length_append]
  refine own_within hown ((Within.refl w' (fun b=>b=p)).put p 0 v2 (.inl rfl)) fun g hg e=>?_
  obtain⟨cs,hb⟩:=own_bk hown hg
  exact Bk.unlike hb q1' (by decide) e
 ·refine Within.put ((hW.wide (by simp)).then_ hC fun i e=>.inl (.inr (.inr ?_))) p 0 v2 (.inl (.inl rfl))
  exact(World.ownsRow.lt q3 i e.symm).1
set_option maxHeartbeats 1000000 in
theorem cAddRow (h:Dr w p m lo ls rs)(hr:rs.length < 64)(hlo:lo≤w.heap.size)(r:Rw):
 Calls Tryz.prog 99 #[.pointer (some ⟨p,0,none⟩),rvA r] w fun e w'=>e=.returned (.int .i64 0)∧Dr w' p m lo ls (rs++[r])∧Within w w' (InDr p m lo):=by
 obtain⟨v,h1,h2,h3⟩:=h
 obtain⟨a,cap,rfl,hcap,hmax,_⟩:=own_is h3
 obtain⟨⟨op,d,s,t,u,a',k,pl⟩,nm,ln⟩:=r
 have hw0:Within w (w.alloc (.cells #[.int .i64 op,.int .i64 d,.int .i64 s,.int .i64 t,.int .i64 u,.int .i64 a',.int .u32 k,.int .i64 pl,.string ⟨nm.toArray⟩,.int .i64 ln] 204)) (fun _=>False):=(Within.refl _ _).alloc _
 have b0:=Bk.made w 204 #[.int .i64 op,.int .i64 d,.int .i64 s,.int .i64 t,.int .i64 u,.int .i64 a',.int .u32 k,.int .i64 pl,.string ⟨nm.toArray⟩,.int .i64 ln]
 have q1:=h1.within hw0 (by simp)
 have q2:=h2.within hw0 (by simp)
 have q3:=own_within h3 hw0 (by simp)
 have hlt:((rs.length:Int)==64)=false:=by simp;omega
 have hst:Hid (w.heap.size < (w.alloc (.cells #[.int .i64 op,.int .i64 d,.int .i64 s,.int .i64 t,.int .i64 u,.int .i64 a',.int .u32 k,.int .i64 pl,.string ⟨nm.toArray⟩,.int .i64 ln] 204)).heap.size):=Lib.hid b0.lt
 unfold rvA bs
 simp only
 go_enter Tryz.func99,Tryz.ntmps99
 go_upto_region 1 with fail
 generalize hg:w.heap.size=g at *
 generalize w.alloc (.cells #[.int .i64 op,.int .i64 d,.int .i64 s,.int .i64 t,.int .i64 u,.int .i64 a',.int .u32 k,.int .i64 pl,.string ⟨nm.toArray⟩,.int .i64 ln] 204)=W at *
 have c0:W.cell? ⟨p,0,none⟩=some (.slice a rs.length cap):=q1.cell 0
 have f0:=q1.free 0
 have hne:∀ g,(Value.slice a rs.length cap).ownBlock=some g→g≠p:=fun g' hg' e=>by
  obtain⟨cs,hb⟩:=own_bk q3 hg'
  exact Bk.unlike hb q1 (by decide) e
 go_wp2
 obtain⟨e0,e1,e2,e3,e4,e5,e6,e7,e8,e9⟩:W.cell? ⟨g,0,none⟩=some (.int .i64 op)∧W.cell? ⟨g,1,none⟩=some (.int .i64 d)∧W.cell? ⟨g,2,none⟩=some (.int .i64 s)∧W.cell? ⟨g,3,none⟩=some (.int .i64 t)∧W.cell? ⟨g,4,none⟩=some (.int .i64 u)∧W.cell? ⟨g,5,none⟩=some (.int .i64 a')∧W.cell? ⟨g,6,none⟩=some (.int .u32 k)∧W.cell? ⟨g,7,none⟩=some (.int .i64 pl)∧W.cell? ⟨g,8,none⟩=some (.string ⟨nm.toArray⟩)∧W.cell? ⟨g,9,none⟩=some (.int .i64 ln):=
  ⟨b0.cell 0,b0.cell 1,b0.cell 2,b0.cell 3,b0.cell 4,b0.cell 5,b0.cell 6,b0.cell 7,b0.cell 8,b0.cell 9⟩
 have hA:(W.drew.alloc (.cells #[.int .i64 op,.int .i64 d,.int .i64 s,.int .i64 t,.int .i64 u,.int .i64 a',.int .u32 k,.int .i64 pl,.string ⟨nm.toArray⟩,.int .i64 ln] 204)).ownsRow lo 204 10 (.slice a rs.length cap) rs.length (rowsC rs):=World.ownsRow.alloc (w:=W.drew) q3 _
 have hN:=Bk.made W.drew 204 #[.int .i64 op,.int .i64 d,.int .i64 s,.int .i64 t,.int .i64 u,.int .i64 a',.int .u32 k,.int .i64 pl,.string ⟨nm.toArray⟩,.int .i64 ln]
 have hl2:lo≤(W.drew.alloc (.cells #[.int .i64 op,.int .i64 d,.int .i64 s,.int .i64 t,.int .i64 u,.int .i64 a',.int .u32 k,.int .i64 pl,.string ⟨nm.toArray⟩,.int .i64 ln] 204)).heap.size:=by
  have:=hst.out
  rw[World.size_alloc]
  show lo≤W.heap.size+1
  omega
 have HL2:=Lib.hid hl2
 have HN:=Lib.hid (news_bk hN)
 have HA:=Lib.hid hA
 have HNE:Hid (∀ b,some b=(Value.slice a rs.length cap).ownBlock→b≠p):=Lib.hid fun b e=>hne b e.symm
 have HQ:∀ (w':World),(W.drew.alloc (.cells #[.int .i64 op,.int .i64 d,.int .i64 s,.int .i64 t,.int .i64 u,.int .i64 a',.int .u32 k,.int .i64 pl,.string ⟨nm.toArray⟩,.int .i64 ln] 204)).grownBy w' (Value.slice a rs.length cap).ownBlock→Bk w' p 137 #[.slice a rs.length cap,.map (some m)]:=
  fun w' hg=>Bk.grown (Bk.alloc (w:=W.drew) q1 _) hg fun e=>hne p e.symm rfl
 have rb:∀ o,(W.alloc o).cell? ⟨p,0,none⟩=some (.slice a rs.length cap):=fun o=>(q1.alloc o).cell 0
 have HEND:Hid (∀ (w':World) (v2:Value),(W.drew.alloc (.cells #[.int .i64 op,.int .i64 d,.int .i64 s,.int .i64 t,.int .i64 u,.int .i64 a',.int .u32 k,.int .i64 pl,.string ⟨nm.toArray⟩,.int .i64 ln] 204)).grownBy w' (Value.slice a rs.length cap).ownBlock→w'.ownsRow lo 204 10 v2 (rs.length+1) (rowsC rs++rowC (⟨op,d,s,t,u,a',k,pl⟩,nm,ln))→
  Dr (w'.setCell ⟨p,0,none⟩ v2) p m lo ls (rs++[(⟨op,d,s,t,u,a',k,pl⟩,nm,ln)])∧Within w (w'.setCell ⟨p,0,none⟩ v2) (InDr p m lo)):=Lib.hid fun w' v2 hg ho=>row_end hw0 q1 q2 q3 hg ho
 clear hl2 hN hA
 go_region_law (refine step_own rfl (.tmp 15) (.tmp 17) 135 rfl _ 88 Tryz.underlying135 rowInfo rfl (by omega) (by omega) HA.out (by simp[Act.eval]) (rowC (⟨op,d,s,t,u,a',k,pl⟩,nm,ln)) rfl (rowC_one _) W.heap.size (by simp[Act.eval]) HN.out (by omega) HL2.out ?_;intro v' w' hown hgr hloc;have q1':=HQ w' hgr;have c0':w'.cell? ⟨p,0,none⟩=some (.slice a rs.length cap):=q1'.cell 0;have f0':=q1'.free 0;obtain⟨a2,cap2,rfl,_,_,_⟩:=own_is hown)
 all_goals (
  go_wp2
  go_ret
  exact⟨rfl,HEND.out _ _ hgr hown⟩)
def placeV (ls:List (List UInt8×Int))(s:List UInt8)(n:Int):Value:=if labB ls s=true∧labAt ls s≠n then .tuple #[.int .i64 (labAt ls s),.bool true] else .tuple #[.int .i64 0,.bool false]
theorem cPlace (h:Dr w p m lo ls rs)(s:List UInt8)(hs:s.length≤1000000):
 Calls Tryz.prog 100 #[.pointer (some ⟨p,0,none⟩),bs s] w fun e w'=>e=.returned (placeV ls s rs.length)∧w=w':=by
 obtain⟨v,h1,h2,h3⟩:=h
 have hl:=h2.look s hs
 obtain⟨a,cap,rfl,hcap,hmax,_⟩:=own_is h3
 have c0:w.cell? ⟨p,0,none⟩=some (.slice a rs.length cap):=h1.cell 0
 have c1:w.cell? ⟨p,1,none⟩=some (.map (some m)):=h1.cell 1
 have HE:Hid (placeV ls s rs.length=if labB ls s=true∧labAt ls s≠(rs.length:Int) then .tuple #[.int .i64 (labAt ls s),.bool true] else .tuple #[.int .i64 0,.bool false]):=Lib.hid rfl
 generalize placeV ls s rs.length=res at *
 generalize labAt ls s=x at *
 generalize labB ls s=q at *
 generalize rs.length=n at *
 unfold bs
 cases q with
 | false=>
  go_enter Tryz.func100,Tryz.ntmps100
  go_wp2
  go_ret2
  exact⟨by rw[HE.out];rfl,rfl⟩
 | true=>
  by_cases e:x=(n:Int)
  ·have e1:(x==(n:Int))=true:=by simpa using e
   have E:=Lib.hid e
   clear e
   go_enter Tryz.func100,Tryz.ntmps100
   go_wp2
   go_ret2
   exact⟨by rw[HE.out,if_neg (by simp[E.out])];rfl,rfl⟩
  ·have e1:(x==(n:Int))=false:=by simpa using e
   have E:=Lib.hid e
   clear e
   go_enter Tryz.func100,Tryz.ntmps100
   go_wp2
   go_ret2
   exact⟨by rw[HE.out,if_pos ⟨trivial,E.out⟩];rfl,rfl⟩
end
end Go.Proofs.YthdgehcghklflaaGreatDoor
