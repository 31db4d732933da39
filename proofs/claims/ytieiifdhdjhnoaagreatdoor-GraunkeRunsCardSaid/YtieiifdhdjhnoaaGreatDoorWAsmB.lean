import Derived.Test.YtieiifdhdjhnoaaGreatDoorWMem
import Derived.Test.YtieiifdhdjhnoaaGreatDoorWCell
import Derived.Deep.RegionHeld3
import Derived.Deep.CutBlock
set_option linter.unusedVariables false
set_option maxHeartbeats 1000000
open Go.Value renaming int->I,slice->V,pointer->P
open Go.IntKind renaming i64->Q,u32->N
open Option renaming none->O,some->Z
open Go.Obj renaming cells->T
open Go.Lib renaming hid->R
namespace Go.Proofs.YtieiifdhdjhnoaaGreatDoor
open Go.ChangeShapes Go.WideShapes Go.ChangeAt Go.RowKit
abbrev Rw:=aN×List UInt8×Int
def oQ (r:Rw):List Value:=[I Q r.1.op,I Q r.1.d,I Q r.1.s,I Q r.1.t,I Q r.1.u,I Q r.1.a,I N r.1.k,I Q r.1.pl,bs r.2.1,I Q r.2.2]
theorem xt (r:Rw):(oQ r).length=10:=rfl
def kW (rs:List Rw):List Value:=rs.flatMap oQ
theorem rZ (rs:List Rw)(r:Rw):kW (rs++[r])=kW rs++oQ r:=by simp[kW]
theorem xp (r:Rw):∀ u∈oQ r,u.oneCell'=true:=by
 intro u hu
 simp only[oQ,List.mem_cons,List.not_mem_nil,or_false] at hu
 rcases hu with rfl|rfl|rfl|rfl|rfl|rfl|rfl|rfl|rfl|rfl <;> rfl
def Dr (w:World)(p m lo:Nat)(ls:List (List UInt8×Int))(rs:List Rw):Prop:=
 ∃ v,Bk w p 135 #[v,.map (Z m)]/\ig w m ls/\w.ownsRow lo 202 10 v rs.length (kW rs)
section
variable {w w':World}{p m lo:Nat}{ls:List (List UInt8×Int)}{rs:List Rw}
theorem Dr.within {S:Nat->Prop}(h:Dr w p m lo ls rs)(k:ab w w' S)(hp:¬ S p)(hm:¬ S m)(hl:∀ b,S b->b<lo):Dr w' p m lo ls rs:=by
 obtain⟨v,h1,h2,h3⟩:=h
 refine⟨v,h1.within k hp,h2.within k hm,aq h3 k fun g hg hs=>?_⟩
 have:=(World.ownsRow.lt h3 g hg).1
 have:=hl g hs
 omega
theorem Dr.Gf (h:Dr w p m lo ls rs):p<w.heap.size/\m<w.heap.size:=by
 obtain⟨v,h1,h2,h3⟩:=h
 exact⟨h1.lt,h2.lt⟩
end
abbrev xb (p m lo:Nat):Nat->Prop:=fun b=>b=p\/b=m\/lo<=b
section
variable {w:World}{p m lo:Nat}{ls:List (List UInt8×Int)}{rs:List Rw}
theorem qB (h:Dr w p m lo ls rs)(s:List UInt8)(hs:s.length<=1000000)(hk:fB ls s=true):
 Calls Tryz.prog 98 #[P (Z ⟨p,0,O⟩),bs s] w fun e w'=>e=.returned (I Q 2)/\w=w':=by
 obtain⟨v,h1,h2,h3⟩:=h
 have hl:=h2.look s hs
 rw[hk] at hl
 have c0:w.cell? ⟨p,0,O⟩=Z v:=h1.cell 0
 have c1:w.cell? ⟨p,1,O⟩=Z (.map (Z m)):=h1.cell 1
 unfold bs
 go_enter Tryz.func98,Tryz.ntmps98
 go_wp2
 go_ret
 exact⟨rfl,rfl⟩
theorem wh (h:Dr w p m lo ls rs)(s:List UInt8)(hs:s.length<=1000000)(hn:ls.length<1000000)(hr:rs.length<=64)(hk:fB ls s=false):
 Calls Tryz.prog 98 #[P (Z ⟨p,0,O⟩),bs s] w fun e w'=>e=.returned (I Q 0)/\Dr w' p m lo (ls++[(s,(rs.length:Int))]) rs/\ab w w' (xb p m lo):=by
 obtain⟨v,h1,h2,h3⟩:=h
 have hl:=h2.look s hs
 rw[hk] at hl
 obtain⟨a,cap,rfl,hcap,hmax,_⟩:=bt h3
 have c0:w.cell? ⟨p,0,O⟩=Z (V a rs.length cap):=h1.cell 0
 have c1:w.cell? ⟨p,1,O⟩=Z (.map (Z m)):=h1.cell 1
 have h2d:ig w.drew m ls:=h2.same rfl
 obtain⟨w1,hrun,hL,hO⟩:=h2d.add hn hs (p:=(rs.length:Int)) (by omega) (by omega) hk
 have hmp:=h2.fx h1
 have hw1:ab w w1 (fun b=>b=m):=by
  have:ab w.drew w1 (fun b=>b=m):=.az hO (by rintro i e;cases e;exact .inl rfl)
  exact⟨this.os,this.tape,this.output,this.size,this.block⟩
 unfold bs
 go_enter Tryz.func98,Tryz.ntmps98
 go_wp2
 go_region
 go_wp2
 go_ret
 refine⟨rfl,⟨_,h1.within hw1 (fun e=>hmp e.symm),hL,aq h3 hw1 fun g hg e=>?_⟩,hw1.wide fun i hi _=>.inr (.inl hi)⟩
 obtain⟨cs,hb⟩:=bf h3 hg
 exact h2.fx hb e.symm
def FX (r:Rw):Value:=.agg #[I Q r.1.op,I Q r.1.d,I Q r.1.s,I Q r.1.t,I Q r.1.u,I Q r.1.a,I N r.1.k,I Q r.1.pl,bs r.2.1,I Q r.2.2]
theorem Ar:(Tryz.prog.info? 202).map (fun i=>(i.zero,i.size,i.bytes))=Z (Z (.agg #[I Q 0,I Q 0,I Q 0,I Q 0,I Q 0,I Q 0,I N 0,I Q 0,bs [],I Q 0]),10,88):=by kernel_rfl
theorem wg (h:Dr w p m lo ls rs)(hr:rs.length=64)(r:Rw):
 Calls Tryz.prog 100 #[P (Z ⟨p,0,O⟩),FX r] w fun e w'=>e=.returned (I Q 9)/\Below w.heap.size w w':=by
 obtain⟨v,h1,h2,h3⟩:=h
 obtain⟨a,cap,rfl,hcap,hmax,_⟩:=bt h3
 rw[hr] at h1
 obtain⟨⟨op,d,s,t,u,a',k,pl⟩,nm,ln⟩:=r
 have hb:Below w.heap.size w (w.alloc (T #[I Q op,I Q d,I Q s,I Q t,I Q u,I Q a',I N k,I Q pl,.string ⟨nm.toArray⟩,I Q ln] 202)):=(Below.refl _ _).alloc (Nat.le_refl _) _
 have c0:(w.alloc (T #[I Q op,I Q d,I Q s,I Q t,I Q u,I Q a',I N k,I Q pl,.string ⟨nm.toArray⟩,I Q ln] 202)).cell? ⟨p,0,O⟩=Z (V a 64 cap):=(h1.alloc _).cell 0
 unfold FX bs
 simp only
 go_enter Tryz.func100,Tryz.ntmps100
 go_wp2
 go_ret
 exact⟨rfl,hb⟩
theorem Aq {w W w':World}{v v2:Value}{o:Obj}{r:Rw}(hW:ab w W (fun _=>False))(q1:Bk W p 135 #[v,.map (Z m)])(q2:ig W m ls)(q3:W.ownsRow lo 202 10 v rs.length (kW rs))
 (hgr:(W.drew.alloc o).grownBy w' v.ownBlock) (hown:w'.ownsRow lo 202 10 v2 (rs.length+1) (kW rs++oQ r)):
 Dr (w'.setCell ⟨p,0,O⟩ v2) p m lo ls (rs++[r])/\ab w (w'.setCell ⟨p,0,O⟩ v2) (xb p m lo):=by
 have hmp:=q2.fx q1
 have hA:ab W (W.drew.alloc o) (fun _=>False):=((ab.refl W _).dg 1).alloc o
 have hB:ab (W.drew.alloc o) w' (fun b=>Z b=v.ownBlock):=.az hgr (by rintro i e;exact .inl e.symm)
 have hC:ab W w' (fun b=>Z b=v.ownBlock):=(hA.wide (by simp)).bp hB (by rintro i e;exact .inl e)
 have q1':Bk w' p _ _:=q1.within hC fun e=>by
  obtain⟨cs,hb⟩:=bf q3 e.symm
  exact Bk.aj hb q1 (by decide) rfl
 have q2':ig w' m ls:=q2.within hC fun e=>by
  obtain⟨cs,hb⟩:=bf q3 e.symm
  exact q2.fx hb rfl
 refine⟨⟨v2,q1'.put 0 v2,q2'.within ((ab.refl w' (fun b=>b=p)).put p 0 v2 (.inl rfl)) hmp,?_⟩,?_⟩
 ·rw[rZ,List.length_append]
  refine aq hown ((ab.refl w' (fun b=>b=p)).put p 0 v2 (.inl rfl)) fun g hg e=>?_
  obtain⟨cs,hb⟩:=bf hown hg
  exact Bk.aj hb q1' (by decide) e
 ·refine ab.put ((hW.wide (by simp)).bp hC fun i e=>.inl (.inr (.inr ?_))) p 0 v2 (.inl (.inl rfl))
  exact(World.ownsRow.lt q3 i e.symm).1
theorem BA (h:Dr w p m lo ls rs)(hr:rs.length<64)(hlo:lo<=w.heap.size)(r:Rw):
 Calls Tryz.prog 100 #[P (Z ⟨p,0,O⟩),FX r] w fun e w'=>e=.returned (I Q 0)/\Dr w' p m lo ls (rs++[r])/\ab w w' (xb p m lo):=by
 obtain⟨v,h1,h2,h3⟩:=h
 obtain⟨a,cap,rfl,hcap,hmax,_⟩:=bt h3
 obtain⟨⟨op,d,s,t,u,a',k,pl⟩,nm,ln⟩:=r
 have hw0:ab w (w.alloc (T #[I Q op,I Q d,I Q s,I Q t,I Q u,I Q a',I N k,I Q pl,.string ⟨nm.toArray⟩,I Q ln] 202)) (fun _=>False):=(ab.refl _ _).alloc _
 have b0:=Bk.made w 202 #[I Q op,I Q d,I Q s,I Q t,I Q u,I Q a',I N k,I Q pl,.string ⟨nm.toArray⟩,I Q ln]
 have q1:=h1.within hw0 (by simp)
 have q2:=h2.within hw0 (by simp)
 have q3:=aq h3 hw0 (by simp)
 have hlt:((rs.length:Int)==64)=false:=by simp;omega
 have hst:Hid (w.heap.size<(w.alloc (T #[I Q op,I Q d,I Q s,I Q t,I Q u,I Q a',I N k,I Q pl,.string ⟨nm.toArray⟩,I Q ln] 202)).heap.size):=R b0.lt
 unfold FX bs
 simp only
 go_enter Tryz.func100,Tryz.ntmps100
 go_upto_region 1 with fail
 generalize hg:w.heap.size=g at *
 generalize w.alloc (T #[I Q op,I Q d,I Q s,I Q t,I Q u,I Q a',I N k,I Q pl,.string ⟨nm.toArray⟩,I Q ln] 202)=W at *
 have c0:W.cell? ⟨p,0,O⟩=Z (V a rs.length cap):=q1.cell 0
 have f0:=q1.free 0
 have hne:∀ g,(Value.slice a rs.length cap).ownBlock=Z g->g≠p:=fun g' hg' e=>by
  obtain⟨cs,hb⟩:=bf q3 hg'
  exact Bk.aj hb q1 (by decide) e
 go_wp2
 obtain⟨e0,e1,e2,e3,e4,e5,e6,e7,e8,e9⟩:W.cell? ⟨g,0,O⟩=Z (I Q op)/\W.cell? ⟨g,1,O⟩=Z (I Q d)/\W.cell? ⟨g,2,O⟩=Z (I Q s)/\W.cell? ⟨g,3,O⟩=Z (I Q t)/\W.cell? ⟨g,4,O⟩=Z (I Q u)/\W.cell? ⟨g,5,O⟩=Z (I Q a')/\W.cell? ⟨g,6,O⟩=Z (I N k)/\W.cell? ⟨g,7,O⟩=Z (I Q pl)/\W.cell? ⟨g,8,O⟩=Z (.string ⟨nm.toArray⟩)/\W.cell? ⟨g,9,O⟩=Z (I Q ln):=
  ⟨b0.cell 0,b0.cell 1,b0.cell 2,b0.cell 3,b0.cell 4,b0.cell 5,b0.cell 6,b0.cell 7,b0.cell 8,b0.cell 9⟩
 have hA:(W.drew.alloc (T #[I Q op,I Q d,I Q s,I Q t,I Q u,I Q a',I N k,I Q pl,.string ⟨nm.toArray⟩,I Q ln] 202)).ownsRow lo 202 10 (V a rs.length cap) rs.length (kW rs):=World.ownsRow.alloc (w:=W.drew) q3 _
 have hN:=Bk.made W.drew 202 #[I Q op,I Q d,I Q s,I Q t,I Q u,I Q a',I N k,I Q pl,.string ⟨nm.toArray⟩,I Q ln]
 have hl2:lo<=(W.drew.alloc (T #[I Q op,I Q d,I Q s,I Q t,I Q u,I Q a',I N k,I Q pl,.string ⟨nm.toArray⟩,I Q ln] 202)).heap.size:=by
  have:=hst.out
  rw[World.size_alloc]
  show lo<=W.heap.size+1
  omega
 have HL2:=R hl2
 have HN:=R (gF hN)
 have HA:=R hA
 have HNE:Hid (∀ b,Z b=(Value.slice a rs.length cap).ownBlock->b≠p):=R fun b e=>hne b e.symm
 have HQ:∀ (w':World),(W.drew.alloc (T #[I Q op,I Q d,I Q s,I Q t,I Q u,I Q a',I N k,I Q pl,.string ⟨nm.toArray⟩,I Q ln] 202)).grownBy w' (Value.slice a rs.length cap).ownBlock->Bk w' p 135 #[V a rs.length cap,.map (Z m)]:=
  fun w' hg=>Bk.grown (Bk.alloc (w:=W.drew) q1 _) hg fun e=>hne p e.symm rfl
 have rb:∀ o,(W.alloc o).cell? ⟨p,0,O⟩=Z (V a rs.length cap):=fun o=>(q1.alloc o).cell 0
 have HEND:Hid (∀ (w':World) (v2:Value),(W.drew.alloc (T #[I Q op,I Q d,I Q s,I Q t,I Q u,I Q a',I N k,I Q pl,.string ⟨nm.toArray⟩,I Q ln] 202)).grownBy w' (Value.slice a rs.length cap).ownBlock->w'.ownsRow lo 202 10 v2 (rs.length+1) (kW rs++oQ (⟨op,d,s,t,u,a',k,pl⟩,nm,ln))->
  Dr (w'.setCell ⟨p,0,O⟩ v2) p m lo ls (rs++[(⟨op,d,s,t,u,a',k,pl⟩,nm,ln)])/\ab w (w'.setCell ⟨p,0,O⟩ v2) (xb p m lo)):=R fun w' v2 hg ho=>Aq hw0 q1 q2 q3 hg ho
 clear hl2 hN hA
 go_region_law (refine mU rfl (.tmp 15) (.tmp 17) 133 rfl _ 88 Tryz.underlying133 Ar rfl (by omega) (by omega) HA.out (by simp[Act.eval]) (oQ (⟨op,d,s,t,u,a',k,pl⟩,nm,ln)) rfl (xp _) W.heap.size (by simp[Act.eval]) HN.out (by omega) HL2.out ?_;intro v' w' hown hgr hloc;have q1':=HQ w' hgr;have c0':w'.cell? ⟨p,0,O⟩=Z (V a rs.length cap):=q1'.cell 0;have f0':=q1'.free 0;obtain⟨a2,cap2,rfl,_,_,_⟩:=bt hown)
 all_goals (
  go_wp2
  go_ret
  exact⟨rfl,HEND.out _ _ hgr hown⟩)
def fw (ls:List (List UInt8×Int))(s:List UInt8)(n:Int):Value:=if fB ls s=true/\em ls s≠n then .tuple #[I Q (em ls s),.bool true] else .tuple #[I Q 0,.bool false]
theorem Du (h:Dr w p m lo ls rs)(s:List UInt8)(hs:s.length<=1000000):
 Calls Tryz.prog 101 #[P (Z ⟨p,0,O⟩),bs s] w fun e w'=>e=.returned (fw ls s rs.length)/\w=w':=by
 obtain⟨v,h1,h2,h3⟩:=h
 have hl:=h2.look s hs
 obtain⟨a,cap,rfl,hcap,hmax,_⟩:=bt h3
 have c0:w.cell? ⟨p,0,O⟩=Z (V a rs.length cap):=h1.cell 0
 have c1:w.cell? ⟨p,1,O⟩=Z (.map (Z m)):=h1.cell 1
 have HE:Hid (fw ls s rs.length=if fB ls s=true/\em ls s≠(rs.length:Int) then .tuple #[I Q (em ls s),.bool true] else .tuple #[I Q 0,.bool false]):=R rfl
 generalize fw ls s rs.length=res at *
 generalize em ls s=x at *
 generalize fB ls s=q at *
 generalize rs.length=n at *
 unfold bs
 cases q with
 | false=>
  go_enter Tryz.func101,Tryz.ntmps101
  go_wp2
  go_ret2
  exact⟨by rw[HE.out];rfl,rfl⟩
 | true=>
  by_cases e:x=(n:Int)
  ·have e1:(x==(n:Int))=true:=by simpa using e
   have E:=R e
   clear e
   go_enter Tryz.func101,Tryz.ntmps101
   go_wp2
   go_ret2
   exact⟨by rw[HE.out,if_neg (by simp[E.out])];rfl,rfl⟩
  ·have e1:(x==(n:Int))=false:=by simpa using e
   have E:=R e
   clear e
   go_enter Tryz.func101,Tryz.ntmps101
   go_wp2
   go_ret2
   exact⟨by rw[HE.out,if_pos ⟨trivial,E.out⟩];rfl,rfl⟩
end
