import Derived.Test.YtbgaaclplgghcaaGreatDoorQMem
import Derived.Test.YtbgaaclplgghcaaGreatDoorQInstB
import Derived.Deep.RegionHeld3
import Derived.Deep.CutBlock
set_option linter.unusedVariables false
set_option maxHeartbeats 1000000
open Go.Value renaming int->I,slice->V,pointer->P
open Go.IntKind renaming i64->Q,u32->N
open Option renaming none->O,some->Z
open Go.Obj renaming cells->T
open Go.Lib renaming hid->R
namespace Go.Proofs.YtbgaaclplgghcaaGreatDoor
open Go.ChangeShapes Go.WideShapes Go.ChangeAt Go.RowKit
abbrev Rw:=aP×List UInt8×Int
def qm (r:Rw):List Value:=[I Q r.1.op,I Q r.1.d,I Q r.1.s,I Q r.1.t,I Q r.1.u,I Q r.1.a,I N r.1.k,I Q r.1.pl,bs r.2.1,I Q r.2.2]
theorem Aq (r:Rw):(qm r).length=10:=rfl
def mb (rs:List Rw):List Value:=rs.flatMap qm
theorem ux (rs:List Rw)(r:Rw):mb (rs++[r])=mb rs++qm r:=by simp[mb]
theorem Ap (r:Rw):∀ u∈qm r,u.oneCell'=true:=by
 intro u hu
 simp only[qm,List.mem_cons,List.not_mem_nil,or_false] at hu
 rcases hu with rfl|rfl|rfl|rfl|rfl|rfl|rfl|rfl|rfl|rfl <;> rfl
def Dr (w:World)(p m lo:Nat)(ls:List (List UInt8×Int))(rs:List Rw):Prop:=
 ∃ v,Bk w p 139 #[v,.map (Z m)]/\iF w m ls/\w.ownsRow lo 208 10 v rs.length (mb rs)
section
variable {w w':World}{p m lo:Nat}{ls:List (List UInt8×Int)}{rs:List Rw}
theorem Dr.within {S:Nat->Prop}(h:Dr w p m lo ls rs)(k:ag w w' S)(hp:¬ S p)(hm:¬ S m)(hl:∀ b,S b->b<lo):Dr w' p m lo ls rs:=by
 obtain⟨v,h1,h2,h3⟩:=h
 refine⟨v,h1.within k hp,h2.within k hm,ar h3 k fun g hg hs=>?_⟩
 have:=(World.ownsRow.lt h3 g hg).1
 have:=hl g hs
 omega
theorem Dr.Hx (h:Dr w p m lo ls rs):p<w.heap.size/\m<w.heap.size:=by
 obtain⟨v,h1,h2,h3⟩:=h
 exact⟨h1.lt,h2.lt⟩
end
abbrev Ac (p m lo:Nat):Nat->Prop:=fun b=>b=p\/b=m\/lo<=b
section
variable {w:World}{p m lo:Nat}{ls:List (List UInt8×Int)}{rs:List Rw}
theorem sJ (h:Dr w p m lo ls rs)(s:List UInt8)(hs:s.length<=1000000)(hk:fN ls s=true):
 Calls Tryz.prog 104 #[P (Z ⟨p,0,O⟩),bs s] w fun e w'=>e=.returned (I Q 2)/\w=w':=by
 obtain⟨v,h1,h2,h3⟩:=h
 have hl:=h2.look s hs
 rw[hk] at hl
 have c0:w.cell? ⟨p,0,O⟩=Z v:=h1.cell 0
 have c1:w.cell? ⟨p,1,O⟩=Z (.map (Z m)):=h1.cell 1
 unfold bs
 go_enter Tryz.func104,Tryz.ntmps104
 go_wp2
 go_ret
 exact⟨rfl,rfl⟩
theorem ze (h:Dr w p m lo ls rs)(s:List UInt8)(hs:s.length<=1000000)(hn:ls.length<1000000)(hr:rs.length<=64)(hk:fN ls s=false):
 Calls Tryz.prog 104 #[P (Z ⟨p,0,O⟩),bs s] w fun e w'=>e=.returned (I Q 0)/\Dr w' p m lo (ls++[(s,(rs.length:Int))]) rs/\ag w w' (Ac p m lo):=by
 obtain⟨v,h1,h2,h3⟩:=h
 have hl:=h2.look s hs
 rw[hk] at hl
 obtain⟨a,cap,rfl,hcap,hmax,_⟩:=aT h3
 have c0:w.cell? ⟨p,0,O⟩=Z (V a rs.length cap):=h1.cell 0
 have c1:w.cell? ⟨p,1,O⟩=Z (.map (Z m)):=h1.cell 1
 have h2d:iF w.drew m ls:=h2.same rfl
 obtain⟨w1,hrun,hL,hO⟩:=h2d.add hn hs (p:=(rs.length:Int)) (by omega) (by omega) hk
 have hmp:=h2.gW h1
 have hw1:ag w w1 (fun b=>b=m):=by
  have:ag w.drew w1 (fun b=>b=m):=.aO hO (by rintro i e;cases e;exact .inl rfl)
  exact⟨this.os,this.tape,this.output,this.size,this.block⟩
 unfold bs
 go_enter Tryz.func104,Tryz.ntmps104
 go_wp2
 go_region
 go_wp2
 go_ret
 refine⟨rfl,⟨_,h1.within hw1 (fun e=>hmp e.symm),hL,ar h3 hw1 fun g hg e=>?_⟩,hw1.wide fun i hi _=>.inr (.inl hi)⟩
 obtain⟨cs,hb⟩:=aU h3 hg
 exact h2.gW hb e.symm
def Hi (r:Rw):Value:=.agg #[I Q r.1.op,I Q r.1.d,I Q r.1.s,I Q r.1.t,I Q r.1.u,I Q r.1.a,I N r.1.k,I Q r.1.pl,bs r.2.1,I Q r.2.2]
theorem Cv:(Tryz.prog.info? 208).map (fun i=>(i.zero,i.size,i.bytes))=Z (Z (.agg #[I Q 0,I Q 0,I Q 0,I Q 0,I Q 0,I Q 0,I N 0,I Q 0,bs [],I Q 0]),10,88):=by kernel_rfl
theorem y9 (h:Dr w p m lo ls rs)(hr:rs.length=64)(r:Rw):
 Calls Tryz.prog 106 #[P (Z ⟨p,0,O⟩),Hi r] w fun e w'=>e=.returned (I Q 9)/\Below w.heap.size w w':=by
 obtain⟨v,h1,h2,h3⟩:=h
 obtain⟨a,cap,rfl,hcap,hmax,_⟩:=aT h3
 rw[hr] at h1
 obtain⟨⟨op,d,s,t,u,a',k,pl⟩,nm,ln⟩:=r
 have hb:Below w.heap.size w (w.alloc (T #[I Q op,I Q d,I Q s,I Q t,I Q u,I Q a',I N k,I Q pl,.string ⟨nm.toArray⟩,I Q ln] 208)):=(Below.refl _ _).alloc (Nat.le_refl _) _
 have c0:(w.alloc (T #[I Q op,I Q d,I Q s,I Q t,I Q u,I Q a',I N k,I Q pl,.string ⟨nm.toArray⟩,I Q ln] 208)).cell? ⟨p,0,O⟩=Z (V a 64 cap):=(h1.alloc _).cell 0
 unfold Hi bs
 simp only
 go_enter Tryz.func106,Tryz.ntmps106
 go_wp2
 go_ret
 exact⟨rfl,hb⟩
theorem Cu {w W w':World}{v v2:Value}{o:Obj}{r:Rw}(hW:ag w W (fun _=>False))(q1:Bk W p 139 #[v,.map (Z m)])(q2:iF W m ls)(q3:W.ownsRow lo 208 10 v rs.length (mb rs))
 (hgr:(W.drew.alloc o).grownBy w' v.ownBlock) (hown:w'.ownsRow lo 208 10 v2 (rs.length+1) (mb rs++qm r)):
 Dr (w'.setCell ⟨p,0,O⟩ v2) p m lo ls (rs++[r])/\ag w (w'.setCell ⟨p,0,O⟩ v2) (Ac p m lo):=by
 have hmp:=q2.gW q1
 have hA:ag W (W.drew.alloc o) (fun _=>False):=((ag.refl W _).kv 1).alloc o
 have hB:ag (W.drew.alloc o) w' (fun b=>Z b=v.ownBlock):=.aO hgr (by rintro i e;exact .inl e.symm)
 have hC:ag W w' (fun b=>Z b=v.ownBlock):=(hA.wide (by simp)).aH hB (by rintro i e;exact .inl e)
 have q1':Bk w' p _ _:=q1.within hC fun e=>by
  obtain⟨cs,hb⟩:=aU q3 e.symm
  exact Bk.av hb q1 (by decide) rfl
 have q2':iF w' m ls:=q2.within hC fun e=>by
  obtain⟨cs,hb⟩:=aU q3 e.symm
  exact q2.gW hb rfl
 refine⟨⟨v2,q1'.put 0 v2,q2'.within ((ag.refl w' (fun b=>b=p)).put p 0 v2 (.inl rfl)) hmp,?_⟩,?_⟩
 ·rw[ux,List.length_append]
  refine ar hown ((ag.refl w' (fun b=>b=p)).put p 0 v2 (.inl rfl)) fun g hg e=>?_
  obtain⟨cs,hb⟩:=aU hown hg
  exact Bk.av hb q1' (by decide) e
 ·refine ag.put ((hW.wide (by simp)).aH hC fun i e=>.inl (.inr (.inr ?_))) p 0 v2 (.inl (.inl rfl))
  exact(World.ownsRow.lt q3 i e.symm).1
theorem DE (h:Dr w p m lo ls rs)(hr:rs.length<64)(hlo:lo<=w.heap.size)(r:Rw):
 Calls Tryz.prog 106 #[P (Z ⟨p,0,O⟩),Hi r] w fun e w'=>e=.returned (I Q 0)/\Dr w' p m lo ls (rs++[r])/\ag w w' (Ac p m lo):=by
 obtain⟨v,h1,h2,h3⟩:=h
 obtain⟨a,cap,rfl,hcap,hmax,_⟩:=aT h3
 obtain⟨⟨op,d,s,t,u,a',k,pl⟩,nm,ln⟩:=r
 have hw0:ag w (w.alloc (T #[I Q op,I Q d,I Q s,I Q t,I Q u,I Q a',I N k,I Q pl,.string ⟨nm.toArray⟩,I Q ln] 208)) (fun _=>False):=(ag.refl _ _).alloc _
 have b0:=Bk.made w 208 #[I Q op,I Q d,I Q s,I Q t,I Q u,I Q a',I N k,I Q pl,.string ⟨nm.toArray⟩,I Q ln]
 have q1:=h1.within hw0 (by simp)
 have q2:=h2.within hw0 (by simp)
 have q3:=ar h3 hw0 (by simp)
 have hlt:((rs.length:Int)==64)=false:=by simp;omega
 have hst:Hid (w.heap.size<(w.alloc (T #[I Q op,I Q d,I Q s,I Q t,I Q u,I Q a',I N k,I Q pl,.string ⟨nm.toArray⟩,I Q ln] 208)).heap.size):=R b0.lt
 unfold Hi bs
 simp only
 go_enter Tryz.func106,Tryz.ntmps106
 go_upto_region 1 with fail
 generalize hg:w.heap.size=g at *
 generalize w.alloc (T #[I Q op,I Q d,I Q s,I Q t,I Q u,I Q a',I N k,I Q pl,.string ⟨nm.toArray⟩,I Q ln] 208)=W at *
 have c0:W.cell? ⟨p,0,O⟩=Z (V a rs.length cap):=q1.cell 0
 have f0:=q1.free 0
 have hne:∀ g,(Value.slice a rs.length cap).ownBlock=Z g->g≠p:=fun g' hg' e=>by
  obtain⟨cs,hb⟩:=aU q3 hg'
  exact Bk.av hb q1 (by decide) e
 go_wp2
 obtain⟨e0,e1,e2,e3,e4,e5,e6,e7,e8,e9⟩:W.cell? ⟨g,0,O⟩=Z (I Q op)/\W.cell? ⟨g,1,O⟩=Z (I Q d)/\W.cell? ⟨g,2,O⟩=Z (I Q s)/\W.cell? ⟨g,3,O⟩=Z (I Q t)/\W.cell? ⟨g,4,O⟩=Z (I Q u)/\W.cell? ⟨g,5,O⟩=Z (I Q a')/\W.cell? ⟨g,6,O⟩=Z (I N k)/\W.cell? ⟨g,7,O⟩=Z (I Q pl)/\W.cell? ⟨g,8,O⟩=Z (.string ⟨nm.toArray⟩)/\W.cell? ⟨g,9,O⟩=Z (I Q ln):=
  ⟨b0.cell 0,b0.cell 1,b0.cell 2,b0.cell 3,b0.cell 4,b0.cell 5,b0.cell 6,b0.cell 7,b0.cell 8,b0.cell 9⟩
 have hA:(W.drew.alloc (T #[I Q op,I Q d,I Q s,I Q t,I Q u,I Q a',I N k,I Q pl,.string ⟨nm.toArray⟩,I Q ln] 208)).ownsRow lo 208 10 (V a rs.length cap) rs.length (mb rs):=World.ownsRow.alloc (w:=W.drew) q3 _
 have hN:=Bk.made W.drew 208 #[I Q op,I Q d,I Q s,I Q t,I Q u,I Q a',I N k,I Q pl,.string ⟨nm.toArray⟩,I Q ln]
 have hl2:lo<=(W.drew.alloc (T #[I Q op,I Q d,I Q s,I Q t,I Q u,I Q a',I N k,I Q pl,.string ⟨nm.toArray⟩,I Q ln] 208)).heap.size:=by
  have:=hst.out
  rw[World.size_alloc]
  show lo<=W.heap.size+1
  omega
 have HL2:=R hl2
 have HN:=R (fD hN)
 have HA:=R hA
 have HNE:Hid (∀ b,Z b=(Value.slice a rs.length cap).ownBlock->b≠p):=R fun b e=>hne b e.symm
 have HQ:∀ (w':World),(W.drew.alloc (T #[I Q op,I Q d,I Q s,I Q t,I Q u,I Q a',I N k,I Q pl,.string ⟨nm.toArray⟩,I Q ln] 208)).grownBy w' (Value.slice a rs.length cap).ownBlock->Bk w' p 139 #[V a rs.length cap,.map (Z m)]:=
  fun w' hg=>Bk.grown (Bk.alloc (w:=W.drew) q1 _) hg fun e=>hne p e.symm rfl
 have rb:∀ o,(W.alloc o).cell? ⟨p,0,O⟩=Z (V a rs.length cap):=fun o=>(q1.alloc o).cell 0
 have HEND:Hid (∀ (w':World) (v2:Value),(W.drew.alloc (T #[I Q op,I Q d,I Q s,I Q t,I Q u,I Q a',I N k,I Q pl,.string ⟨nm.toArray⟩,I Q ln] 208)).grownBy w' (Value.slice a rs.length cap).ownBlock->w'.ownsRow lo 208 10 v2 (rs.length+1) (mb rs++qm (⟨op,d,s,t,u,a',k,pl⟩,nm,ln))->
  Dr (w'.setCell ⟨p,0,O⟩ v2) p m lo ls (rs++[(⟨op,d,s,t,u,a',k,pl⟩,nm,ln)])/\ag w (w'.setCell ⟨p,0,O⟩ v2) (Ac p m lo)):=R fun w' v2 hg ho=>Cu hw0 q1 q2 q3 hg ho
 clear hl2 hN hA
 go_region_law (refine kA rfl (.tmp 15) (.tmp 17) 137 rfl _ 88 Tryz.underlying137 Cv rfl (by omega) (by omega) HA.out (by simp[Act.eval]) (qm (⟨op,d,s,t,u,a',k,pl⟩,nm,ln)) rfl (Ap _) W.heap.size (by simp[Act.eval]) HN.out (by omega) HL2.out ?_;intro v' w' hown hgr hloc;have q1':=HQ w' hgr;have c0':w'.cell? ⟨p,0,O⟩=Z (V a rs.length cap):=q1'.cell 0;have f0':=q1'.free 0;obtain⟨a2,cap2,rfl,_,_,_⟩:=aT hown)
 all_goals (
  go_wp2
  go_ret
  exact⟨rfl,HEND.out _ _ hgr hown⟩)
def fH (ls:List (List UInt8×Int))(s:List UInt8)(n:Int):Value:=if fN ls s=true/\eD ls s≠n then .tuple #[I Q (eD ls s),.bool true] else .tuple #[I Q 0,.bool false]
theorem Fh (h:Dr w p m lo ls rs)(s:List UInt8)(hs:s.length<=1000000):
 Calls Tryz.prog 107 #[P (Z ⟨p,0,O⟩),bs s] w fun e w'=>e=.returned (fH ls s rs.length)/\w=w':=by
 obtain⟨v,h1,h2,h3⟩:=h
 have hl:=h2.look s hs
 obtain⟨a,cap,rfl,hcap,hmax,_⟩:=aT h3
 have c0:w.cell? ⟨p,0,O⟩=Z (V a rs.length cap):=h1.cell 0
 have c1:w.cell? ⟨p,1,O⟩=Z (.map (Z m)):=h1.cell 1
 have HE:Hid (fH ls s rs.length=if fN ls s=true/\eD ls s≠(rs.length:Int) then .tuple #[I Q (eD ls s),.bool true] else .tuple #[I Q 0,.bool false]):=R rfl
 generalize fH ls s rs.length=res at *
 generalize eD ls s=x at *
 generalize fN ls s=q at *
 generalize rs.length=n at *
 unfold bs
 cases q with
 | false=>
  go_enter Tryz.func107,Tryz.ntmps107
  go_wp2
  go_ret2
  exact⟨by rw[HE.out];rfl,rfl⟩
 | true=>
  by_cases e:x=(n:Int)
  ·have e1:(x==(n:Int))=true:=by simpa using e
   have E:=R e
   clear e
   go_enter Tryz.func107,Tryz.ntmps107
   go_wp2
   go_ret2
   exact⟨by rw[HE.out,if_neg (by simp[E.out])];rfl,rfl⟩
  ·have e1:(x==(n:Int))=false:=by simpa using e
   have E:=R e
   clear e
   go_enter Tryz.func107,Tryz.ntmps107
   go_wp2
   go_ret2
   exact⟨by rw[HE.out,if_pos ⟨trivial,E.out⟩];rfl,rfl⟩
end
