import Derived.Test.YtbgaaclplgghcaaGreatDoorWExE
set_option linter.unusedVariables false
set_option maxHeartbeats 4000000
set_option maxRecDepth 100000
open Go.Value renaming int->I,slice->K,pointer->J
open Go.IntKind renaming i64->Q,u32->N
open Option renaming none->O,some->Z
open Bool renaming false->P,true->T
open Go.Obj renaming cells->H
open Go.Lib renaming hid->G
open Go.RowKit.Below renaming refl->F
open Nat renaming le_refl->C
open Go renaming undef->L
namespace Go.Proofs.YtbgaaclplgghcaaGreatDoor
open Go.ChangeShapes Go.WideShapes Go.ChangeAt Go.RowKit
section
variable {w w':World}{X:XP}{k:Lk}{m:Mc}
theorem wR (h:Ex w X k m)(c:kg)(i:aM)(n a:Nat)(late:Bool)(hx:bg c.xs)(hi:E8 i n)(hq:i.op=17\/i.op=20\/i.op=21)(ha:a<m.ws.length)(hp0:0<=c.pc)(hp1:c.pc<1000):
 Calls Tryz.prog 90 #[J (Z ⟨X.x,0,O⟩),cv c.xs c.pc,iv i,I Q a,.bool late] w (FK w X.p X.q X.g X.s k.zs (io m.ws c late i a) a):=by
 have hd:=hi.d
 have ht:=hi.t
 have hu:=hi.u
 have hop:=hi.op
 have HAW:Hid (∀ v W,i.op=21->0<=v/\v<4294967296->Calls Tryz.prog 143 #[cv c.xs c.pc,iv i,I N v,.bool late] W (pu W (fH c i v late).1 (fH c i v late).2)):=G fun v W h21 hv=>B3 c i n v late W hx hi h21 hv hp0 hp1
 obtain⟨xs,pc⟩:=c
 obtain⟨op,d,s,t,u,a',k',pl⟩:=i
 simp only at hd ht hu hop hx hp0 hp1 hq
 have HQ:=G hq
 clear hq
 obtain⟨dn,rfl⟩:∃ n:Nat,d=n:=⟨d.toNat,by omega⟩
 obtain⟨tn,rfl⟩:∃ n:Nat,t=n:=⟨t.toNat,by omega⟩
 obtain⟨un,rfl⟩:∃ n:Nat,u=n:=⟨u.toNat,by omega⟩
 have hd8:dn<8:=by omega
 have ht8:tn<8:=by omega
 have hu8:un<8:=by omega
 have hT:=hx.2.at_ tn
 have hU:=hx.2.at_ un
 obtain⟨r0,r1,r2,r3,r4,r5,r6,r7,rfl⟩:=aD hx.1
 obtain⟨A,hA⟩:∃ A,A=io m.ws ⟨[r0,r1,r2,r3,r4,r5,r6,r7],pc⟩ late ⟨op,dn,s,tn,un,a',k',pl⟩ a:=⟨_,rfl⟩
 rw[<-hA]
 have HA:=G hA
 clear hA
 have q0:=Cb.made w [r0,r1,r2,r3,r4,r5,r6,r7] pc
 have q1:=Ib.made (w.alloc (H (bO [r0,r1,r2,r3,r4,r5,r6,r7] pc).toArray 111)) op dn s tn un a' k' pl
 have q2:=Cb.made ((w.alloc (H (bO [r0,r1,r2,r3,r4,r5,r6,r7] pc).toArray 111)).alloc (H #[I Q op,I Q dn,I Q s,I Q tn,I Q un,I Q a',I N k',I Q pl] 121)) [0,0,0,0,0,0,0,0] 0
 have q3:=Bk.made (((w.alloc (H (bO [r0,r1,r2,r3,r4,r5,r6,r7] pc).toArray 111)).alloc (H #[I Q op,I Q dn,I Q s,I Q tn,I Q un,I Q a',I N k',I Q pl] 121)).alloc (H (bO [0,0,0,0,0,0,0,0] 0).toArray 111)) 64 #[K O 0 0,I Q 0,I Q 0,.bool P,.bool P,I Q 0]
 have q4:=Bk.made ((((w.alloc (H (bO [r0,r1,r2,r3,r4,r5,r6,r7] pc).toArray 111)).alloc (H #[I Q op,I Q dn,I Q s,I Q tn,I Q un,I Q a',I N k',I Q pl] 121)).alloc (H (bO [0,0,0,0,0,0,0,0] 0).toArray 111)).alloc (H #[K O 0 0,I Q 0,I Q 0,.bool P,.bool P,I Q 0] 64)) 64 #[K O 0 0,I Q (-1),I Q a,.bool P,.bool P,I Q 0]
 simp only[World.size_alloc] at q1 q2 q3 q4
 have hI:jl w _ w.heap.size [r0,r1,r2,r3,r4,r5,r6,r7] pc ⟨op,dn,s,tn,un,a',k',pl⟩ ⟨[],-1,a,P,P,0⟩:=⟨Bk.alloc (Bk.alloc (Bk.alloc (Bk.alloc q0 _) _) _) _,Bk.alloc (Bk.alloc (Bk.alloc q1 _) _) _,Bk.alloc (Bk.alloc q2 _) _,Bk.alloc q3 _,q4⟩
 have b0:Below w.heap.size w (((((w.alloc (H (bO [r0,r1,r2,r3,r4,r5,r6,r7] pc).toArray 111)).alloc (H #[I Q op,I Q dn,I Q s,I Q tn,I Q un,I Q a',I N k',I Q pl] 121)).alloc (H (bO [0,0,0,0,0,0,0,0] 0).toArray 111)).alloc (H #[K O 0 0,I Q 0,I Q 0,.bool P,.bool P,I Q 0] 64)).alloc (H #[K O 0 0,I Q (-1),I Q a,.bool P,.bool P,I Q 0] 64)):=((((((F _ _).alloc (C _) _).alloc (by simp) _).alloc (by simp;omega) _).alloc (by simp;omega) _).alloc (by simp;omega) _)
 clear q0 q1 q2 q3 q4
 unfold cv iv at *
 simp only[bO,List.map_cons,List.map_nil,List.cons_append,List.nil_append] at hI b0 HAW ⊢
 go_enter Tryz.func90,Tryz.ntmps90
 go_upto_region 2 with fail
 generalize ((((w.alloc (H #[I N r0,I N r1,I N r2,I N r3,I N r4,I N r5,I N r6,I N r7,I Q pc] 111)).alloc (H #[I Q op,I Q dn,I Q s,I Q tn,I Q un,I Q a',I N k',I Q pl] 121)).alloc (H #[I N 0,I N 0,I N 0,I N 0,I N 0,I N 0,I N 0,I N 0,I Q 0] 111)).alloc (H #[K O 0 0,I Q 0,I Q 0,.bool P,.bool P,I Q 0] 64)).alloc (H #[K O 0 0,I Q (-1),I Q a,.bool P,.bool P,I Q 0] 64)=x at *
 have h2:=h.below b0
 have cT:=hI.c.at_ rfl ht8
 have cU:=hI.c.at_ rfl hu8
 obtain⟨e0,e1,e2,e3,e4,e5,e6,e7⟩:=hI.i.cells
 simp only at e0 e1 e2 e3 e4 e5 e6 e7
 generalize hVe:aG [r0,r1,r2,r3,r4,r5,r6,r7] tn=V at *
 have EV:=G hVe
 generalize hUe:aG [r0,r1,r2,r3,r4,r5,r6,r7] un=U at *
 have EU:=G hUe
 clear hVe hUe
 go_quiet (fail)
 replace hI:=hI.within ((ab.refl x (fun _=>False)).ed nq) (by simp)
 replace h2:=h2.below (Go.below_drewN (F _ _) nq)
 replace b0:=Go.below_drewN b0 nq
 generalize x.drewN nq=y at *
 clear cT cU e0 e1 e2 e3 e4 e5 e6 e7
 obtain⟨e0,e1,e2,e3,e4,e5,e6,e7⟩:=hI.i.cells
 simp only at e0 e1 e2 e3 e4 e5 e6 e7
 have x3:=h2.c3
 have p0:=h2.mem.c0
 have hM:=h2.mem
 have hG:fD w y X.g:=uY (bM b0)
 have hAh:pz w.heap.size X.p X.q X.g X.s:=⟨h.mem.ptr.lt,h.mem.cel.ptr.lt,h.mem.cel.row.lt,h.mem.row.lt⟩
 have hLd:=G (fun W (hW:Mm W X.p X.q X.g X.s k.zs m.ws)=>Eu hW.cel a ha)
 have hw1:Hid (wrap64 (pc+1)=pc+1):=G (IntWalk.wrap64_in _ (by omega))
 have hdi0:(0:Int)<=dn:=by omega
 have HX3:Hid (∀ W,fD (y.drewN 1) W X.g->W.cell? ⟨X.x,3,O⟩=Z (J (Z ⟨X.p,0,O⟩))):=G fun W hW=>((h2.ptr.drewN 1).grown hW (fun e=>by injection e with e;exact h2.ptr.aj h2.mem.cel.row (by decide) e)).cell 3
 have hdi1:(dn:Int)<8:=by omega
 have kx:∀ (W:World) (u:Value) (i j:Nat),(W.setCell ⟨w.heap.size,i,O⟩ u).cell? ⟨X.x,j,O⟩=W.cell? ⟨X.x,j,O⟩:=fun W u i j=>cj (by have:=h.ptr.lt;omega)
 have kp:∀ (W:World) (u:Value) (i j:Nat),(W.setCell ⟨w.heap.size,i,O⟩ u).cell? ⟨X.p,j,O⟩=W.cell? ⟨X.p,j,O⟩:=fun W u i j=>cj (by have:=h.mem.ptr.lt;omega)
 have HWA:Hid (0<=aG m.ws a/\aG m.ws a<4294967296):=G (h.mc.ws.at_ a)
 have HE8:=G hx
 have HXL:Hid (X.x<w.heap.size):=G h.ptr.lt
 have hk32:=hi.k
 simp only at hk32
 clear b0 h h2 hx hi hd ht hu hp0 hp1
 go_upto_block 0 with fail
 go_cut [12] (fun v wx=>v=J (Z ⟨w.heap.size+1+1+1+1,0,O⟩)/\Dz w pc ⟨op,dn,s,tn,un,a',k',pl⟩ a X.p X.q X.g X.s k.zs A wx)
 case first=>
  by_cases h16:op=16
  ·exact absurd h16 (by have:=HQ.out;omega)
  ·by_cases h17:op=17
   ·subst h17
    go_wp2_with fail
    refine(yY hM.cel a ha V hT).mono ?_
    rintro e y3 ⟨rfl,hc,ho⟩
    obtain⟨g1,g2,g3⟩:=ox hI hM hG hAh hc ho (by simp)
    clear hM hG hI x3 p0 kx kp e0 e1 e2 e3 e4 e5 e6 e7 hc ho
    obtain⟨o0,o1,o2,o3,o4,o5⟩:=g1.cells
    have zf:=Bk.free g1.o
    simp only at o0 o1 o2 o3 o4 o5
    obtain⟨k1,k2⟩:=j6 g1 g2 g3 hAh (b:=w.heap.size+1+1+1+1) (by omega) 3 (.bool T)
    have k3:=ou g1 T
    have GM:Hid (Dz w pc ⟨17,dn,s,tn,un,a',k',pl⟩ a X.p X.q X.g X.s k.zs A (y3.setCell ⟨w.heap.size+1+1+1+1,3,O⟩ (.bool T))):=G (by
     have e:A=⟨m.ws.set a V,⟨[r0,r1,r2,r3,r4,r5,r6,r7],pc+1⟩,T,P⟩:=by rw[HA.out];simp[io,EV.out]
     exact⟨_,T,rfl,k3,by rw[e];exact k1,k2,G (by rw[e];exact⟨rfl,rfl,rfl⟩)⟩)
    clear g1 g2 g3 k1 k2 k3
    go_wp2
    go_meet
    case rel=>exact⟨rfl,GM.out⟩
   have h18:op≠18:=by have:=HQ.out;omega
   have h19:op≠19:=by have:=HQ.out;omega
   by_cases h20:op=20
   ·subst h20
    have cD:=hI.c.at_ rfl hd8
    have zf:=Bk.free hI.c
    have HSW:=G (Fx (hM.drewN 1).cel a ha k' hk32)
    have HIM:=G (And.intro (hI.within ((ab.refl y (fun _=>False)).ed 1) (by simp)) (And.intro (hM.drewN 1) (eB hG 1)))
    go_upto_region 18 with fail
    generalize aG [r0,r1,r2,r3,r4,r5,r6,r7] dn=VD at *
    go_region_held3 (fun W=>W.cell? ⟨X.x,3,O⟩=Z (J (Z ⟨X.p,0,O⟩))/\W.cell? ⟨X.p,0,O⟩=Z (J (Z ⟨X.q,0,O⟩))/\W.cell? ⟨w.heap.size+1,1,O⟩=Z (I Q dn)/\W.cell? ⟨w.heap.size+1,6,O⟩=Z (I N k')) (first | (exact⟨x3,p0,e1,e6⟩) | (exact⟨f1,f2,f3,f3'⟩) | go_keep)
     (first | (go_at_call 142;refine HSW.out.mono ?_;rintro e w4 ⟨rfl,hc4,ho4⟩;obtain⟨j1,j2,j3⟩:=ox HIM.out.1 HIM.out.2.1 HIM.out.2.2 hAh hc4 ho4 (by simp);have f1:w4.cell? ⟨X.x,3,O⟩=Z (J (Z ⟨X.p,0,O⟩)):=(HX3.out w4 ho4);have f2:=j2.c0;have f3:w4.cell? ⟨w.heap.size+1,1,O⟩=Z (I Q dn):=(j1.i.cells).2.1;have f3':w4.cell? ⟨w.heap.size+1,6,O⟩=Z (I N k'):=(j1.i.cells).2.2.2.2.2.2.1;have f4:=j1.c.at_ rfl hd8;have f5:=Bk.free j1.c))
    all_goals (
     clear f1 f2 f3 f4 f5 HIM HSW f3' hM hG hI x3 p0 e0 e1 e2 e3 e4 e5 e6 e7
     obtain⟨k1,k2⟩:=j6 j1 j2 j3 hAh (C _) dn (I N (aG m.ws a))
     have k3:=Bn j1 rfl hd8 (aG m.ws a)
     obtain⟨s0,s1,s2,s3,s4,s5,s6,s7,hs⟩:=aD (xs:=[r0,r1,r2,r3,r4,r5,r6,r7].set dn (aG m.ws a)) (by simp)
     have HS:=G hs
     rw[hs] at k3
     clear j1 j2 j3 hc4 ho4 hs kx kp
     generalize w4.setCell ⟨w.heap.size,dn,O⟩ (I N (aG m.ws a))=y3 at *
     obtain⟨o0,o1,o2,o3,o4,o5⟩:=k3.cells
     have zf:=Bk.free k3.o
     simp only at o0 o1 o2 o3 o4 o5
     obtain⟨l1,l2⟩:=j6 k3 k1 k2 hAh (b:=w.heap.size+1+1+1+1) (by omega) 3 (.bool T)
     have l3:=ou k3 T
     have GM:Hid (Dz w pc ⟨20,dn,s,tn,un,a',k',pl⟩ a X.p X.q X.g X.s k.zs A (y3.setCell ⟨w.heap.size+1+1+1+1,3,O⟩ (.bool T))):=G (by
      have e:A=⟨m.ws.set a (lw (aG m.ws a+k')),⟨[s0,s1,s2,s3,s4,s5,s6,s7],pc+1⟩,T,P⟩:=by rw[HA.out];simp only[io];simp[HS.out,lw]
      exact⟨_,T,rfl,l3,by rw[e];exact l1,l2,G (by rw[e];exact⟨rfl,rfl,rfl⟩)⟩)
     clear k1 k2 k3 l1 l2 l3
     go_wp2
     go_meet
     case rel=>exact⟨rfl,GM.out⟩)
   have h21:op=21:=by have:=HQ.out;omega
   subst h21
   obtain⟨AWC,hAWC⟩:∃ q,q=fH ⟨[r0,r1,r2,r3,r4,r5,r6,r7],pc⟩ ⟨21,dn,s,tn,un,a',k',pl⟩ (aG m.ws a) late:=⟨_,rfl⟩
   have hE:bg AWC.1.xs:=by rw[hAWC];exact jq HWA.out HE8.out
   obtain⟨s0,s1,s2,s3,s4,s5,s6,s7,hs⟩:=aD hE.1
   obtain⟨PC,hPC⟩:∃ q,q=AWC.1.pc:=⟨_,rfl⟩
   obtain⟨ST,hST⟩:∃ q,q=AWC.2:=⟨_,rfl⟩
   have HA2:Hid (A=⟨m.ws,⟨[s0,s1,s2,s3,s4,s5,s6,s7],PC⟩,P,ST⟩):=G (by
    rw[HA.out]
    simp only[io]
    simp[<-hAWC,hST,hPC,<-hs])
   have HAW2:Hid (∀ W,Calls Tryz.prog 143 #[.agg #[I N r0,I N r1,I N r2,I N r3,I N r4,I N r5,I N r6,I N r7,I Q pc],.agg #[I Q 21,I Q dn,I Q s,I Q tn,I Q un,I Q a',I N k',I Q pl],I N (aG m.ws a),.bool late] W fun e w'=>e=.returned (.tuple #[.agg #[I N s0,I N s1,I N s2,I N s3,I N s4,I N s5,I N s6,I N s7,I Q PC],.bool ST])/\Below W.heap.size W w'):=G fun W=>(HAW.out (aG m.ws a) W rfl HWA.out).mono fun e w' ⟨h1,h2⟩=>⟨by
    rw[h1,<-hAWC,<-hST]
    unfold cv bO
    rw[hs,<-hPC]
    rfl,h2⟩
   have hS0:gZ w [r0,r1,r2,r3,r4,r5,r6,r7] pc ⟨21,dn,s,tn,un,a',k',pl⟩ ⟨[],-1,a,P,P,0⟩ X.p X.q X.g X.s k.zs m.ws X.x y:=⟨hI,hM,hG,x3,HXL.out⟩
   clear hAWC hE hs hPC hST hI hM hG x3 p0 kx kp e0 e1 e2 e3 e4 e5 e6 e7 HA HAW hdi0 hdi1 hk32 HX3
   go_upto_region 21 with fail
   refine cG [16,18] (Dy w ⟨21,dn,s,tn,un,a',k',pl⟩ a X.p X.q X.g X.s k.zs m.ws X.x ⟨[r0,r1,r2,r3,r4,r5,r6,r7],pc⟩ ⟨[s0,s1,s2,s3,s4,s5,s6,s7],PC⟩ ST) (fun _ _ _=>True) (fun vs=>{ tmps:=#[J (Z ⟨X.x,0,O⟩),.agg #[I N r0,I N r1,I N r2,I N r3,I N r4,I N r5,I N r6,I N r7,I Q pc],.agg #[I Q 21,I Q (dn:Int),I Q s,I Q (tn:Int),I Q (un:Int),I Q a',I N k',I Q pl],I Q (a:Int),.bool late,L,J (Z ⟨w.heap.size,0,O⟩),J (Z ⟨w.heap.size+1,0,O⟩),L,L,J (Z ⟨w.heap.size+1+1,0,O⟩),J (Z ⟨w.heap.size+1+1+1,0,O⟩),J (Z ⟨w.heap.size+1+1+1+1,0,O⟩),I N V,I N U,I Q (a:Int),.agg #[K O 0 0,I Q (-1),I Q (a:Int),.bool P,.bool P,I Q 0],J (Z ⟨w.heap.size+1,3,O⟩),I Q (tn:Int),J (Z ⟨w.heap.size,0,O⟩),J (Z ⟨w.heap.size,tn,O⟩),I N V,J (Z ⟨w.heap.size+1,4,O⟩),I Q (un:Int),J (Z ⟨w.heap.size,0,O⟩),J (Z ⟨w.heap.size,un,O⟩),I N U,J (Z ⟨w.heap.size+1,0,O⟩),I Q 21,.bool P,.bool P,L,L,L,L,L,L,L,L,L,L,L,L,L,.bool P,.bool P,L,L,L,L,L,L,L,L,L,L,L,.bool P,.bool P,L,L,L,L,L,L,L,L,L,L,L,L,L,L,L,.bool P,.bool P,L,L,L,L,L,L,L,L,L,L,L,L,L,L,L,L,L,L,L,L,L,L,.bool P,.bool P,L,L,L,L,L,L,L,L,L,L,L,L,L,L,L,L,.bool T,.bool T,vs 13,vs 0,vs 1,vs 2,vs 3,vs 4,vs 5,vs 6,vs 7,vs 8,vs 9,vs 10,vs 11,vs 12,vs 14,vs 15,vs 17,L,L,L,L,L,L,L,L],defers:=[] }) (pJ [.agg #[I N r0,I N r1,I N r2,I N r3,I N r4,I N r5,I N r6,I N r7,I Q pc],.agg #[I Q 21,I Q (dn:Int),I Q s,I Q (tn:Int),I Q (un:Int),I Q a',I N k',I Q pl],J (Z ⟨X.x,0,O⟩),J (Z ⟨X.x,0,O⟩),J (Z ⟨X.x,3,O⟩),J (Z ⟨X.p,0,O⟩),J (Z ⟨X.p,0,O⟩),J (Z ⟨X.p,0,O⟩),J (Z ⟨X.q,0,O⟩),I Q (a:Int),I N (aG m.ws a),.bool late,.tuple #[.agg #[I N s0,I N s1,I N s2,I N s3,I N s4,I N s5,I N s6,I N s7,I Q PC],.bool ST],.tuple #[.agg #[I N s0,I N s1,I N s2,I N s3,I N s4,I N s5,I N s6,I N s7,I Q PC],.bool ST],.agg #[I N s0,I N s1,I N s2,I N s3,I N s4,I N s5,I N s6,I N s7,I Q PC],.bool ST,L,J (Z ⟨w.heap.size+1+1+1+1,4,O⟩),L]) ?ghm ?ghr ?ghc ?ghnd ?ghlit ?gh0 ?ghW ?ghF ?ghS ?gops ?gdone
   case ghm=>kernel_rfl
   case ghr=>kernel_rfl
   case ghc=>kernel_rfl
   case ghnd=>decide
   case ghlit=>intro vs;rfl
   case gh0=>exact hS0
   case ghW=>exact fun k W W2 h hb=>sV h hb
   case ghF=>exact dx
   case ghS=>exact fun k W W2 _ _ i v h=>h
   case gops=>
    refine⟨?_,?_,?_,?_,?_,?_,?_,?_,?_,?_,?_,?_,?_,?_,?_,?_,?_,?_,?_,trivial⟩
    ·intro vs W k h1 h2 hW hd
     obtain rfl:k=0:=Nat.le_zero.1 h2
     refine aa rfl ?_
     obtain⟨j1,j2,j3,x3,-⟩:gZ w [r0,r1,r2,r3,r4,r5,r6,r7] pc ⟨21,dn,s,tn,un,a',k',pl⟩ ⟨[],-1,a,P,P,0⟩ X.p X.q X.g X.s k.zs m.ws X.x W:=id hW;obtain⟨c0,c1,c2,c3,c4,c5,c6,c7,c8⟩:=j1.c.cells;obtain⟨e0,e1,e2,e3,e4,e5,e6,e7⟩:=j1.i.cells;simp only at e0 e1 e2 e3 e4 e5 e6 e7;have p0:=j2.c0;have zf:=Bk.free j1.c;clear j1 j2 j3
     clear hd
     go_simp
     exact⟨rfl,F _ _⟩
    ·intro vs W k h1 h2 hW hd
     obtain rfl:k=0:=Nat.le_zero.1 h2
     refine aa rfl ?_
     obtain⟨j1,j2,j3,x3,-⟩:gZ w [r0,r1,r2,r3,r4,r5,r6,r7] pc ⟨21,dn,s,tn,un,a',k',pl⟩ ⟨[],-1,a,P,P,0⟩ X.p X.q X.g X.s k.zs m.ws X.x W:=id hW;obtain⟨c0,c1,c2,c3,c4,c5,c6,c7,c8⟩:=j1.c.cells;obtain⟨e0,e1,e2,e3,e4,e5,e6,e7⟩:=j1.i.cells;simp only at e0 e1 e2 e3 e4 e5 e6 e7;have p0:=j2.c0;have zf:=Bk.free j1.c;clear j1 j2 j3
     clear hd
     go_simp
     exact⟨rfl,F _ _⟩
    ·intro vs W k h1 h2 hW hd
     obtain rfl:k=0:=Nat.le_zero.1 h2
     refine aa rfl ?_
     clear hd
     go_simp
     exact⟨rfl,F _ _⟩
    ·intro vs W k h1 h2 hW hd
     obtain rfl:k=0:=Nat.le_zero.1 h2
     refine aa rfl ?_
     have e2:vs 2=J (Z ⟨X.x,0,O⟩):=hd 2 (by decide)
     clear hd
     go_simp
     exact⟨rfl,F _ _⟩
    ·intro vs W k h1 h2 hW hd
     obtain rfl:k=0:=Nat.le_zero.1 h2
     refine aa rfl ?_
     have e3:vs 3=J (Z ⟨X.x,0,O⟩):=hd 3 (by decide)
     clear hd
     go_simp
     exact⟨rfl,F _ _⟩
    ·intro vs W k h1 h2 hW hd
     obtain rfl:k=0:=Nat.le_zero.1 h2
     refine aa rfl ?_
     have e4:vs 4=J (Z ⟨X.x,3,O⟩):=hd 4 (by decide)
     obtain⟨j1,j2,j3,x3,-⟩:gZ w [r0,r1,r2,r3,r4,r5,r6,r7] pc ⟨21,dn,s,tn,un,a',k',pl⟩ ⟨[],-1,a,P,P,0⟩ X.p X.q X.g X.s k.zs m.ws X.x W:=id hW;obtain⟨c0,c1,c2,c3,c4,c5,c6,c7,c8⟩:=j1.c.cells;obtain⟨e0,e1,e2,e3,e4,e5,e6,e7⟩:=j1.i.cells;simp only at e0 e1 e2 e3 e4 e5 e6 e7;have p0:=j2.c0;have zf:=Bk.free j1.c;clear j1 j2 j3
     clear hd
     go_simp
     exact⟨rfl,F _ _⟩
    ·intro vs W k h1 h2 hW hd
     obtain rfl:k=0:=Nat.le_zero.1 h2
     refine aa rfl ?_
     have e5:vs 5=J (Z ⟨X.p,0,O⟩):=hd 5 (by decide)
     clear hd
     go_simp
     exact⟨rfl,F _ _⟩
    ·intro vs W k h1 h2 hW hd
     obtain rfl:k=0:=Nat.le_zero.1 h2
     refine aa rfl ?_
     have e6:vs 6=J (Z ⟨X.p,0,O⟩):=hd 6 (by decide)
     clear hd
     go_simp
     exact⟨rfl,F _ _⟩
    ·intro vs W k h1 h2 hW hd
     obtain rfl:k=0:=Nat.le_zero.1 h2
     refine aa rfl ?_
     have e7:vs 7=J (Z ⟨X.p,0,O⟩):=hd 7 (by decide)
     obtain⟨j1,j2,j3,x3,-⟩:gZ w [r0,r1,r2,r3,r4,r5,r6,r7] pc ⟨21,dn,s,tn,un,a',k',pl⟩ ⟨[],-1,a,P,P,0⟩ X.p X.q X.g X.s k.zs m.ws X.x W:=id hW;obtain⟨c0,c1,c2,c3,c4,c5,c6,c7,c8⟩:=j1.c.cells;obtain⟨e0,e1,e2,e3,e4,e5,e6,e7⟩:=j1.i.cells;simp only at e0 e1 e2 e3 e4 e5 e6 e7;have p0:=j2.c0;have zf:=Bk.free j1.c;clear j1 j2 j3
     clear hd
     go_simp
     exact⟨rfl,F _ _⟩
    ·intro vs W k h1 h2 hW hd
     obtain rfl:k=0:=Nat.le_zero.1 h2
     refine aa rfl ?_
     clear hd
     go_simp
     exact⟨rfl,F _ _⟩
    ·intro vs W k h1 h2 hW hd
     obtain rfl:k=0:=Nat.le_zero.1 h2
     refine aa rfl ?_
     have e8:vs 8=J (Z ⟨X.q,0,O⟩):=hd 8 (by decide)
     have e9:vs 9=I Q (a:Int):=hd 9 (by decide)
     clear hd
     go_simp
     refine(hLd.out _ (gZ.am hW)).mono ?_
     rintro e z ⟨rfl,rfl⟩
     exact⟨_,rfl,rfl,F _ _⟩
    ·intro vs W k h1 h2 hW hd
     obtain rfl:k=0:=Nat.le_zero.1 h2
     refine aa rfl ?_
     clear hd
     go_simp
     exact⟨rfl,F _ _⟩
    ·intro vs W k h1 h2 hW hd
     obtain rfl:k=0:=Nat.le_zero.1 h2
     refine aa rfl ?_
     have e0:vs 0=.agg #[I N r0,I N r1,I N r2,I N r3,I N r4,I N r5,I N r6,I N r7,I Q pc]:=hd 0 (by decide)
     have e1:vs 1=.agg #[I Q 21,I Q (dn:Int),I Q s,I Q (tn:Int),I Q (un:Int),I Q a',I N k',I Q pl]:=hd 1 (by decide)
     have e10:vs 10=I N (aG m.ws a):=hd 10 (by decide)
     have e11:vs 11=.bool late:=hd 11 (by decide)
     clear hd
     go_simp
     refine(HAW2.out _).mono ?_
     rintro e z ⟨rfl,hz⟩
     exact⟨_,rfl,rfl,hz⟩
    ·intro vs W k h1 h2 hW hd
     obtain rfl:k=0:=Nat.le_zero.1 h2
     refine aa rfl ?_
     have e12:vs 12=.tuple #[.agg #[I N s0,I N s1,I N s2,I N s3,I N s4,I N s5,I N s6,I N s7,I Q PC],.bool ST]:=hd 12 (by decide)
     clear hd
     go_simp
     exact⟨rfl,F _ _⟩
    ·intro vs W k h1 h2 hW hd
     obtain rfl:k=0:=Nat.le_zero.1 h2
     refine aa rfl ?_
     have e13:vs 13=.tuple #[.agg #[I N s0,I N s1,I N s2,I N s3,I N s4,I N s5,I N s6,I N s7,I Q PC],.bool ST]:=hd 13 (by decide)
     clear hd
     go_simp
     exact⟨rfl,F _ _⟩
    ·intro vs W k h1 h2 hW hd
     refine aa rfl ?_
     have e13:vs 13=.tuple #[.agg #[I N s0,I N s1,I N s2,I N s3,I N s4,I N s5,I N s6,I N s7,I Q PC],.bool ST]:=hd 13 (by decide)
     clear hd
     go_simp
     exact⟨rfl,F _ _⟩
    ·intro vs W hW hd
     have e14:vs 14=.agg #[I N s0,I N s1,I N s2,I N s3,I N s4,I N s5,I N s6,I N s7,I Q PC]:=hd 14 (by decide)
     obtain⟨j1,j2,j3,x3,-⟩:gZ w [r0,r1,r2,r3,r4,r5,r6,r7] pc ⟨21,dn,s,tn,un,a',k',pl⟩ ⟨[],-1,a,P,P,0⟩ X.p X.q X.g X.s k.zs m.ws X.x W:=id hW;obtain⟨c0,c1,c2,c3,c4,c5,c6,c7,c8⟩:=j1.c.cells;obtain⟨e0,e1,e2,e3,e4,e5,e6,e7⟩:=j1.i.cells;simp only at e0 e1 e2 e3 e4 e5 e6 e7;have p0:=j2.c0;have zf:=Bk.free j1.c;clear j1 j2 j3
     refine aO rfl ?_
     clear hd
     go_simp
     exact⟨rfl,vZ hAh hW⟩
    ·intro vs W k h1 h2 hW hd
     refine aa rfl ?_
     clear hd
     go_simp
     exact⟨rfl,F _ _⟩
    ·intro vs W hW hd
     have e15:vs 15=.bool ST:=hd 15 (by decide)
     have e17:vs 17=J (Z ⟨w.heap.size+1+1+1+1,4,O⟩):=hd 17 (by decide)
     obtain⟨j1,j2,j3,x3,-⟩:gZ w [s0,s1,s2,s3,s4,s5,s6,s7] PC ⟨21,dn,s,tn,un,a',k',pl⟩ ⟨[],-1,a,P,P,0⟩ X.p X.q X.g X.s k.zs m.ws X.x W:=id hW;obtain⟨o0,o1,o2,o3,o4,o5⟩:=j1.cells;simp only at o0 o1 o2 o3 o4 o5;have zf:=Bk.free j1.o;clear j1 j2 j3
     refine aO rfl ?_
     clear hd
     go_simp
     exact⟨rfl,vY hAh hW ST⟩
   case gdone=>
    intro vs W hW hf
    obtain⟨j1,j2,j3,-,-⟩:gZ w [s0,s1,s2,s3,s4,s5,s6,s7] PC ⟨21,dn,s,tn,un,a',k',pl⟩ ⟨[],-1,a,P,ST,0⟩ X.p X.q X.g X.s k.zs m.ws X.x W:=id hW
    clear hW hS0
    have f0:vs 0=.agg #[I N r0,I N r1,I N r2,I N r3,I N r4,I N r5,I N r6,I N r7,I Q pc]:=hf 0 (by decide)
    have f1:vs 1=.agg #[I Q 21,I Q (dn:Int),I Q s,I Q (tn:Int),I Q (un:Int),I Q a',I N k',I Q pl]:=hf 1 (by decide)
    have f2:vs 2=J (Z ⟨X.x,0,O⟩):=hf 2 (by decide)
    have f3:vs 3=J (Z ⟨X.x,0,O⟩):=hf 3 (by decide)
    have f4:vs 4=J (Z ⟨X.x,3,O⟩):=hf 4 (by decide)
    have f5:vs 5=J (Z ⟨X.p,0,O⟩):=hf 5 (by decide)
    have f6:vs 6=J (Z ⟨X.p,0,O⟩):=hf 6 (by decide)
    have f7:vs 7=J (Z ⟨X.p,0,O⟩):=hf 7 (by decide)
    have f8:vs 8=J (Z ⟨X.q,0,O⟩):=hf 8 (by decide)
    have f9:vs 9=I Q (a:Int):=hf 9 (by decide)
    have f10:vs 10=I N (aG m.ws a):=hf 10 (by decide)
    have f11:vs 11=.bool late:=hf 11 (by decide)
    have f12:vs 12=.tuple #[.agg #[I N s0,I N s1,I N s2,I N s3,I N s4,I N s5,I N s6,I N s7,I Q PC],.bool ST]:=hf 12 (by decide)
    have f13:vs 13=.tuple #[.agg #[I N s0,I N s1,I N s2,I N s3,I N s4,I N s5,I N s6,I N s7,I Q PC],.bool ST]:=hf 13 (by decide)
    have f14:vs 14=.agg #[I N s0,I N s1,I N s2,I N s3,I N s4,I N s5,I N s6,I N s7,I Q PC]:=hf 14 (by decide)
    have f15:vs 15=.bool ST:=hf 15 (by decide)
    have f17:vs 17=J (Z ⟨w.heap.size+1+1+1+1,4,O⟩):=hf 17 (by decide)
    simp only[f0,f1,f2,f3,f4,f5,f6,f7,f8,f9,f10,f11,f12,f13,f14,f15,f17]
    clear f0 f1 f2 f3 f4 f5 f6 f7 f8 f9 f10 f11 f12 f13 f14 f15 f17 hf
    obtain⟨c0,c1,c2,c3,c4,c5,c6,c7,c8⟩:=j1.c.cells
    obtain⟨o0,o1,o2,o3,o4,o5⟩:=j1.cells
    obtain⟨z0,z1,z2,z3,z4,z5,z6,z7,z8⟩:=j1.r.cells
    obtain⟨x0,x1,x2,x3,x4,x5⟩:=j1.e.ia
    have zf1:=Bk.free j1.r
    have zf2:=Bk.free j1.e
    simp only at o0 o1 o2 o3 o4 o5
    obtain⟨f1,f2,f3,f4⟩:=uh (s0:=s0) (s1:=s1) (s2:=s2) (s3:=s3) (s4:=s4) (s5:=s5) (s6:=s6) (s7:=s7) (PC:=PC) (v0:=K O 0 0) (v1:=I Q (-1)) (v2:=I Q a) (v3:=.bool P) (v4:=.bool ST) (v5:=I Q 0) j1 j2 j3 hAh
    go_upto_region 22 with fail
    go_region
    generalize hv9:((((((((((((((((((W.setCell ⟨(w.heap.size+1+1),0,O⟩ (I N s0)).setCell ⟨(w.heap.size+1+1),1,O⟩ (I N s1)).setCell ⟨(w.heap.size+1+1),2,O⟩ (I N s2)).setCell ⟨(w.heap.size+1+1),3,O⟩ (I N s3)).setCell ⟨(w.heap.size+1+1),4,O⟩ (I N s4)).setCell ⟨(w.heap.size+1+1),5,O⟩ (I N s5)).setCell ⟨(w.heap.size+1+1),6,O⟩ (I N s6)).setCell ⟨(w.heap.size+1+1),7,O⟩ (I N s7)).setCell ⟨(w.heap.size+1+1),8,O⟩ (I Q PC))).setCell ⟨(w.heap.size+1+1+1),0,O⟩ ((K O 0 0))).setCell ⟨(w.heap.size+1+1+1),1,O⟩ (I Q (-1))).setCell ⟨(w.heap.size+1+1+1),2,O⟩ (I Q a)).setCell ⟨(w.heap.size+1+1+1),3,O⟩ (.bool P)).setCell ⟨(w.heap.size+1+1+1),4,O⟩ (.bool ST)).setCell ⟨(w.heap.size+1+1+1),5,O⟩ (I Q 0))).drew)=v9
    replace hv9:(cr (bm W (w.heap.size+1+1) (I N s0) (I N s1) (I N s2) (I N s3) (I N s4) (I N s5) (I N s6) (I N s7) (I Q PC)) (w.heap.size+1+1+1) (K O 0 0) (I Q (-1)) (I Q a) (.bool P) (.bool ST) (I Q 0)).drew=v9:=hv9
    rw[hv9] at f1 f2 f3 f4
    clear hv9 j1 j2 j3 c0 c1 c2 c3 c4 c5 c6 c7 c8 o0 o1 o2 o3 o4 o5 z0 z1 z2 z3 z4 z5 z6 z7 z8 zf1 zf2 x0 x1 x2 x3 x4 x5
    obtain⟨c0,c1,c2,c3,c4,c5,c6,c7,c8⟩:=f1.cells
    obtain⟨o0,o1,o2,o3,o4,o5⟩:=f2.ia
    go_wp
    exact bodyPost_ret (v:=.tuple #[.agg #[I N s0,I N s1,I N s2,I N s3,I N s4,I N s5,I N s6,I N s7,I Q PC],.agg #[(K O 0 0),I Q (-1),I Q a,.bool P,.bool ST,I Q 0]]) (by simp[results,Tryz.results90,go_sem,c0,c1,c2,c3,c4,c5,c6,c7,c8,o0,o1,o2,o3,o4,o5]) rfl ⟨by rw[HA2.out];rfl,by rw[HA2.out];exact f3,f4⟩
 case rest=>
  obtain⟨rfl,xs',wr,h8,hI',hM',hG',hAA⟩:=hcut
  clear hI hM hG x3 p0 e0 e1 e2 e3 e4 e5 e6 e7 hLd HA HAW EV EU kx kp
  obtain⟨s0,s1,s2,s3,s4,s5,s6,s7,rfl⟩:=aD h8
  obtain⟨c0,c1,c2,c3,c4,c5,c6,c7,c8⟩:=hI'.c.cells
  have zf:=Bk.free hI'.c
  replace hw1:=hw1.out
  go_upto_region 24 with fail
  obtain⟨g1,g2⟩:=j6 hI' hM' hG' hAh (C _) 8 (I Q (pc+1))
  have g3:jl w (wc.setCell ⟨w.heap.size,8,O⟩ (I Q (pc+1))) w.heap.size [s0,s1,s2,s3,s4,s5,s6,s7] (pc+1) ⟨op,dn,s,tn,un,a',k',pl⟩ ⟨[],-1,a,wr,P,0⟩:=
   ⟨Bk.put hI'.c 8 (I Q (pc+1)),Bk.off hI'.i (p:=⟨w.heap.size,8,O⟩) (by show w.heap.size+1≠w.heap.size;omega) _,Bk.off hI'.r (p:=⟨w.heap.size,8,O⟩) (by show w.heap.size+1+1≠w.heap.size;omega) _,Bk.off hI'.e (p:=⟨w.heap.size,8,O⟩) (by show w.heap.size+1+1+1≠w.heap.size;omega) _,Bk.off hI'.o (p:=⟨w.heap.size,8,O⟩) (by show w.heap.size+1+1+1+1≠w.heap.size;omega) _⟩
  clear hI' hM' hG' c0 c1 c2 c3 c4 c5 c6 c7 c8 zf hw1
  generalize wc.setCell ⟨w.heap.size,8,O⟩ (I Q (pc+1))=y2 at *
  obtain⟨c0,c1,c2,c3,c4,c5,c6,c7,c8⟩:=g3.c.cells
  obtain⟨o0,o1,o2,o3,o4,o5⟩:=g3.cells
  obtain⟨z0,z1,z2,z3,z4,z5,z6,z7,z8⟩:=g3.r.cells
  obtain⟨x0,x1,x2,x3,x4,x5⟩:=g3.e.ia
  have zf1:=Bk.free g3.r
  have zf2:=Bk.free g3.e
  simp only at o0 o1 o2 o3 o4 o5
  obtain⟨f1,f2,f3,f4⟩:=uh (s0:=s0) (s1:=s1) (s2:=s2) (s3:=s3) (s4:=s4) (s5:=s5) (s6:=s6) (s7:=s7) (PC:=pc+1) (v0:=K O 0 0) (v1:=I Q (-1)) (v2:=I Q a) (v3:=.bool wr) (v4:=.bool P) (v5:=I Q 0) g3 g1 g2 hAh
  go_region
  generalize hv9:((((((((((((((((((y2.setCell ⟨(w.heap.size+1+1),0,O⟩ (I N s0)).setCell ⟨(w.heap.size+1+1),1,O⟩ (I N s1)).setCell ⟨(w.heap.size+1+1),2,O⟩ (I N s2)).setCell ⟨(w.heap.size+1+1),3,O⟩ (I N s3)).setCell ⟨(w.heap.size+1+1),4,O⟩ (I N s4)).setCell ⟨(w.heap.size+1+1),5,O⟩ (I N s5)).setCell ⟨(w.heap.size+1+1),6,O⟩ (I N s6)).setCell ⟨(w.heap.size+1+1),7,O⟩ (I N s7)).setCell ⟨(w.heap.size+1+1),8,O⟩ (I Q (pc+1)))).setCell ⟨(w.heap.size+1+1+1),0,O⟩ ((K O 0 0))).setCell ⟨(w.heap.size+1+1+1),1,O⟩ (I Q (-1))).setCell ⟨(w.heap.size+1+1+1),2,O⟩ (I Q a)).setCell ⟨(w.heap.size+1+1+1),3,O⟩ (.bool wr)).setCell ⟨(w.heap.size+1+1+1),4,O⟩ (.bool P)).setCell ⟨(w.heap.size+1+1+1),5,O⟩ (I Q 0))).drew)=v9
  replace hv9:(cr (bm y2 (w.heap.size+1+1) (I N s0) (I N s1) (I N s2) (I N s3) (I N s4) (I N s5) (I N s6) (I N s7) (I Q (pc+1))) (w.heap.size+1+1+1) (K O 0 0) (I Q (-1)) (I Q a) (.bool wr) (.bool P) (I Q 0)).drew=v9:=hv9
  rw[hv9] at f1 f2 f3 f4
  clear hv9 g1 g2 g3 c0 c1 c2 c3 c4 c5 c6 c7 c8 o0 o1 o2 o3 o4 o5 z0 z1 z2 z3 z4 z5 z6 z7 z8 zf1 zf2
  obtain⟨c0,c1,c2,c3,c4,c5,c6,c7,c8⟩:=f1.cells
  obtain⟨o0,o1,o2,o3,o4,o5⟩:=f2.ia
  go_wp
  exact bodyPost_ret (v:=.tuple #[.agg #[I N s0,I N s1,I N s2,I N s3,I N s4,I N s5,I N s6,I N s7,I Q (pc+1)],.agg #[(K O 0 0),I Q (-1),I Q a,.bool wr,.bool P,I Q 0]]) (by simp[results,Tryz.results90,go_sem,c0,c1,c2,c3,c4,c5,c6,c7,c8,o0,o1,o2,o3,o4,o5]) rfl ⟨by rw[hAA.out.1,hAA.out.2.1,hAA.out.2.2];rfl,f3,f4⟩
end
section
variable {w w':World}{X:XP}{k:Lk}{m:Mc}
theorem Fl (h:Ex w X k m)(t:Nat)(ht:t<k.n)(i:aM)(late:Bool)(hm:gW k (m.cs t).pc=Z i)(hq:i.op=17\/i.op=20\/i.op=21):
 Calls Tryz.prog 54 #[J (Z ⟨X.x,0,O⟩),I Q t,iv i,.bool late] w (FJ w X k m (m.cs t) (DE k m t (m.cs t) late i)):=by
 have hf:=h.lk.n64
 have hi:=h.lk.DD hm
 obtain⟨hp0,hp1,-,-⟩:=ff hm
 have hl:=h.lk.parts.2.1
 have hx:=h.mc.cs t ht
 have HE8:=G hx
 obtain⟨r0,r1,r2,r3,r4,r5,r6,r7,pc,ec⟩:=h.bC ht
 rw[ec] at hp0 hp1 hx ⊢
 simp only at hp0 hp1 hx
 have hd:=hi.d
 have hs:=hi.s
 obtain⟨op,d,s,t',u,a',k',pl⟩:=i
 simp only at hd hs hq
 have HQ:=G hq
 clear hq
 obtain⟨dn,rfl⟩:∃ n:Nat,d=n:=⟨d.toNat,by omega⟩
 obtain⟨sn,rfl⟩:∃ n:Nat,s=n:=⟨s.toNat,by omega⟩
 have hd8:dn<8:=by omega
 have hs8:sn<8:=by omega
 have hS32:=hx.2.at_ sn
 have hHI:=G hi
 obtain⟨R,hR⟩:∃ R,R=DE k m t ⟨[r0,r1,r2,r3,r4,r5,r6,r7],pc⟩ late ⟨op,dn,sn,t',u,a',k',pl⟩:=⟨_,rfl⟩
 rw[<-hR]
 have HR:=G hR
 clear hR
 have q0:=Ib.made w op dn sn t' u a' k' pl
 have q1:=Cb.made (w.alloc (H #[I Q op,I Q dn,I Q sn,I Q t',I Q u,I Q a',I N k',I Q pl] 121)) [0,0,0,0,0,0,0,0] 0
 have q2:=Bk.made ((w.alloc (H #[I Q op,I Q dn,I Q sn,I Q t',I Q u,I Q a',I N k',I Q pl] 121)).alloc (H (bO [0,0,0,0,0,0,0,0] 0).toArray 111)) 64 #[K O 0 0,I Q 0,I Q 0,.bool P,.bool P,I Q 0]
 simp only[World.size_alloc] at q1 q2
 have b0:Below w.heap.size w (((w.alloc (H #[I Q op,I Q dn,I Q sn,I Q t',I Q u,I Q a',I N k',I Q pl] 121)).alloc (H (bO [0,0,0,0,0,0,0,0] 0).toArray 111)).alloc (H #[K O 0 0,I Q 0,I Q 0,.bool P,.bool P,I Q 0] 64)):=(((F _ _).alloc (C _) _).alloc (by simp) _).alloc (by simp;omega) _
 replace q0:=Bk.alloc (Bk.alloc q0 (H (bO [0,0,0,0,0,0,0,0] 0).toArray 111)) (H #[K O 0 0,I Q 0,I Q 0,.bool P,.bool P,I Q 0] 64)
 replace q1:=Bk.alloc q1 (H #[K O 0 0,I Q 0,I Q 0,.bool P,.bool P,I Q 0] 64)
 unfold iv
 simp only[bO,List.map_cons,List.map_nil,List.cons_append,List.nil_append] at q0 q1 q2 b0 ⊢
 go_enter Tryz.func54,Tryz.ntmps54
 go_upto_region 1 with fail
 generalize (((w.alloc (H #[I Q op,I Q dn,I Q sn,I Q t',I Q u,I Q a',I N k',I Q pl] 121)).alloc (H #[I N 0,I N 0,I N 0,I N 0,I N 0,I N 0,I N 0,I N 0,I Q 0] 111)).alloc (H #[K O 0 0,I Q 0,I Q 0,.bool P,.bool P,I Q 0] 64))=x at *
 have h2:=h.below b0
 have c5:=h2.c5
 obtain⟨c0,c1,c2,c3,c4,c5',c6,c7,c8⟩:=h2.core ht ec
 go_upto_region 2 with fail
 have hI:wF (x.alloc (H #[I N r0,I N r1,I N r2,I N r3,I N r4,I N r5,I N r6,I N r7,I Q pc] 111)) w.heap.size x.heap.size [r0,r1,r2,r3,r4,r5,r6,r7] pc ⟨op,dn,sn,t',u,a',k',pl⟩:=
  ⟨Bk.alloc q0 _,Bk.alloc q1 _,Bk.alloc q2 _,Cb.made x [r0,r1,r2,r3,r4,r5,r6,r7] pc,q2.lt⟩
 replace b0:=b0.alloc (o:=H #[I N r0,I N r1,I N r2,I N r3,I N r4,I N r5,I N r6,I N r7,I Q pc] 111) b0.size
 clear q0 q1 q2 h2 c0 c1 c2 c3 c4 c5 c5' c6 c7 c8
 generalize x.heap.size=b at *
 generalize x.alloc (H #[I N r0,I N r1,I N r2,I N r3,I N r4,I N r5,I N r6,I N r7,I Q pc] 111)=y at *
 have h2:=h.below b0
 obtain⟨e0,e1,e2,e3,e4,e5,e6,e7⟩:=hI.di.cells
 simp only at e0 e1 e2 e3 e4 e5 e6 e7
 have cS:=hI.dc.at_ rfl hs8
 have x3:=h2.c3
 have x4:=h2.c4
 generalize hSe:aG [r0,r1,r2,r3,r4,r5,r6,r7] sn=S at *
 have ES:=G hSe
 clear hSe
 have hHas:∀ j,w.heap.size<=j->¬ X.Has k.n j:=fun j hj e=>by have:=h.lt (XP.iU e);omega
 have hOwn:∀ j,X.Own k.n j->j<w.heap.size:=fun j e=>h.lt e
 have hby:b<y.heap.size:=Bk.lt hI.dc
 have hbl:=hI.lt
 have HX:=G h
 have HX2:=G h2
 have hdi0:(0:Int)<=dn:=by omega
 have hdi1:(dn:Int)<8:=by omega
 have hsi0:(0:Int)<=sn:=by omega
 have hsi1:(sn:Int)<8:=by omega
 have kx:∀ (W:World) (u:Value) (i j:Nat),(W.setCell ⟨b,i,O⟩ u).cell? ⟨X.x,j,O⟩=W.cell? ⟨X.x,j,O⟩:=fun W u i j=>cj (by have:=h.ptr.lt;omega)
 have kn:∀ (W:World) (u:Value) (i j:Nat),(W.setCell ⟨b,i,O⟩ u).cell? ⟨w.heap.size,j,O⟩=W.cell? ⟨w.heap.size,j,O⟩:=fun W u i j=>cj (by omega)
 have hw1:Hid (wrap64 (pc+1)=pc+1):=G (IntWalk.wrap64_in _ (by omega))
 have hpp:Hid (0<=pc/\pc<1000):=G (by omega)
 have hBB:=G b0
 have hII:=G hI
 have hLL:=G (And.intro hby hbl)
 clear h h2 hp0 hp1 hl hd hs b0 hby hbl hx
 go_upto_block 0 with fail
 go_cut [10] (fun v wx=>v=J (Z ⟨b,0,O⟩)/\F8 w X k b pc ⟨op,dn,sn,t',u,a',k',pl⟩ R wx)
 case first=>
  by_cases h22:op=22
  ·exact absurd h22 (by have:=HQ.out;omega)
  ·by_cases h23:op=23
   ·exact absurd h23 (by have:=HQ.out;omega)
   ·have hn22:(op==22)=P:=by simpa using h22
    have hn23:(op==23)=P:=by simpa using h23
    have HN:=G (And.intro h22 h23)
    clear h22 h23 hI
    cases hfm:fA k.zs a' S with
    | none=>
     have HNo:Hid (R=O):=G (by
      rw[HR.out]
      simp only[DE,if_neg HN.out.1,if_neg HN.out.2]
      simp[ES.out,hfm])
     have hAd:Hid (∀ W,Mm W X.p X.q X.g X.s k.zs m.ws->Calls Tryz.prog 89 #[J (Z ⟨X.p,0,O⟩),I Q a',I N S] W fun e w'=>e=.returned (.tuple #[I Q 0,.bool P])/\w'=W):=G fun W hW=>(sP hW a' S hS32.1 hS32.2 (by
      unfold fA at hfm
      split at hfm
      ·cases hfm
      ·omega)).mono fun _ _ ⟨q1,q2⟩=>⟨q1,q2.symm⟩
     have hMm:=G HX2.out.mem
     clear hfm
     go_upto_region 3 with fail
     go_quiet ((go_at_call 89;exact Calls.quiet_of_same (hAd.out _ (hMm.out.drewN _))))
     have hI9:=hII.out.within ((ab.refl y (fun _=>False)).ed nq) (by simp)
     have hB9:=Go.below_drewN hBB.out nq
     clear x3 x4 e0 e1 e2 e3 e4 e5 e6 e7 cS kx hAd hMm
     generalize y.drewN nq=y5 at *
     go_upto_region 5 with fail
     have hTr:=G (fun W=>BF W)
     unfold zE eX at hTr
     simp only at hTr
     have hD0:wF y5 w.heap.size b [r0,r1,r2,r3,r4,r5,r6,r7] pc ⟨op,dn,sn,t',u,a',k',pl⟩/\Below w.heap.size w y5:=⟨hI9,hB9⟩
     clear hI9 hB9
     refine cG [2,3] (FQ w b [r0,r1,r2,r3,r4,r5,r6,r7] pc ⟨op,dn,sn,t',u,a',k',pl⟩ [I N r0,I N r1,I N r2,I N r3,I N r4,I N r5,I N r6,I N r7,I Q pc]) (fun _ _ _=>True) (fun vs=>{ tmps:=#[J (Z ⟨X.x,0,O⟩),I Q (t:Int),.agg #[I Q op,I Q (dn:Int),I Q (sn:Int),I Q t',I Q u,I Q a',I N k',I Q pl],.bool late,L,L,J (Z ⟨w.heap.size,0,O⟩),L,J (Z ⟨w.heap.size+1,0,O⟩),J (Z ⟨w.heap.size+1+1,0,O⟩),J (Z ⟨b,0,O⟩),L,I Q 0,.bool P,J (Z ⟨X.x,0,O⟩),J (Z ⟨X.x,0,O⟩),J (Z ⟨X.x,5,O⟩),K (Z ⟨X.kb,0,O⟩) k.n k.n,I Q (t:Int),J (Z ⟨X.kb,t*9,O⟩),.agg #[I N r0,I N r1,I N r2,I N r3,I N r4,I N r5,I N r6,I N r7,I Q pc],J (Z ⟨w.heap.size,0,O⟩),I Q op,.tuple #[I Q 0,.bool P],J (Z ⟨X.x,0,O⟩),J (Z ⟨X.x,0,O⟩),J (Z ⟨X.x,3,O⟩),J (Z ⟨X.p,0,O⟩),J (Z ⟨w.heap.size,5,O⟩),I Q a',J (Z ⟨w.heap.size,2,O⟩),I Q (sn:Int),J (Z ⟨b,0,O⟩),J (Z ⟨b,sn,O⟩),I N S,.tuple #[I Q 0,.bool P],I Q 0,.bool P,.bool P,.bool T,vs 0,vs 1,L,L,L,L,L,L,L,L,.bool P,.bool P,L,L,L,L,L,L,L,L,L,L,L,L,L,.bool P,.bool P,L,L,L,L,L,L,L,L,L,L,L,L,L,L,L,L,L,L,L,L],defers:=[] }) (pJ [.agg #[I N r0,I N r1,I N r2,I N r3,I N r4,I N r5,I N r6,I N r7,I Q pc],.agg #[K O 0 0,I Q (-1),I Q (-1),.bool P,.bool P,I Q 11],L,L]) ?ghm ?ghr ?ghc ?ghnd ?ghlit ?gh0 ?ghW ?ghF ?ghS ?gops ?gdone
     case ghm=>kernel_rfl
     case ghr=>kernel_rfl
     case ghc=>kernel_rfl
     case ghnd=>decide
     case ghlit=>intro vs;rfl
     case gh0=>exact hD0
     case ghW=>exact fun k W W2 h hb=>vD h hb
     case ghF=>exact dx
     case ghS=>exact fun k W W2 _ _ i v h=>h
     case gops=>
      refine⟨?_,?_,?_,?_,trivial⟩
      ·intro vs W k h1 h2 hW hd
       obtain rfl:k=0:=Nat.le_zero.1 h2
       refine aa rfl ?_
       obtain⟨j1,-⟩:wF W w.heap.size b [r0,r1,r2,r3,r4,r5,r6,r7] pc ⟨op,dn,sn,t',u,a',k',pl⟩/\Below w.heap.size w W:=id hW;obtain⟨c0,c1,c2,c3,c4,c5,c6,c7,c8⟩:=j1.dc.cells;obtain⟨z0,z1,z2,z3,z4,z5,z6,z7,z8⟩:=j1.dr.cells;have zf:=Bk.free j1.dr;clear j1
       clear hd
       go_simp
       exact⟨rfl,F _ _⟩
      ·intro vs W k h1 h2 hW hd
       obtain rfl:k=0:=Nat.le_zero.1 h2
       refine aa rfl ?_
       clear hd
       go_simp
       refine(hTr.out _).mono ?_
       rintro e z ⟨rfl,hz⟩
       exact⟨_,rfl,rfl,hz⟩
      ·intro vs W hW hd
       have e0:vs 0=.agg #[I N r0,I N r1,I N r2,I N r3,I N r4,I N r5,I N r6,I N r7,I Q pc]:=hd 0 (by decide)
       obtain⟨j1,-⟩:wF W w.heap.size b [r0,r1,r2,r3,r4,r5,r6,r7] pc ⟨op,dn,sn,t',u,a',k',pl⟩/\Below w.heap.size w W:=id hW;obtain⟨c0,c1,c2,c3,c4,c5,c6,c7,c8⟩:=j1.dc.cells;obtain⟨z0,z1,z2,z3,z4,z5,z6,z7,z8⟩:=j1.dr.cells;have zf:=Bk.free j1.dr;clear j1
       refine aO rfl ?_
       clear hd
       go_simp
       exact⟨rfl,Er hW (I N r0) (I N r1) (I N r2) (I N r3) (I N r4) (I N r5) (I N r6) (I N r7) (I Q pc)⟩
      ·intro vs W hW hd
       have e1:vs 1=.agg #[K O 0 0,I Q (-1),I Q (-1),.bool P,.bool P,I Q 11]:=hd 1 (by decide)
       obtain⟨-,j2,-⟩:Bk W (w.heap.size+1) 111 #[I N r0,I N r1,I N r2,I N r3,I N r4,I N r5,I N r6,I N r7,I Q pc]/\Bk W (w.heap.size+1+1) 64 #[K O 0 0,I Q 0,I Q 0,.bool P,.bool P,I Q 0]/\Below w.heap.size w W:=id hW;obtain⟨z0,z1,z2,z3,z4,z5⟩:=j2.ia;have zf:=Bk.free j2;clear j2
       refine aO rfl ?_
       clear hd
       go_simp
       exact⟨rfl,Ep hW _ _ _ _ _ _⟩
     case gdone=>
      intro vs W hW hf
      have f0:vs 0=.agg #[I N r0,I N r1,I N r2,I N r3,I N r4,I N r5,I N r6,I N r7,I Q pc]:=hf 0 (by decide)
      have f1:vs 1=.agg #[K O 0 0,I Q (-1),I Q (-1),.bool P,.bool P,I Q 11]:=hf 1 (by decide)
      simp only[f0,f1]
      clear f0 f1 hf
      obtain⟨p1,p2,p3⟩:Bk W (w.heap.size+1) 111 #[I N r0,I N r1,I N r2,I N r3,I N r4,I N r5,I N r6,I N r7,I Q pc]/\Bk W (w.heap.size+1+1) 64 #[(K O 0 0),I Q (-1),I Q (-1),.bool P,.bool P,I Q 11]/\Below w.heap.size w W:=id hW
      have HBE:=G p3
      clear hW p3 hD0 hTr
      obtain⟨c0,c1,c2,c3,c4,c5,c6,c7,c8⟩:=Cb.cells (r0:=r0) (r1:=r1) (r2:=r2) (r3:=r3) (r4:=r4) (r5:=r5) (r6:=r6) (r7:=r7) (pc:=pc) p1
      obtain⟨o0,o1,o2,o3,o4,o5⟩:=p2.ia
      go_wp
      exact bodyPost_ret (v:=.tuple #[.agg #[I N r0,I N r1,I N r2,I N r3,I N r4,I N r5,I N r6,I N r7,I Q pc],.agg #[(K O 0 0),I Q (-1),I Q (-1),.bool P,.bool P,I Q 11]]) (by simp[results,Tryz.results54,go_sem,c0,c1,c2,c3,c4,c5,c6,c7,c8,o0,o1,o2,o3,o4,o5]) rfl (by rw[HNo.out];exact⟨rfl,HBE.out⟩)
    | some a=>
     obtain⟨AA,hAA⟩:∃ q,q=io m.ws ⟨[r0,r1,r2,r3,r4,r5,r6,r7],pc⟩ late ⟨op,dn,sn,t',u,a',k',pl⟩ a:=⟨_,rfl⟩
     have hE8:bg [r0,r1,r2,r3,r4,r5,r6,r7]:=by
      have:=HE8.out
      rw[ec] at this
      exact this
     have hWu:fz AA.ws:=by rw[hAA];exact yH HX.out.mc.ws hE8
     have hWl:AA.ws.length=m.ws.length:=by rw[hAA];exact yI
     have hE:bg AA.c.xs:=by rw[hAA];exact mo HX.out.mc.ws hE8
     have hal:a<m.ws.length:=by
      unfold fA at hfm
      split at hfm
      ·rename_i hc
       injection hfm with hfm
       have h3:=zo HX.out.mem.right (k:=a'.toNat) (by omega)
       have h4:=s9 (zs:=k.zs) (a:=a'.toNat) (p:=(S % 4096).toNat) (by omega) (by omega)
       have h5:=HX.out.mc.len
       omega
      ·cases hfm
     have HAcc0:=fun W (hW:Ex W X k m)=>wR hW ⟨[r0,r1,r2,r3,r4,r5,r6,r7],pc⟩ ⟨op,dn,sn,t',u,a',k',pl⟩ k.l.length a late hE8 hHI.out HQ.out hal hpp.out.1 hpp.out.2
     rw[<-hAA] at HAcc0
     have HRs:Hid (R=Z ⟨{ m with ws:=AA.ws },AA.c,a,AA.wrote,AA.stay⟩):=G (by
      rw[HR.out]
      simp only[DE,if_neg HN.out.1,if_neg HN.out.2]
      simp[ES.out,hfm,<-hAA])
     have hAd:Hid (∀ W,Mm W X.p X.q X.g X.s k.zs m.ws->Calls Tryz.prog 89 #[J (Z ⟨X.p,0,O⟩),I Q a',I N S] W fun e w'=>e=.returned (.tuple #[I Q (a:Int),.bool T])/\w'=W):=G fun W hW=>by
      unfold fA at hfm
      split at hfm
      ·rename_i hc
       injection hfm with hfm
       obtain⟨A0,rfl⟩:=Int.eq_ofNat_of_zero_le hc.1
       have h6:=yp hW A0 (by omega) S hS32.1 hS32.2 (by have:=hc.2.2;rwa [Int.toNat_natCast] at this)
       refine h6.mono fun e w' hq=>⟨?_,hq.2.symm⟩
       rw[hq.1,<-hfm,Int.toNat_natCast]
      ·cases hfm
     have hMm:=G HX2.out.mem
     clear hfm
     obtain⟨WS,⟨cxs,PC⟩,WR,ST⟩:=AA
     simp only at hWu hWl hE HRs HAcc0
     obtain⟨s0,s1,s2,s3,s4,s5,s6,s7,rfl⟩:=aD hE.1
     have HAcc:Hid (∀ W,Ex W X k m->Calls Tryz.prog 90 #[J (Z ⟨X.x,0,O⟩),.agg #[I N r0,I N r1,I N r2,I N r3,I N r4,I N r5,I N r6,I N r7,I Q pc],.agg #[I Q op,I Q dn,I Q sn,I Q t',I Q u,I Q a',I N k',I Q pl],I Q (a:Int),.bool late] W fun e w'=>e=.returned (.tuple #[.agg #[I N s0,I N s1,I N s2,I N s3,I N s4,I N s5,I N s6,I N s7,I Q PC],.agg #[(K O 0 0),I Q (-1),I Q a,.bool WR,.bool ST,I Q 0]])/\Mm w' X.p X.q X.g X.s k.zs WS/\fD W w' X.g):=G fun W hW=>HAcc0 W hW
     have HWW:=G (And.intro hWu hWl)
     clear HAcc0 hWu hWl hE hAA hE8
     go_upto_region 3 with fail
     go_quiet ((go_at_call 89;exact Calls.quiet_of_same (hAd.out _ (hMm.out.drewN _))))
     have hI9:=hII.out.within ((ab.refl y (fun _=>False)).ed nq) (by simp)
     have hB9:=Go.below_drewN hBB.out nq
     have hX9:=HX2.out.below (Go.below_drewN (F _ _) nq)
     clear x3 x4 e0 e1 e2 e3 e4 e5 e6 e7 cS kx kn hAd hMm
     have hyn:Hid (b<(y.drewN nq).heap.size):=G hLL.out.1
     generalize y.drewN nq=y5 at *
     obtain⟨c0,c1,c2,c3,c4,c5,c6,c7,c8⟩:=hI9.dc.cells
     obtain⟨e0,e1,e2,e3,e4,e5,e6,e7⟩:=hI9.di.cells
     simp only at e0 e1 e2 e3 e4 e5 e6 e7
     go_wp2_with fail
     refine(HAcc.out _ hX9).mono ?_
     rintro e y6 ⟨rfl,hM6,hO6⟩
     have hW6:ab y5 y6 (fun i=>i=X.g):=.ay hO6 (by rintro i e;injection e with e;exact .inl e.symm)
     have hg6:X.g<w.heap.size:=hOwn _ (.inr (.inr (.inr (.inr (.inr (.inl rfl))))))
     have hI6:=hI9.within hW6 (fun j hj _ e=>by omega)
     have hX6:Ex y6 { X with M:=X.M } k { m with ws:=WS }:=hX9.words hM6 hO6 HWW.out.1 HWW.out.2
     have hS6:bh w k.n X y6 { X with M:=X.M }:=(bh.ay hB9).bx (bh.words hO6)
     have hO7:∀ j,XP.Own { X with M:=X.M } k.n j->j<w.heap.size\/b<j:=fun j hj=>.inl (hOwn j hj)
     clear hI9 hB9 hX9 c0 c1 c2 c3 c4 c5 c6 c7 c8 e0 e1 e2 e3 e4 e5 e6 e7 hM6 hO6 hW6 hg6 HAcc HWW
     obtain⟨p1,p2,p3⟩:=wF.end_ (s0:=s0) (s1:=s1) (s2:=s2) (s3:=s3) (s4:=s4) (s5:=s5) (s6:=s6) (s7:=s7) (PC:=PC) (v0:=K O 0 0) (v1:=I Q (-1)) (v2:=I Q a) (v3:=.bool WR) (v4:=.bool ST) (v5:=I Q 0) hI6
     obtain⟨c0,c1,c2,c3,c4,c5,c6,c7,c8⟩:=Cb.cells hI6.dc
     obtain⟨z0,z1,z2,z3,z4,z5,z6,z7,z8⟩:=Cb.cells hI6.dr
     obtain⟨x0,x1,x2,x3,x4,x5⟩:=hI6.de.ia
     have zf1:=Bk.free hI6.dr
     have zf2:=Bk.free hI6.de
     have HFI:Hid (∀ v,ab y6 v (fun i=>w.heap.size<=i/\i<=b)->∃ M',Ex v { X with M:=M' } k { m with ws:=WS }/\bh w k.n X v { X with M:=M' }):=G fun v hv=>⟨X.M,hX6.iP hv hO7,hS6.iP hv (C _)⟩
     clear hI6 hX6 hS6 hO7
     go_wp2
     generalize hv9:((((((((((((((((y6.setCell ⟨(w.heap.size+1),0,O⟩ (I N s0)).setCell ⟨(w.heap.size+1),1,O⟩ (I N s1)).setCell ⟨(w.heap.size+1),2,O⟩ (I N s2)).setCell ⟨(w.heap.size+1),3,O⟩ (I N s3)).setCell ⟨(w.heap.size+1),4,O⟩ (I N s4)).setCell ⟨(w.heap.size+1),5,O⟩ (I N s5)).setCell ⟨(w.heap.size+1),6,O⟩ (I N s6)).setCell ⟨(w.heap.size+1),7,O⟩ (I N s7)).setCell ⟨(w.heap.size+1),8,O⟩ (I Q PC))).setCell ⟨(w.heap.size+1+1),0,O⟩ ((K O 0 0))).setCell ⟨(w.heap.size+1+1),1,O⟩ (I Q (-1))).setCell ⟨(w.heap.size+1+1),2,O⟩ (I Q a)).setCell ⟨(w.heap.size+1+1),3,O⟩ (.bool WR)).setCell ⟨(w.heap.size+1+1),4,O⟩ (.bool ST)).setCell ⟨(w.heap.size+1+1),5,O⟩ (I Q 0))=v9
     replace hv9:cr (bm y6 (w.heap.size+1) (I N s0) (I N s1) (I N s2) (I N s3) (I N s4) (I N s5) (I N s6) (I N s7) (I Q PC)) (w.heap.size+1+1) (K O 0 0) (I Q (-1)) (I Q a) (.bool WR) (.bool ST) (I Q 0)=v9:=hv9
     rw[hv9] at p1 p2 p3
     have HFE:=G (HFI.out v9 p3)
     clear hv9 p3 HFI c0 c1 c2 c3 c4 c5 c6 c7 c8 z0 z1 z2 z3 z4 z5 z6 z7 z8 x0 x1 x2 x3 x4 x5 zf1 zf2
     obtain⟨c0,c1,c2,c3,c4,c5,c6,c7,c8⟩:=p1.cells
     obtain⟨o0,o1,o2,o3,o4,o5⟩:=p2.ia
     exact bodyPost_ret (v:=.tuple #[.agg #[I N s0,I N s1,I N s2,I N s3,I N s4,I N s5,I N s6,I N s7,I Q PC],.agg #[(K O 0 0),I Q (-1),I Q a,.bool WR,.bool ST,I Q 0]]) (by simp[results,Tryz.results54,go_sem,c0,c1,c2,c3,c4,c5,c6,c7,c8,o0,o1,o2,o3,o4,o5]) rfl (by rw[HRs.out];exact⟨rfl,HFE.out⟩)
 case rest=>
  obtain⟨rfl,M',m',xs',h8,hI',hX',hS',hO',hRR⟩:=hcut
  clear hI e0 e1 e2 e3 e4 e5 e6 e7 x3 x4 cS kx kn
  obtain⟨s0,s1,s2,s3,s4,s5,s6,s7,rfl⟩:=aD h8
  obtain⟨c0,c1,c2,c3,c4,c5,c6,c7,c8⟩:=hI'.dc.cells
  have zf:=Bk.free hI'.dc
  replace hw1:=hw1.out
  have g3:=hI'.place (pc+1)
  have hfar:ab wc (wc.setCell ⟨b,8,O⟩ (I Q (pc+1))) (fun i=>w.heap.size<=i/\i<=b):=(ab.refl _ _).put _ _ _ (.inl ⟨by have:=hLL.out.2;omega,C _⟩)
  have g1:=hX'.iP hfar hO'
  have g2:=hS'.iP hfar (C _)
  go_upto_region 14 with fail
  clear hI' hX' hS' c0 c1 c2 c3 c4 c5 c6 c7 c8 zf hw1 hfar
  generalize wc.setCell ⟨b,8,O⟩ (I Q (pc+1))=y6 at *
  obtain⟨p1,p2,p3⟩:=wF.end_ (s0:=s0) (s1:=s1) (s2:=s2) (s3:=s3) (s4:=s4) (s5:=s5) (s6:=s6) (s7:=s7) (PC:=(pc+1)) (v0:=K O 0 0) (v1:=I Q (-1)) (v2:=I Q (-1)) (v3:=.bool P) (v4:=.bool P) (v5:=I Q 0) g3
  obtain⟨c0,c1,c2,c3,c4,c5,c6,c7,c8⟩:=Cb.cells g3.dc
  obtain⟨z0,z1,z2,z3,z4,z5,z6,z7,z8⟩:=Cb.cells g3.dr
  obtain⟨x0,x1,x2,x3,x4,x5⟩:=g3.de.ia
  have zf1:=Bk.free g3.dr
  have zf2:=Bk.free g3.de
  have HFI:Hid (∀ v,ab y6 v (fun i=>w.heap.size<=i/\i<=b)->∃ M',Ex v { X with M:=M' } k m'/\bh w k.n X v { X with M:=M' }):=G fun v hv=>⟨M',g1.iP hv hO',g2.iP hv (C _)⟩
  clear g1 g2 g3 hO'
  go_wp
  generalize hv9:((((((((((((((((y6.setCell ⟨(w.heap.size+1),0,O⟩ (I N s0)).setCell ⟨(w.heap.size+1),1,O⟩ (I N s1)).setCell ⟨(w.heap.size+1),2,O⟩ (I N s2)).setCell ⟨(w.heap.size+1),3,O⟩ (I N s3)).setCell ⟨(w.heap.size+1),4,O⟩ (I N s4)).setCell ⟨(w.heap.size+1),5,O⟩ (I N s5)).setCell ⟨(w.heap.size+1),6,O⟩ (I N s6)).setCell ⟨(w.heap.size+1),7,O⟩ (I N s7)).setCell ⟨(w.heap.size+1),8,O⟩ (I Q (pc+1)))).setCell ⟨(w.heap.size+1+1),0,O⟩ ((K O 0 0))).setCell ⟨(w.heap.size+1+1),1,O⟩ (I Q (-1))).setCell ⟨(w.heap.size+1+1),2,O⟩ (I Q (-1))).setCell ⟨(w.heap.size+1+1),3,O⟩ (.bool P)).setCell ⟨(w.heap.size+1+1),4,O⟩ (.bool P)).setCell ⟨(w.heap.size+1+1),5,O⟩ (I Q 0))=v9
  replace hv9:cr (bm y6 (w.heap.size+1) (I N s0) (I N s1) (I N s2) (I N s3) (I N s4) (I N s5) (I N s6) (I N s7) (I Q (pc+1))) (w.heap.size+1+1) (K O 0 0) (I Q (-1)) (I Q (-1)) (.bool P) (.bool P) (I Q 0)=v9:=hv9
  rw[hv9] at p1 p2 p3
  have HFE:=G (HFI.out v9 p3)
  clear hv9 p3 HFI c0 c1 c2 c3 c4 c5 c6 c7 c8 z0 z1 z2 z3 z4 z5 z6 z7 z8 x0 x1 x2 x3 x4 x5 zf1 zf2
  obtain⟨c0,c1,c2,c3,c4,c5,c6,c7,c8⟩:=p1.cells
  obtain⟨o0,o1,o2,o3,o4,o5⟩:=p2.ia
  exact bodyPost_ret (v:=.tuple #[.agg #[I N s0,I N s1,I N s2,I N s3,I N s4,I N s5,I N s6,I N s7,I Q (pc+1)],.agg #[(K O 0 0),I Q (-1),I Q (-1),.bool P,.bool P,I Q 0]]) (by simp[results,Tryz.results54,go_sem,c0,c1,c2,c3,c4,c5,c6,c7,c8,o0,o1,o2,o3,o4,o5]) rfl (by rw[hRR.out];exact⟨rfl,HFE.out⟩)
end
section
variable {w w':World}{X:XP}{k:Lk}{m:Mc}
theorem B2 (h:Ex w X k m)(t:Nat)(ht:t<k.n)(late:Bool)(hq:∀ i,gW k (m.cs t).pc=Z i->i.op=17\/i.op=20\/i.op=21):
 Calls Tryz.prog 24 #[J (Z ⟨X.x,0,O⟩),I Q t,.bool late] w (zK w X k (dw k m t late)):=by
 have HQ:=G hq
 clear hq
 have hnn:=h.lk.n64
 have hl:=h.lk.parts.2.1
 have hx8:=G (h.mc.cs t ht)
 have HX:=G h
 have hOwn:∀ i,X.Own k.n i->i<w.heap.size:=fun i hi=>h.lt hi
 have q0:=Bk.made w 64 #[K O 0 0,I Q 0,I Q 0,.bool P,.bool P,I Q 0]
 have b0:Below w.heap.size w (w.alloc (H #[K O 0 0,I Q 0,I Q 0,.bool P,.bool P,I Q 0] 64)):=(F _ _).alloc (C _) _
 cases hm:gW k (m.cs t).pc with
 | none=>
  rw[nJ hm]
  go_enter Tryz.func24,Tryz.ntmps24
  go_upto_region 1 with fail
  generalize w.alloc (H #[K O 0 0,I Q 0,I Q 0,.bool P,.bool P,I Q 0] 64)=y at *
  have h2:=h.below b0
  have hst:=rn h2 t ht hm
  unfold tF iv aM.zero at hst
  simp only at hst
  clear h
  go_wp2_with fail
  refine hst.mono ?_
  rintro e z1 ⟨rfl,hz⟩
  clear hst
  replace h2:=h2.below hz
  replace q0:=(hz.block _ q0.lt).trans q0
  replace b0:=b0.trans (hz.mono b0.size)
  clear hz
  go_upto_region 3 with fail
  have hz:=(F z1.heap.size z1).alloc (C _) (H #[I Q 0,I Q 0,I Q 0,I Q 0,I Q 0,I Q 0,I N 0,I Q 0] 121)
  replace h2:=h2.below hz
  replace q0:Bk _ w.heap.size _ _:=(hz.block _ (Bk.lt q0)).trans q0
  replace b0:=b0.trans (hz.mono b0.size)
  clear hz
  generalize z1.heap.size=b7 at *
  generalize z1.alloc (H #[I Q 0,I Q 0,I Q 0,I Q 0,I Q 0,I Q 0,I N 0,I Q 0] 121)=z2 at *
  have hTr:=BF z2
  unfold zE eX at hTr
  simp only at hTr
  go_wp2_with fail
  refine hTr.mono ?_
  rintro e z ⟨rfl,hz⟩
  have hx:=h2.below hz
  replace q0:Bk z w.heap.size 64 #[K O 0 0,I Q 0,I Q 0,.bool P,.bool P,I Q 0]:=(hz.block _ (Bk.lt q0)).trans q0
  have hst:=bh.ay (n:=k.n) (X:=X) (b0.trans (hz.mono b0.size))
  have hfar:∀ i,X.Own k.n i->i≠w.heap.size/\True:=fun i hi=>⟨by have:=hOwn i hi;omega,trivial⟩
  clear hz h2 b0 hTr
  obtain⟨y0,y1,y2,y3,y4,y5⟩:=q0.ia
  have zf:=Bk.free q0
  have p1:=cx q0 (K O 0 0) (I Q (-1)) (I Q (-1)) (.bool P) (.bool P) (I Q 11)
  have p2:=ba (y:=z) (g:=w.heap.size) (K O 0 0) (I Q (-1)) (I Q (-1)) (.bool P) (.bool P) (I Q 11)
  have l6:=dz (dD.nil w.heap.size z) p2 (by rintro b' rfl;exact⟨_,_,q0,by decide⟩)
  have h6:=hx.kept p2 (fun i hi e=>(hfar i hi).1 e)
  have st6:=hst.oD p2 (fun i e=>by omega)
  have HFE:=G (And.intro l6 (And.intro h6 st6))
  clear l6 h6 st6 hx hst
  go_wp2
  generalize hv9:((((((z.setCell ⟨w.heap.size,0,O⟩ (K O 0 0)).setCell ⟨w.heap.size,1,O⟩ (I Q (-1))).setCell ⟨w.heap.size,2,O⟩ (I Q (-1))).setCell ⟨w.heap.size,3,O⟩ (.bool P)).setCell ⟨w.heap.size,4,O⟩ (.bool P)).setCell ⟨w.heap.size,5,O⟩ (I Q 11))=v9
  replace hv9:cr z w.heap.size (K O 0 0) (I Q (-1)) (I Q (-1)) (.bool P) (.bool P) (I Q 11)=v9:=hv9
  rw[hv9] at p1 HFE
  clear hv9 p2 q0 y0 y1 y2 y3 y4 y5 zf
  obtain⟨o0,o1,o2,o3,o4,o5⟩:=p1.ia
  exact bodyPost_ret (v:=.agg #[K O 0 0,I Q (-1),I Q (-1),.bool P,.bool P,I Q 11]) (by simp[results,Tryz.results24,go_sem,o0,o1,o2,o3,o4,o5]) rfl ⟨K O 0 0,X.M,rfl,HFE.out.1,HFE.out.2.1,HFE.out.2.2⟩
 | some i=>
  have hiM:=h.lk.DD hm
  rw[zU hm hiM]
  obtain⟨R,hR⟩:∃ R,R=DE k m t (m.cs t) late i:=⟨_,rfl⟩
  rw[<-hR]
  have HR:=G hR
  clear hR
  go_enter Tryz.func24,Tryz.ntmps24
  go_upto_region 1 with fail
  generalize w.alloc (H #[K O 0 0,I Q 0,I Q 0,.bool P,.bool P,I Q 0] 64)=y at *
  have h2:=h.below b0
  have hst:=uo h2 t ht hm
  unfold pt iv at hst
  clear h
  go_wp2_with fail
  refine hst.mono ?_
  rintro e z1 ⟨rfl,hz⟩
  clear hst
  replace h2:=h2.below hz
  replace q0:=(hz.block _ q0.lt).trans q0
  replace b0:=b0.trans (hz.mono b0.size)
  clear hz
  have HDO:=G (fun W (hW:Ex W X k m)=>Fl hW t ht i late hm (HQ.out i hm))
  rw[<-HR.out] at HDO
  obtain⟨op,d,s,t',u,a',k',pl⟩:=i
  unfold iv at HDO
  simp only at HDO
  go_upto_region 4 with fail
  have hz:=(F z1.heap.size z1).alloc (C _) (H #[I Q op,I Q d,I Q s,I Q t',I Q u,I Q a',I N k',I Q pl] 121)
  have q7:=Ib.made z1 op d s t' u a' k' pl
  replace h2:=h2.below hz
  replace q0:Bk _ w.heap.size _ _:=(hz.block _ (Bk.lt q0)).trans q0
  replace b0:=b0.trans (hz.mono b0.size)
  clear hz
  generalize z1.heap.size=b7 at *
  generalize z1.alloc (H #[I Q op,I Q d,I Q s,I Q t',I Q u,I Q a',I N k',I Q pl] 121)=z2 at *
  obtain⟨e0,e1,e2,e3,e4,e5,e6,e7⟩:=q7.cells
  simp only at e0 e1 e2 e3 e4 e5 e6 e7
  cases R with
  | none=>
   replace HDO:Hid (∀ W,Ex W X k m->Calls Tryz.prog 54 #[J (Z ⟨X.x,0,O⟩),I Q t,.agg #[I Q op,I Q d,I Q s,I Q t',I Q u,I Q a',I N k',I Q pl],.bool late] W fun e w'=>e=.returned (.tuple #[cv (m.cs t).xs (m.cs t).pc,zE (K O 0 0) eX])/\Below W.heap.size W w'):=HDO
   obtain⟨r0,r1,r2,r3,r4,r5,r6,r7,pc,ec⟩:=h2.bC ht
   rw[ec] at HDO
   unfold zE eX cv at HDO
   simp only[bO,List.map_cons,List.map_nil,List.cons_append,List.nil_append] at HDO
   go_wp2_with fail
   refine(HDO.out _ h2).mono ?_
   rintro e z3 ⟨rfl,hz⟩
   replace h2:=h2.below hz
   replace q0:Bk z3 w.heap.size _ _:=(hz.block _ (Bk.lt q0)).trans q0
   replace b0:=b0.trans (hz.mono b0.size)
   clear hz q7 e0 e1 e2 e3 e4 e5 e6 e7 HDO
   go_upto_region 5 with fail
   have hz:=((F z3.heap.size z3).alloc (C _) (H #[I N r0,I N r1,I N r2,I N r3,I N r4,I N r5,I N r6,I N r7,I Q pc] 111)).alloc (by simp) (H #[(K O 0 0),I Q (-1),I Q (-1),.bool P,.bool P,I Q 11] 64)
   have o10:=Bk.made (z3.alloc (H #[I N r0,I N r1,I N r2,I N r3,I N r4,I N r5,I N r6,I N r7,I Q pc] 111)) 64 #[(K O 0 0),I Q (-1),I Q (-1),.bool P,.bool P,I Q 11]
   rw[World.size_alloc] at o10
   have hx:=h2.below hz
   replace q0:Bk _ w.heap.size 64 #[K O 0 0,I Q 0,I Q 0,.bool P,.bool P,I Q 0]:=(hz.block _ (Bk.lt q0)).trans q0
   have hst:=bh.ay (n:=k.n) (X:=X) (b0.trans (hz.mono b0.size))
   have hfar:∀ i,X.Own k.n i->i≠w.heap.size/\True:=fun i hi=>⟨by have:=hOwn i hi;omega,trivial⟩
   clear hz h2 b0
   generalize (z3.alloc (H #[I N r0,I N r1,I N r2,I N r3,I N r4,I N r5,I N r6,I N r7,I Q pc] 111)).alloc (H #[(K O 0 0),I Q (-1),I Q (-1),.bool P,.bool P,I Q 11] 64)=z4 at *
   obtain⟨o0,o1,o2,o3,o4,o5⟩:=o10.ia
   obtain⟨y0,y1,y2,y3,y4,y5⟩:=q0.ia
   have zf:=Bk.free q0
   have p1:=cx q0 (K O 0 0) (I Q (-1)) (I Q (-1)) (.bool P) (.bool P) (I Q 11)
   have p2:=ba (y:=z4) (g:=w.heap.size) (K O 0 0) (I Q (-1)) (I Q (-1)) (.bool P) (.bool P) (I Q 11)
   have l6:=dz (dD.nil w.heap.size z4) p2 (by rintro b' rfl;exact⟨_,_,q0,by decide⟩)
   have h6:=hx.kept p2 (fun i hi e=>(hfar i hi).1 e)
   have st6:=hst.oD p2 (fun i e=>by omega)
   have HFE:=G (And.intro l6 (And.intro h6 st6))
   clear l6 h6 st6 hx hst
   go_wp2
   generalize hv9:((((((z4.setCell ⟨w.heap.size,0,O⟩ (K O 0 0)).setCell ⟨w.heap.size,1,O⟩ (I Q (-1))).setCell ⟨w.heap.size,2,O⟩ (I Q (-1))).setCell ⟨w.heap.size,3,O⟩ (.bool P)).setCell ⟨w.heap.size,4,O⟩ (.bool P)).setCell ⟨w.heap.size,5,O⟩ (I Q 11))=v9
   replace hv9:cr z4 w.heap.size (K O 0 0) (I Q (-1)) (I Q (-1)) (.bool P) (.bool P) (I Q 11)=v9:=hv9
   rw[hv9] at p1 HFE
   clear hv9 p2 q0 y0 y1 y2 y3 y4 y5 zf
   obtain⟨o0,o1,o2,o3,o4,o5⟩:=p1.ia
   exact bodyPost_ret (v:=.agg #[K O 0 0,I Q (-1),I Q (-1),.bool P,.bool P,I Q 11]) (by simp[results,Tryz.results24,go_sem,o0,o1,o2,o3,o4,o5]) rfl ⟨K O 0 0,X.M,rfl,HFE.out.1,HFE.out.2.1,HFE.out.2.2⟩
  | some R=>
   obtain⟨RM,RC,AD,WR,ST⟩:=R
   have hE:=xX HX.out ht hx8.out HR.out.symm
   replace HDO:Hid (∀ W,Ex W X k m->Calls Tryz.prog 54 #[J (Z ⟨X.x,0,O⟩),I Q t,.agg #[I Q op,I Q d,I Q s,I Q t',I Q u,I Q a',I N k',I Q pl],.bool late] W fun e w'=>e=.returned (.tuple #[cv RC.xs RC.pc,zE (K O 0 0) ⟨[],-1,AD,WR,ST,0⟩])/\∃ M',Ex w' { X with M:=M' } k RM/\bh W k.n X w' { X with M:=M' }):=HDO
   obtain⟨cxs,PC⟩:=RC
   simp only at hE HDO
   obtain⟨s0,s1,s2,s3,s4,s5,s6,s7,rfl⟩:=aD hE.1
   have HE8:=G hE
   unfold zE cv at HDO
   simp only[bO,List.map_cons,List.map_nil,List.cons_append,List.nil_append] at HDO
   go_wp2_with fail
   refine(HDO.out _ h2).mono ?_
   rintro e z3 ⟨rfl,M',hx,hst⟩
   have hown:∀ i,XP.Own { X with M:=M' } k.n i->i<w.heap.size\/(z2.heap.size<=i/\i<z3.heap.size):=fun i hi=>by
    rcases hst.2.1 i hi with e | e
    ·exact .inl (hOwn i e)
    ·exact .inr ⟨e,hx.lt hi⟩
   have hzw:w.heap.size<z2.heap.size:=Bk.lt q0
   have hzs:=hst.1.size
   replace q0:Bk z3 w.heap.size _ _:=Bk.within q0 hst.1 (fun e=>by have:=hOwn _ (XP.iU e);omega)
   replace hst:=(bh.ay (n:=k.n) (X:=X) b0).bx hst
   clear h2 b0 HDO q7 e0 e1 e2 e3 e4 e5 e6 e7 hE
   go_upto_region 5 with fail
   have hz:=((F z3.heap.size z3).alloc (C _) (H #[I N s0,I N s1,I N s2,I N s3,I N s4,I N s5,I N s6,I N s7,I Q PC] 111)).alloc (by simp) (H #[(K O 0 0),I Q (-1),I Q AD,.bool WR,.bool ST,I Q 0] 64)
   have o10:=Bk.made (z3.alloc (H #[I N s0,I N s1,I N s2,I N s3,I N s4,I N s5,I N s6,I N s7,I Q PC] 111)) 64 #[(K O 0 0),I Q (-1),I Q AD,.bool WR,.bool ST,I Q 0]
   rw[World.size_alloc] at o10
   have c9:Cb ((z3.alloc (H #[I N s0,I N s1,I N s2,I N s3,I N s4,I N s5,I N s6,I N s7,I Q PC] 111)).alloc (H #[(K O 0 0),I Q (-1),I Q AD,.bool WR,.bool ST,I Q 0] 64)) z3.heap.size [s0,s1,s2,s3,s4,s5,s6,s7] PC:=Bk.alloc (Cb.made z3 [s0,s1,s2,s3,s4,s5,s6,s7] PC) _
   replace hx:=hx.below hz
   replace q0:Bk _ w.heap.size 64 #[K O 0 0,I Q 0,I Q 0,.bool P,.bool P,I Q 0]:=(hz.block _ (Bk.lt q0)).trans q0
   replace hst:=hst.grown hz
   have hFr:Fe w { X with M:=M' } k.n z3.heap.size (z3.heap.size+1):=⟨fun i hi=>by rcases hown i hi with e | e <;> omega,by omega,by omega⟩
   have hfar:∀ i,XP.Own { X with M:=M' } k.n i->i≠w.heap.size/\True:=fun i hi=>⟨(hFr.iP i hi).1,trivial⟩
   clear hz hown hzw hzs
   generalize (z3.alloc (H #[I N s0,I N s1,I N s2,I N s3,I N s4,I N s5,I N s6,I N s7,I Q PC] 111)).alloc (H #[(K O 0 0),I Q (-1),I Q AD,.bool WR,.bool ST,I Q 0] 64)=z4 at *
   generalize hb9:z3.heap.size=b9 at *
   obtain⟨b10,hb10⟩:∃ b,b=b9+1:=⟨_,rfl⟩
   rw[<-hb10] at o10 hFr ⊢
   clear hb9 hb10
   obtain⟨o0,o1,o2,o3,o4,o5⟩:=o10.ia
   cases ST with
   | true=>
    have HDo:Hid (fg k RM t ⟨[s0,s1,s2,s3,s4,s5,s6,s7],PC⟩ AD WR T=({ RM with cs:=eL RM.cs t ⟨[s0,s1,s2,s3,s4,s5,s6,s7],PC⟩ },⟨[],-1,AD,WR,T,0⟩)):=G rfl
    go_upto_region 9 with fail
    clear o0 o1 o2 o3 o4 o5
    have cx5:z4.cell? ⟨X.x,5,O⟩=Z (K (Z ⟨X.kb,0,O⟩) k.n k.n):=hx.c5
    obtain⟨r0,r1,r2,r3,r4,r5,r6,r7,pc0,ec0⟩:=hx.bC ht
    obtain⟨k0,k1,k2,k3,k4,k5,k6,k7,k8⟩:_:=hx.core ht ec0
    have zf:∀ i,z4.frozen? ⟨X.kb,i,O⟩=P:=hx.free
    obtain⟨d0,d1,d2,d3,d4,d5,d6,d7,d8⟩:=c9.cells
    have hkb:X.kb<w.heap.size:=hOwn _ (.inr (.inr (.inl rfl)))
    have hkb2:w.heap.size≠X.kb:=by omega
    have hkb3:b10≠X.kb:=by have:=hFr.n9;have:=hFr.n10;omega
    go_region
    have h4:=hx.put ht (c:=⟨[s0,s1,s2,s3,s4,s5,s6,s7],PC⟩) HE8.out
    have hw4:ab z4 (gV z4 X.kb (t*9) (bO [s0,s1,s2,s3,s4,s5,s6,s7] PC)) (fun i=>i=X.kb):=.ay (eE _ _ _) (by rintro i e;injection e with e;exact .inl e.symm)
    replace q0:=Bk.within q0 hw4 hkb2
    replace o10:=Bk.within o10 hw4 hkb3
    have st4:=hst.bx (bh.put (X:={ X with M:=M' }) (n:=k.n) (w:=z4) (t:=t*9) (vs:=bO [s0,s1,s2,s3,s4,s5,s6,s7] PC))
    generalize hv4:(((((((((z4.setCell ⟨X.kb,t*9,O⟩ (I N s0)).setCell ⟨X.kb,t*9+1,O⟩ (I N s1)).setCell ⟨X.kb,t*9+2,O⟩ (I N s2)).setCell ⟨X.kb,t*9+3,O⟩ (I N s3)).setCell ⟨X.kb,t*9+4,O⟩ (I N s4)).setCell ⟨X.kb,t*9+5,O⟩ (I N s5)).setCell ⟨X.kb,t*9+6,O⟩ (I N s6)).setCell ⟨X.kb,t*9+7,O⟩ (I N s7)).setCell ⟨X.kb,t*9+8,O⟩ (I Q PC))=v4
    replace hv4:gV z4 X.kb (t*9) (bO [s0,s1,s2,s3,s4,s5,s6,s7] PC)=v4:=hv4
    have hv4':gV z4 (XP.kb { X with M:=M' }) (t*9) (bO [s0,s1,s2,s3,s4,s5,s6,s7] PC)=v4:=hv4
    simp only[hv4] at q0 o10 st4
    replace h4:Ex v4 { X with M:=M' } k { RM with cs:=eL RM.cs t ⟨[s0,s1,s2,s3,s4,s5,s6,s7],PC⟩ }:=by rw[<-hv4];exact h4
    clear hv4 hv4' hw4 d0 d1 d2 d3 d4 d5 d6 d7 d8 k0 k1 k2 k3 k4 k5 k6 k7 k8 zf cx5 hx hst c9
    have hx:=h4.below (F _ v4).drew
    replace q0:Bk v4.drew w.heap.size 64 #[K O 0 0,I Q 0,I Q 0,.bool P,.bool P,I Q 0]:=q0
    replace o10:Bk v4.drew b10 64 #[K O 0 0,I Q (-1),I Q AD,.bool WR,.bool T,I Q 0]:=o10
    have hst:=st4.grown (F _ v4).drew
    clear h4 st4
    generalize v4.drew=v5 at *
    obtain⟨n0,n1,n2,n3,n4,n5⟩:=o10.ia
    obtain⟨y0,y1,y2,y3,y4,y5⟩:=q0.ia
    have zf:=Bk.free q0
    have p1:=cx q0 (K O 0 0) (I Q (-1)) (I Q AD) (.bool WR) (.bool T) (I Q 0)
    have p2:=ba (y:=v5) (g:=w.heap.size) (K O 0 0) (I Q (-1)) (I Q AD) (.bool WR) (.bool T) (I Q 0)
    have l6:=dz (dD.nil w.heap.size v5) p2 (by rintro b' rfl;exact⟨_,_,q0,by decide⟩)
    have h6:=hx.kept p2 (fun i hi e=>(hfar i hi).1 e)
    have st6:=hst.oD p2 (fun i e=>by omega)
    have HFE:=G (And.intro l6 (And.intro h6 st6))
    clear l6 h6 st6 hx hst
    go_wp2
    generalize hv9:((((((v5.setCell ⟨w.heap.size,0,O⟩ (K O 0 0)).setCell ⟨w.heap.size,1,O⟩ (I Q (-1))).setCell ⟨w.heap.size,2,O⟩ (I Q AD)).setCell ⟨w.heap.size,3,O⟩ (.bool WR)).setCell ⟨w.heap.size,4,O⟩ (.bool T)).setCell ⟨w.heap.size,5,O⟩ (I Q 0))=v9
    replace hv9:cr v5 w.heap.size (K O 0 0) (I Q (-1)) (I Q AD) (.bool WR) (.bool T) (I Q 0)=v9:=hv9
    rw[hv9] at p1 HFE
    clear hv9 p2 q0 y0 y1 y2 y3 y4 y5 zf
    obtain⟨o0,o1,o2,o3,o4,o5⟩:=p1.ia
    exact bodyPost_ret (v:=.agg #[K O 0 0,I Q (-1),I Q AD,.bool WR,.bool T,I Q 0]) (by simp[results,Tryz.results24,go_sem,o0,o1,o2,o3,o4,o5]) rfl (by show zK w X k (fg k RM t _ AD WR T) _ _;rw[HDo.out];exact⟨K O 0 0,M',rfl,HFE.out.1,HFE.out.2.1,HFE.out.2.2⟩)
   | false=>
    obtain⟨RR,hRR⟩:∃ q,q=fJ (t:Int) k.l 256 [s0,s1,s2,s3,s4,s5,s6,s7] PC []:=⟨_,rfl⟩
    have hE2:bg RR.xs:=by rw[hRR];exact fS HX.out.lk.ok (by omega) (by omega) _ _ _ _ HE8.out
    have HRun0:=fun(v:Value) W hW=>BR ⟨k.l,k.lo,k.un⟩ v [s0,s1,s2,s3,s4,s5,s6,s7] PC t W hW hl HX.out.lk.ok HE8.out (by omega) (by omega)
    rw[<-hRR] at HRun0
    have HDo:Hid (fg k RM t ⟨[s0,s1,s2,s3,s4,s5,s6,s7],PC⟩ AD WR P=({ RM with cs:=eL RM.cs t ⟨RR.xs,RR.pc⟩ },⟨RR.ms,RR.done,AD,WR,P,RR.e⟩)):=G (by
     unfold fg im
     simp only[Bool.false_eq_true,if_false,<-hRR])
    clear hRR
    obtain⟨uxs,P2,ms,D,E⟩:=RR
    simp only at hE2 HDo
    obtain⟨u0,u1,u2,u3,u4,u5,u6,u7,rfl⟩:=aD hE2.1
    have HE9:=G hE2
    have HRun:Hid (∀ W,Ex W { X with M:=M' } k RM->Calls Tryz.prog 55 #[.agg #[I N s0,I N s1,I N s2,I N s3,I N s4,I N s5,I N s6,I N s7,I Q PC],.agg #[X.cv,I Q k.lo,I Q k.un],I Q t] W fun e w'=>∃ m5,e=.returned (.tuple #[.agg #[I N u0,I N u1,I N u2,I N u3,I N u4,I N u5,I N u6,I N u7,I Q P2],m5,I Q D,I Q E])/\dD W.heap.size w' m5 ms/\Below W.heap.size W w'):=G fun W hW=>HRun0 _ W hW.pv.1
    have hS0:uk w X { X with M:=M' } k RM z4/\Cb z4 b9 [s0,s1,s2,s3,s4,s5,s6,s7] PC/\Bk z4 b10 64 #[(K O 0 0),I Q (-1),I Q AD,.bool WR,.bool P,I Q 0]:=⟨⟨hx,hst,q0⟩,c9,o10⟩
    clear HRun0 hE2 hx hst q0 c9
    go_upto_region 8 with fail
    clear o0 o1 o2 o3 o4 o5 o10
    refine cG [12,14,16,18] (BZ w X { X with M:=M' } k RM b9 b10 ⟨[s0,s1,s2,s3,s4,s5,s6,s7],PC⟩ ⟨[u0,u1,u2,u3,u4,u5,u6,u7],P2⟩ AD WR ms D E) (fun _ W W2=>dV W W2) (fun vs=>{ tmps:=#[J (Z ⟨X.x,0,O⟩),I Q (t:Int),.bool late,L,L,L,J (Z ⟨w.heap.size,0,O⟩),J (Z ⟨b7,0,O⟩),.bool T,J (Z ⟨b9,0,O⟩),J (Z ⟨b10,0,O⟩),.tuple #[.agg #[I Q op,I Q d,I Q s,I Q t',I Q u,I Q a',I N k',I Q pl],.bool T],J (Z ⟨X.x,0,O⟩),I Q (t:Int),.tuple #[.agg #[I Q op,I Q d,I Q s,I Q t',I Q u,I Q a',I N k',I Q pl],.bool T],.agg #[I Q op,I Q d,I Q s,I Q t',I Q u,I Q a',I N k',I Q pl],.bool T,.bool T,.bool P,L,.tuple #[.agg #[I N s0,I N s1,I N s2,I N s3,I N s4,I N s5,I N s6,I N s7,I Q PC],.agg #[K O 0 0,I Q (-1),I Q AD,.bool WR,.bool P,I Q 0]],J (Z ⟨X.x,0,O⟩),I Q (t:Int),.agg #[I Q op,I Q d,I Q s,I Q t',I Q u,I Q a',I N k',I Q pl],.bool late,.tuple #[.agg #[I N s0,I N s1,I N s2,I N s3,I N s4,I N s5,I N s6,I N s7,I Q PC],.agg #[K O 0 0,I Q (-1),I Q AD,.bool WR,.bool P,I Q 0]],.agg #[I N s0,I N s1,I N s2,I N s3,I N s4,I N s5,I N s6,I N s7,I Q PC],.agg #[K O 0 0,I Q (-1),I Q AD,.bool WR,.bool P,I Q 0],J (Z ⟨b10,5,O⟩),I Q 0,.bool P,L,J (Z ⟨b10,4,O⟩),.bool P,.bool T,vs 7,vs 0,vs 1,vs 2,vs 3,vs 4,vs 5,vs 6,vs 8,vs 9,vs 10,vs 11,vs 13,vs 15,vs 17,L,L,L,L,L,L,L,L],defers:=[] }) (lq [(6,(gu w.heap.size (.agg #[I N u0,I N u1,I N u2,I N u3,I N u4,I N u5,I N u6,I N u7,I Q P2]) ms D E)),(7,(gu w.heap.size (.agg #[I N u0,I N u1,I N u2,I N u3,I N u4,I N u5,I N u6,I N u7,I Q P2]) ms D E)),(9,(fun v W=>dD w.heap.size W v ms))] [.agg #[I N s0,I N s1,I N s2,I N s3,I N s4,I N s5,I N s6,I N s7,I Q PC],J (Z ⟨X.x,0,O⟩),J (Z ⟨X.x,0,O⟩),J (Z ⟨X.x,0,O⟩),.agg #[X.cv,I Q k.lo,I Q k.un],I Q (t:Int),L,L,.agg #[I N u0,I N u1,I N u2,I N u3,I N u4,I N u5,I N u6,I N u7,I Q P2],L,I Q D,I Q E,L,J (Z ⟨b10,0,O⟩),L,J (Z ⟨b10,1,O⟩),L,J (Z ⟨b10,5,O⟩),L]) ?ghm ?ghr ?ghc ?ghnd ?ghlit ?gh0 ?ghW ?ghF ?ghS ?gops ?gdone
    case ghm=>kernel_rfl
    case ghr=>kernel_rfl
    case ghc=>kernel_rfl
    case ghnd=>decide
    case ghlit=>intro vs;rfl
    case gh0=>exact hS0
    case ghW=>exact fun k W W2 h hb=>uw h hb
    case ghF=>exact dy (by
     intro p hp
     simp only[List.mem_cons,List.not_mem_nil,or_false] at hp
     rcases hp with rfl|rfl|rfl
     ·exact fun v W W2 h hb=>gu.below h hb
     ·exact fun v W W2 h hb=>gu.below h hb
     ·exact fun v W W2 h hb=>ez h hb)
    case ghS=>exact fun kk W W2 _ hs i v h=>gK (R:=dV) (ps:=[(6,(gu w.heap.size (.agg #[I N u0,I N u1,I N u2,I N u3,I N u4,I N u5,I N u6,I N u7,I Q P2]) ms D E)),(7,(gu w.heap.size (.agg #[I N u0,I N u1,I N u2,I N u3,I N u4,I N u5,I N u6,I N u7,I Q P2]) ms D E)),(9,(fun v W=>dD w.heap.size W v ms))]) (l:=[.agg #[I N s0,I N s1,I N s2,I N s3,I N s4,I N s5,I N s6,I N s7,I Q PC],J (Z ⟨X.x,0,O⟩),J (Z ⟨X.x,0,O⟩),J (Z ⟨X.x,0,O⟩),.agg #[X.cv,I Q k.lo,I Q k.un],I Q (t:Int),L,L,.agg #[I N u0,I N u1,I N u2,I N u3,I N u4,I N u5,I N u6,I N u7,I Q P2],L,I Q D,I Q E,L,J (Z ⟨b10,0,O⟩),L,J (Z ⟨b10,1,O⟩),L,J (Z ⟨b10,5,O⟩),L]) (by
     intro p hp
     simp only[List.mem_cons,List.not_mem_nil,or_false] at hp
     rcases hp with rfl|rfl|rfl
     ·rintro v W W2 ⟨m5,e5,h5⟩ hs;exact⟨m5,e5,hs.Dm h5⟩
     ·rintro v W W2 ⟨m5,e5,h5⟩ hs;exact⟨m5,e5,hs.Dm h5⟩
     ·exact fun v W W2 h hs=>hs.Dm h) i v W W2 h hs
    case gops=>
     refine⟨?_,?_,?_,?_,?_,?_,?_,?_,?_,?_,?_,?_,?_,?_,?_,?_,?_,?_,?_,trivial⟩
     ·intro vs W kk h1 h2 hW hd
      obtain rfl:kk=0:=Nat.le_zero.1 h2
      refine aa rfl ?_
      obtain⟨jb,jc,jo⟩:uk w X { X with M:=M' } k RM W/\Cb W b9 [s0,s1,s2,s3,s4,s5,s6,s7] PC/\Bk W b10 64 #[K O 0 0,I Q (-1),I Q AD,.bool WR,.bool P,I Q 0]:=id hW;have c0x:W.cell? ⟨X.x,0,O⟩=Z X.cv:=jb.ex.c0;have c1x:W.cell? ⟨X.x,1,O⟩=Z (I Q k.lo):=jb.ex.c1;have c2x:W.cell? ⟨X.x,2,O⟩=Z (I Q k.un):=jb.ex.c2;obtain⟨c0,c1,c2,c3,c4,c5,c6,c7,c8⟩:=jc.cells;have zf:=Bk.free jc;clear jb jc jo
      clear hd
      go_simp
      exact⟨rfl,F _ _⟩
     ·intro vs W kk h1 h2 hW hd
      obtain rfl:kk=0:=Nat.le_zero.1 h2
      refine aa rfl ?_
      clear hd
      go_simp
      exact⟨rfl,F _ _⟩
     ·intro vs W kk h1 h2 hW hd
      obtain rfl:kk=0:=Nat.le_zero.1 h2
      refine aa rfl ?_
      have e1:vs 1=J (Z ⟨X.x,0,O⟩):=hd 1 (by decide)
      clear hd
      go_simp
      exact⟨rfl,F _ _⟩
     ·intro vs W kk h1 h2 hW hd
      obtain rfl:kk=0:=Nat.le_zero.1 h2
      refine aa rfl ?_
      have e2:vs 2=J (Z ⟨X.x,0,O⟩):=hd 2 (by decide)
      clear hd
      go_simp
      exact⟨rfl,F _ _⟩
     ·intro vs W kk h1 h2 hW hd
      obtain rfl:kk=0:=Nat.le_zero.1 h2
      refine aa rfl ?_
      have e3:vs 3=J (Z ⟨X.x,0,O⟩):=hd 3 (by decide)
      obtain⟨jb,jc,jo⟩:uk w X { X with M:=M' } k RM W/\Cb W b9 [s0,s1,s2,s3,s4,s5,s6,s7] PC/\Bk W b10 64 #[K O 0 0,I Q (-1),I Q AD,.bool WR,.bool P,I Q 0]:=id hW;have c0x:W.cell? ⟨X.x,0,O⟩=Z X.cv:=jb.ex.c0;have c1x:W.cell? ⟨X.x,1,O⟩=Z (I Q k.lo):=jb.ex.c1;have c2x:W.cell? ⟨X.x,2,O⟩=Z (I Q k.un):=jb.ex.c2;obtain⟨c0,c1,c2,c3,c4,c5,c6,c7,c8⟩:=jc.cells;have zf:=Bk.free jc;clear jb jc jo
      clear hd
      go_simp
      exact⟨rfl,F _ _⟩
     ·intro vs W kk h1 h2 hW hd
      obtain rfl:kk=0:=Nat.le_zero.1 h2
      refine aa rfl ?_
      clear hd
      go_simp
      exact⟨rfl,F _ _⟩
     ·intro vs W kk h1 h2 hW hd
      obtain rfl:kk=0:=Nat.le_zero.1 h2
      refine aa rfl ?_
      have e0:vs 0=.agg #[I N s0,I N s1,I N s2,I N s3,I N s4,I N s5,I N s6,I N s7,I Q PC]:=hd 0 (by decide)
      have e4:vs 4=.agg #[X.cv,I Q k.lo,I Q k.un]:=hd 4 (by decide)
      have e5:vs 5=I Q (t:Int):=hd 5 (by decide)
      have HS:=G (HRun.out W (uk.ex hW.1))
      clear hd
      go_simp
      refine HS.out.mono ?_
      rintro e z ⟨m5,he,hm5,hz⟩
      exact⟨_,he,⟨m5,rfl,hm5.mono (uk.st hW.1).1.size⟩,hz⟩
     ·intro vs W kk h1 h2 hW hd
      obtain rfl:kk=0:=Nat.le_zero.1 h2
      refine aa rfl ?_
      obtain⟨m5,e6,hm5⟩:gu w.heap.size (.agg #[I N u0,I N u1,I N u2,I N u3,I N u4,I N u5,I N u6,I N u7,I Q P2]) ms D E (vs 6) W:=hd 6 (by decide)
      clear hd
      go_simp
      exact⟨⟨m5,rfl,hm5⟩,F _ _⟩
     ·intro vs W kk h1 h2 hW hd
      obtain rfl:kk=0:=Nat.le_zero.1 h2
      refine aa rfl ?_
      obtain⟨m5,e7,hm5⟩:gu w.heap.size (.agg #[I N u0,I N u1,I N u2,I N u3,I N u4,I N u5,I N u6,I N u7,I Q P2]) ms D E (vs 7) W:=hd 7 (by decide)
      clear hd
      go_simp
      exact⟨rfl,F _ _⟩
     ·intro vs W kk h1 h2 hW hd
      refine aa rfl ?_
      obtain⟨m5,e7,hm5⟩:gu w.heap.size (.agg #[I N u0,I N u1,I N u2,I N u3,I N u4,I N u5,I N u6,I N u7,I Q P2]) ms D E (vs 7) W:=hd 7 (by decide)
      clear hd
      go_simp
      exact⟨hm5,F _ _⟩
     ·intro vs W kk h1 h2 hW hd
      refine aa rfl ?_
      obtain⟨m5,e7,hm5⟩:gu w.heap.size (.agg #[I N u0,I N u1,I N u2,I N u3,I N u4,I N u5,I N u6,I N u7,I Q P2]) ms D E (vs 7) W:=hd 7 (by decide)
      clear hd
      go_simp
      exact⟨rfl,F _ _⟩
     ·intro vs W kk h1 h2 hW hd
      refine aa rfl ?_
      obtain⟨m5,e7,hm5⟩:gu w.heap.size (.agg #[I N u0,I N u1,I N u2,I N u3,I N u4,I N u5,I N u6,I N u7,I Q P2]) ms D E (vs 7) W:=hd 7 (by decide)
      clear hd
      go_simp
      exact⟨rfl,F _ _⟩
     ·intro vs W hW hd
      have e8:vs 8=.agg #[I N u0,I N u1,I N u2,I N u3,I N u4,I N u5,I N u6,I N u7,I Q P2]:=hd 8 (by decide)
      obtain⟨jb,jc,jo⟩:uk w X { X with M:=M' } k RM W/\Cb W b9 [s0,s1,s2,s3,s4,s5,s6,s7] PC/\Bk W b10 64 #[K O 0 0,I Q (-1),I Q AD,.bool WR,.bool P,I Q 0]:=id hW;have c0x:W.cell? ⟨X.x,0,O⟩=Z X.cv:=jb.ex.c0;have c1x:W.cell? ⟨X.x,1,O⟩=Z (I Q k.lo):=jb.ex.c1;have c2x:W.cell? ⟨X.x,2,O⟩=Z (I Q k.un):=jb.ex.c2;obtain⟨c0,c1,c2,c3,c4,c5,c6,c7,c8⟩:=jc.cells;have zf:=Bk.free jc;clear jb jc jo
      refine aO rfl ?_
      clear hd
      go_simp
      exact⟨rfl,D4 hFr hW⟩
     ·intro vs W kk h1 h2 hW hd
      refine aa rfl ?_
      clear hd
      go_simp
      exact⟨rfl,F _ _⟩
     ·intro vs W hW hd
      have h9:dD w.heap.size W (vs 9) ms:=hd 9 (by decide)
      obtain⟨a9,c9,e9x,-⟩:=h9.1.is
      have e13:vs 13=J (Z ⟨b10,0,O⟩):=hd 13 (by decide)
      obtain⟨jb,jc,jo⟩:uk w X { X with M:=M' } k RM W/\Cb W b9 [u0,u1,u2,u3,u4,u5,u6,u7] P2/\Bk W b10 64 #[K O 0 0,I Q (-1),I Q AD,.bool WR,.bool P,I Q 0]:=id hW;obtain⟨o0,o1,o2,o3,o4,o5⟩:=jo.ia;have of:=Bk.free jo;clear jb jc jo
      refine aO rfl ?_
      clear hd
      go_simp
      rw[<-e9x]
      exact⟨rfl,D3 hFr hW h9⟩
     ·intro vs W kk h1 h2 hW hd
      refine aa rfl ?_
      clear hd
      go_simp
      exact⟨rfl,F _ _⟩
     ·intro vs W hW hd
      have e10:vs 10=I Q D:=hd 10 (by decide)
      have e15:vs 15=J (Z ⟨b10,1,O⟩):=hd 15 (by decide)
      obtain⟨jb,jc,v5,hv5,jo⟩:uk w X { X with M:=M' } k RM W/\Cb W b9 [u0,u1,u2,u3,u4,u5,u6,u7] P2/\∃ v,dD w.heap.size W v ms/\Bk W b10 64 #[v,I Q (-1),I Q AD,.bool WR,.bool P,I Q 0]:=id hW;obtain⟨o0,o1,o2,o3,o4,o5⟩:=jo.ia;have of:=Bk.free jo;clear jb jc jo hv5
      refine aO rfl ?_
      clear hd
      go_simp
      exact⟨rfl,D2 hFr hW⟩
     ·intro vs W kk h1 h2 hW hd
      refine aa rfl ?_
      clear hd
      go_simp
      exact⟨rfl,F _ _⟩
     ·intro vs W hW hd
      have e11:vs 11=I Q E:=hd 11 (by decide)
      have e17:vs 17=J (Z ⟨b10,5,O⟩):=hd 17 (by decide)
      obtain⟨jb,jc,v5,hv5,jo⟩:uk w X { X with M:=M' } k RM W/\Cb W b9 [u0,u1,u2,u3,u4,u5,u6,u7] P2/\∃ v,dD w.heap.size W v ms/\Bk W b10 64 #[v,I Q D,I Q AD,.bool WR,.bool P,I Q 0]:=id hW;obtain⟨o0,o1,o2,o3,o4,o5⟩:=jo.ia;have of:=Bk.free jo;clear jb jc jo hv5
      refine aO rfl ?_
      clear hd
      go_simp
      exact⟨rfl,D1 hFr hW⟩
    case gdone=>
     intro vs W hW hf
     have f0:vs 0=.agg #[I N s0,I N s1,I N s2,I N s3,I N s4,I N s5,I N s6,I N s7,I Q PC]:=hf 0 (by decide)
     have f1:vs 1=J (Z ⟨X.x,0,O⟩):=hf 1 (by decide)
     have f2:vs 2=J (Z ⟨X.x,0,O⟩):=hf 2 (by decide)
     have f3:vs 3=J (Z ⟨X.x,0,O⟩):=hf 3 (by decide)
     have f4:vs 4=.agg #[X.cv,I Q k.lo,I Q k.un]:=hf 4 (by decide)
     have f5:vs 5=I Q (t:Int):=hf 5 (by decide)
     have f8:vs 8=.agg #[I N u0,I N u1,I N u2,I N u3,I N u4,I N u5,I N u6,I N u7,I Q P2]:=hf 8 (by decide)
     have f10:vs 10=I Q D:=hf 10 (by decide)
     have f11:vs 11=I Q E:=hf 11 (by decide)
     have f13:vs 13=J (Z ⟨b10,0,O⟩):=hf 13 (by decide)
     have f15:vs 15=J (Z ⟨b10,1,O⟩):=hf 15 (by decide)
     have f17:vs 17=J (Z ⟨b10,5,O⟩):=hf 17 (by decide)
     simp only[f0,f1,f2,f3,f4,f5,f8,f10,f11,f13,f15,f17]
     clear f0 f1 f2 f3 f4 f5 f8 f10 f11 f13 f15 f17
     obtain⟨⟨hx,hst,q0⟩,c9,m2,hl5,o10⟩:uk w X { X with M:=M' } k RM W/\Cb W b9 [u0,u1,u2,u3,u4,u5,u6,u7] P2/\∃ v,dD w.heap.size W v ms/\Bk W b10 64 #[v,I Q D,I Q AD,.bool WR,.bool P,I Q E]:=id hW
     clear hW hf hS0 HRun
     generalize vs 6=w6 at *
     generalize vs 7=w7 at *
     generalize vs 9=w9 at *
     obtain⟨a9,ca9,e9,-⟩:=hl5.1.is
     subst e9
     go_upto_region 9 with fail
     have cx5:W.cell? ⟨X.x,5,O⟩=Z (K (Z ⟨X.kb,0,O⟩) k.n k.n):=hx.c5
     obtain⟨r0,r1,r2,r3,r4,r5,r6,r7,pc0,ec0⟩:=hx.bC ht
     obtain⟨k0,k1,k2,k3,k4,k5,k6,k7,k8⟩:_:=hx.core ht ec0
     have zf:∀ i,W.frozen? ⟨X.kb,i,O⟩=P:=hx.free
     obtain⟨d0,d1,d2,d3,d4,d5,d6,d7,d8⟩:=c9.cells
     have hkb:X.kb<w.heap.size:=hOwn _ (.inr (.inr (.inl rfl)))
     have hkb2:w.heap.size≠X.kb:=by omega
     have hkb3:b10≠X.kb:=by have:=hFr.n9;have:=hFr.n10;omega
     go_region
     have h4:=hx.put ht (c:=⟨[u0,u1,u2,u3,u4,u5,u6,u7],P2⟩) HE9.out
     have hw4:ab W (gV W X.kb (t*9) (bO [u0,u1,u2,u3,u4,u5,u6,u7] P2)) (fun i=>i=X.kb):=.ay (eE _ _ _) (by rintro i e;injection e with e;exact .inl e.symm)
     replace q0:=Bk.within q0 hw4 hkb2
     replace o10:=Bk.within o10 hw4 hkb3
     have l5:=dz hl5 hw4 (by rintro b' rfl;exact⟨_,_,hx.cores,by decide⟩)
     have st4:=hst.bx (bh.put (X:={ X with M:=M' }) (n:=k.n) (w:=W) (t:=t*9) (vs:=bO [u0,u1,u2,u3,u4,u5,u6,u7] P2))
     generalize hv4:(((((((((W.setCell ⟨X.kb,t*9,O⟩ (I N u0)).setCell ⟨X.kb,t*9+1,O⟩ (I N u1)).setCell ⟨X.kb,t*9+2,O⟩ (I N u2)).setCell ⟨X.kb,t*9+3,O⟩ (I N u3)).setCell ⟨X.kb,t*9+4,O⟩ (I N u4)).setCell ⟨X.kb,t*9+5,O⟩ (I N u5)).setCell ⟨X.kb,t*9+6,O⟩ (I N u6)).setCell ⟨X.kb,t*9+7,O⟩ (I N u7)).setCell ⟨X.kb,t*9+8,O⟩ (I Q P2))=v4
     replace hv4:gV W X.kb (t*9) (bO [u0,u1,u2,u3,u4,u5,u6,u7] P2)=v4:=hv4
     have hv4':gV W (XP.kb { X with M:=M' }) (t*9) (bO [u0,u1,u2,u3,u4,u5,u6,u7] P2)=v4:=hv4
     simp only[hv4] at q0 o10 st4 l5
     replace h4:Ex v4 { X with M:=M' } k { RM with cs:=eL RM.cs t ⟨[u0,u1,u2,u3,u4,u5,u6,u7],P2⟩ }:=by rw[<-hv4];exact h4
     clear hv4 hv4' hw4 d0 d1 d2 d3 d4 d5 d6 d7 d8 k0 k1 k2 k3 k4 k5 k6 k7 k8 zf cx5 hx hst c9
     have hx:=h4.below (F _ v4).drew
     replace q0:Bk v4.drew w.heap.size 64 #[K O 0 0,I Q 0,I Q 0,.bool P,.bool P,I Q 0]:=q0
     replace o10:Bk v4.drew b10 64 #[K a9 ms.length ca9,I Q D,I Q AD,.bool WR,.bool P,I Q E]:=o10
     replace l5:dD w.heap.size v4.drew _ ms:=l5
     have hst:=st4.grown (F _ v4).drew
     clear h4 st4
     generalize v4.drew=v5 at *
     obtain⟨n0,n1,n2,n3,n4,n5⟩:=o10.ia
     obtain⟨y0,y1,y2,y3,y4,y5⟩:=q0.ia
     have zf:=Bk.free q0
     have p1:=cx q0 (K a9 ms.length ca9) (I Q D) (I Q AD) (.bool WR) (.bool P) (I Q E)
     have p2:=ba (y:=v5) (g:=w.heap.size) (K a9 ms.length ca9) (I Q D) (I Q AD) (.bool WR) (.bool P) (I Q E)
     have l6:=dz (l5) p2 (by rintro b' rfl;exact⟨_,_,q0,by decide⟩)
     have h6:=hx.kept p2 (fun i hi e=>(hfar i hi).1 e)
     have st6:=hst.oD p2 (fun i e=>by omega)
     have HFE:=G (And.intro l6 (And.intro h6 st6))
     clear l6 h6 st6 hx hst
     go_wp2
     generalize hv9:((((((v5.setCell ⟨w.heap.size,0,O⟩ (K a9 ms.length ca9)).setCell ⟨w.heap.size,1,O⟩ (I Q D)).setCell ⟨w.heap.size,2,O⟩ (I Q AD)).setCell ⟨w.heap.size,3,O⟩ (.bool WR)).setCell ⟨w.heap.size,4,O⟩ (.bool P)).setCell ⟨w.heap.size,5,O⟩ (I Q E))=v9
     replace hv9:cr v5 w.heap.size (K a9 ms.length ca9) (I Q D) (I Q AD) (.bool WR) (.bool P) (I Q E)=v9:=hv9
     rw[hv9] at p1 HFE
     clear hv9 p2 q0 y0 y1 y2 y3 y4 y5 zf
     obtain⟨o0,o1,o2,o3,o4,o5⟩:=p1.ia
     exact bodyPost_ret (v:=.agg #[K a9 ms.length ca9,I Q D,I Q AD,.bool WR,.bool P,I Q E]) (by simp[results,Tryz.results24,go_sem,o0,o1,o2,o3,o4,o5]) rfl (by show zK w X k (fg k RM t _ AD WR P) _ _;rw[HDo.out];exact⟨K a9 ms.length ca9,M',rfl,HFE.out.1,HFE.out.2.1,HFE.out.2.2⟩)
end
