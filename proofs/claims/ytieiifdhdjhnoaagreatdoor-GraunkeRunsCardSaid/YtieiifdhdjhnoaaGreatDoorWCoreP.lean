import Derived.Test.YtieiifdhdjhnoaaGreatDoorWWdB
import Derived.Test.YtieiifdhdjhnoaaGreatDoorWCell
import Derived.Deep.Cut
import Derived.Deep.QuietTactic
import Derived.Deep.RegionHeld3
import Derived.Deep.DeepCutAuto
import Derived.Deep.CutBlock
import Derived.Deep.Onto
import Derived.Deep.LoopGhost
import Derived.Laws.Cover3
set_option linter.unusedVariables false
set_option maxHeartbeats 2000000
set_option maxRecDepth 100000
open Go.Value renaming int->I,slice->J,pointer->H
open Go.IntKind renaming i64->Q,u32->O
open Option renaming none->Z,some->T
open Bool renaming false->U,true->K
open Go.Obj renaming cells->G
open Go.Lib renaming hid->F
open Go.RowKit.Below renaming refl->E
open Nat renaming le_refl->D
open Go renaming undef->C
namespace Go.Proofs.YtieiifdhdjhnoaaGreatDoor
open Go.ChangeShapes Go.WideShapes Go.ChangeAt Go.RowKit
def bP (xs:List Int)(pc:Int):List Value:=xs.map (Value.int .u32)++[I Q pc]
def cv (xs:List Int)(pc:Int):Value:=.agg (bP xs pc).toArray
theorem Bt {xs:List Int}{pc:Int}(h:xs.length=8){k:Nat}(hk:k<8):(bP xs pc).toArray[k]?=T (I O (aF xs k)):=by
 rw[List.getElem?_toArray,bP,List.getElem?_append_left (by simp;omega),List.getElem?_map,j9 (by omega)]
 rfl
theorem Bs {xs:List Int}{pc:Int}(h:xs.length=8):(bP xs pc).toArray[8]?=T (I Q pc):=by
 rw[List.getElem?_toArray,bP,List.getElem?_append_right (by simp;omega)]
 simp[h]
theorem yA {xs:List Int}{pc:Int}(h:xs.length=8)(k:Nat)(hk:k<8)(v:Int):(bP xs pc).toArray.setIfInBounds k (I O v)=(bP (xs.set k v) pc).toArray:=by
 rw[List.setIfInBounds_toArray,bP,bP,List.set_append_left _ _ (by simp;omega),List.map_set]
def Cb (w:World)(g:Nat)(xs:List Int)(pc:Int):Prop:=Bk w g 107 (bP xs pc).toArray
theorem Cb.at_ {w:World}{g:Nat}{xs:List Int}{pc:Int}(h:Cb w g xs pc)(h8:xs.length=8){k:Nat}(hk:k<8):w.cell? ⟨g,k,Z⟩=T (I O (aF xs k)):=(Bk.cell h k).trans (Bt h8 hk)
theorem Cb.pc {w:World}{g:Nat}{xs:List Int}{pc:Int}(h:Cb w g xs pc)(h8:xs.length=8):w.cell? ⟨g,8,Z⟩=T (I Q pc):=(Bk.cell h 8).trans (Bs h8)
theorem Cb.cells {w:World}{g:Nat}{r0 r1 r2 r3 r4 r5 r6 r7 pc:Int}(h:Cb w g [r0,r1,r2,r3,r4,r5,r6,r7] pc):
 w.cell? ⟨g,0,Z⟩=T (I O r0)/\w.cell? ⟨g,1,Z⟩=T (I O r1)/\w.cell? ⟨g,2,Z⟩=T (I O r2)/\w.cell? ⟨g,3,Z⟩=T (I O r3)/\
 w.cell? ⟨g,4,Z⟩=T (I O r4)/\w.cell? ⟨g,5,Z⟩=T (I O r5)/\w.cell? ⟨g,6,Z⟩=T (I O r6)/\w.cell? ⟨g,7,Z⟩=T (I O r7)/\w.cell? ⟨g,8,Z⟩=T (I Q pc):=
 ⟨Bk.cell h 0,Bk.cell h 1,Bk.cell h 2,Bk.cell h 3,Bk.cell h 4,Bk.cell h 5,Bk.cell h 6,Bk.cell h 7,Bk.cell h 8⟩
theorem Cb.below {w w':World}{g:Nat}{xs:List Int}{pc:Int}(h:Cb w g xs pc)(hb:Below w.heap.size w w'):Cb w' g xs pc:=(hb.block g (Bk.lt h)).trans h
theorem Cb.set {w:World}{g:Nat}{xs:List Int}{pc:Int}(h:Cb w g xs pc)(h8:xs.length=8){k:Nat}(hk:k<8)(v:Int):Cb (w.setCell ⟨g,k,Z⟩ (I O v)) g (xs.set k v) pc:=by
 unfold Cb
 rw[<-yA h8 k hk v]
 exact Bk.put h k _
theorem Fg (n:Int)(h:0<=n/\n<=7):bits .and .i64 n 7=n:=by
 have:n=0\/n=1\/n=2\/n=3\/n=4\/n=5\/n=6\/n=7:=by omega
 rcases this with rfl|rfl|rfl|rfl|rfl|rfl|rfl|rfl <;> rfl
theorem kS (n:Int)(h:0<=n/\n<=7)(w:World):Calls Tryz.prog 133 #[I Q n] w fun e w'=>e=.returned (I Q n)/\w=w':=by
 go_enter Tryz.func133,Tryz.ntmps133
 go_wp2
 go_ret
 exact⟨bu (by first | exact Fg n h | rw[Fg n h]),rfl⟩
theorem F0 (c:im)(v:Value)(w:World)(hv:Pv w v c)(p:Int)(i:aN)(b:Bool)
 (h:(b=U/\i=aN.zero/\(p<0\/c.l.length<=p))\/(b=K/\∃ k:Nat,p=k/\c.l[k]?=T i)):
 Calls Tryz.prog 85 #[v,I Q p] w fun e w'=>e=.returned (.tuple #[iv i,.bool b])/\Below w.heap.size w w':=by
 obtain⟨a,ca,rfl,hc1,hc2,_,ha⟩:=hv
 unfold iv
 rcases h with ⟨rfl,rfl,hp⟩ | ⟨rfl,k,rfl,hk⟩
 ·unfold aN.zero
  by_cases h0:p<0
  ·go_enter Tryz.func85,Tryz.ntmps85
   go_wp2
   refine bodyPost_ret (v:=.tuple #[.agg #[I Q 0,I Q 0,I Q 0,I Q 0,I Q 0,I Q 0,I O 0,I Q 0],.bool U]) (by simp[results,Tryz.results85,go_sem]) rfl ⟨rfl,?_⟩
   exact((E _ _).alloc (D _) _).alloc (by simp) _
  ·have h1:p>=c.l.length:=by omega
   go_enter Tryz.func85,Tryz.ntmps85
   go_wp2
   refine bodyPost_ret (v:=.tuple #[.agg #[I Q 0,I Q 0,I Q 0,I Q 0,I Q 0,I Q 0,I O 0,I Q 0],.bool U]) (by simp[results,Tryz.results85,go_sem]) rfl ⟨rfl,?_⟩
   exact((E _ _).alloc (D _) _).alloc (by simp) _
 ·obtain⟨op,d,s,t,u,a',k',pl⟩:=i
  obtain⟨g,off,rfl,hgl,e0,e1,e2,e3,e4,e5,e6,e7⟩:=ha.at_ hk
  have hlt:=(List.getElem?_eq_some_iff.1 hk).1
  have hki:(k:Int)<c.l.length:=by omega
  have hki2:decide ((k:Int)>=c.l.length)=U:=by simpa using hlt
  have hng:g≠w.heap.size:=Nat.ne_of_lt hgl
  simp only at e0 e1 e2 e3 e4 e5 e6 e7
  go_enter Tryz.func85,Tryz.ntmps85
  go_wp2
  refine bodyPost_ret (v:=.tuple #[.agg #[I Q op,I Q d,I Q s,I Q t,I Q u,I Q a',I O k',I Q pl],.bool K]) (by simp[results,Tryz.results85,go_sem]) rfl ⟨rfl,?_⟩
  exact((E _ _).alloc (D _) _).alloc (by simp) _
theorem Cb.made (w:World)(xs:List Int)(pc:Int):Cb (w.alloc (G (bP xs pc).toArray 107)) w.heap.size xs pc:=Bk.made _ _ _
theorem Dt (xs:List Int)(pc:Int)(i:aN)(self:Int)(hx:bh xs)(hi:BM i)(hm:cX i.op=U)(h0:0<=self)(h1:self<4294967296)(w:World):
 Calls Tryz.prog 132 #[cv xs pc,iv i,I Q self] w fun e w'=>e=.returned (.tuple #[I O ((fG xs i self).getD 0),.bool (fG xs i self).isSome])/\Below w.heap.size w w':=by
 obtain⟨h8,hxu⟩:=hx
 have hs:=hi.s
 have ht:=hi.t
 have hk:=hi.k
 have hsh:=hi.sh
 have hop:1<=i.op/\i.op<=13:=by
  rcases hi.op with h | h
  ·exact h
  ·exfalso;simp[cX] at hm;omega
 clear hi hm
 obtain⟨op,d,s,t,u,a',k,pl⟩:=i
 simp only at hs ht hk hsh hop
 obtain⟨sn,rfl⟩:∃ n:Nat,s=n:=⟨s.toNat,by omega⟩
 obtain⟨tn,rfl⟩:∃ n:Nat,t=n:=⟨t.toNat,by omega⟩
 have hs8:sn<8:=by omega
 have ht8:tn<8:=by omega
 have HR:Hid (∀ n:Int,0<=n/\n<=7->∀ W,Calls Tryz.prog 133 #[I Q n] W fun e w'=>e=.returned (I Q n)/\w'=W):=F fun n h W=>(kS n h W).mono fun _ _ ⟨h1,h2⟩=>⟨h1,h2.symm⟩
 have HS:=F (HR.out sn (by omega))
 have HT:=F (HR.out tn (by omega))
 clear HR
 have hA:=hxu.at_ sn
 have hB:=hxu.at_ tn
 obtain⟨r0,r1,r2,r3,r4,r5,r6,r7,rfl⟩:=aC h8
 have q0:=(Cb.made w [r0,r1,r2,r3,r4,r5,r6,r7] pc).below (Below.alloc (o:=G #[I Q op,I Q d,I Q sn,I Q tn,I Q u,I Q a',I O k,I Q pl] 117) (E _ _) (D _))
 have q1:=Ib.made (w.alloc (G (bP [r0,r1,r2,r3,r4,r5,r6,r7] pc).toArray 107)) op d sn tn u a' k pl
 have b0:Below w.heap.size w ((w.alloc (G (bP [r0,r1,r2,r3,r4,r5,r6,r7] pc).toArray 107)).alloc (G #[I Q op,I Q d,I Q sn,I Q tn,I Q u,I Q a',I O k,I Q pl] 117)):=((E _ _).alloc (D _) _).alloc (by simp) _
 rw[World.size_alloc] at q1
 unfold cv iv
 simp only[bP,List.map_cons,List.map_nil,List.cons_append,List.nil_append] at q0 q1 b0 ⊢
 have HV:Hid (fG [r0,r1,r2,r3,r4,r5,r6,r7] ⟨op,d,sn,tn,u,a',k,pl⟩ self=wM op (aF [r0,r1,r2,r3,r4,r5,r6,r7] sn) (aF [r0,r1,r2,r3,r4,r5,r6,r7] tn) k self):=F (by simp[fG])
 generalize fG [r0,r1,r2,r3,r4,r5,r6,r7] ⟨op,d,sn,tn,u,a',k,pl⟩ self=V at *
 go_enter Tryz.func132,Tryz.ntmps132
 go_upto_region 1 with fail
 generalize (w.alloc (G #[I O r0,I O r1,I O r2,I O r3,I O r4,I O r5,I O r6,I O r7,I Q pc] 107)).alloc (G #[I Q op,I Q d,I Q sn,I Q tn,I Q u,I Q a',I O k,I Q pl] 117)=x at *
 have cA:=q0.at_ rfl hs8
 have cB:=q0.at_ rfl ht8
 obtain⟨e0,e1,e2,e3,e4,e5,e6,e7⟩:=q1.cells
 simp only at e0 e1 e2 e3 e4 e5 e6 e7
 generalize aF [r0,r1,r2,r3,r4,r5,r6,r7] sn=A at *
 generalize aF [r0,r1,r2,r3,r4,r5,r6,r7] tn=B at *
 clear q0 q1 h8 hxu
 go_quiet ((go_at_call 133;first | (with_reducible exact Calls.quiet_of_same (HS.out _)) | (with_reducible exact Calls.quiet_of_same (HT.out _))))
 have ev:∀ (v:Option Int) (x:Int) (b:Bool),V=v->v.getD 0=x->v.isSome=b->(Ending.returned (.tuple #[I O x,.bool b])=.returned (.tuple #[I O (V.getD 0),.bool V.isSome])):=by
  rintro v x b rfl rfl rfl;rfl
 have HE:=F ev
 have bq:=Go.below_drewN b0 nq
 clear ev b0
 have hop2:op=1\/op=2\/op=3\/op=4\/op=5\/op=6\/op=7\/op=8\/op=9\/op=10\/op=11\/op=12\/op=13:=by omega
 clear hop
 rcases hop2 with rfl|rfl|rfl|rfl|rfl|rfl|rfl|rfl|rfl|rfl|rfl|rfl|rfl
 ·go_wp2
  go_ret2
  exact⟨HE.out _ _ _ HV.out rfl rfl,bq⟩
 ·go_wp2
  go_ret2
  exact⟨HE.out _ _ _ HV.out rfl rfl,bq⟩
 ·go_wp2
  go_ret2
  exact⟨HE.out _ _ _ HV.out (by first | rfl | simp[wM,IntKind.wrap_u32]) rfl,bq⟩
 ·go_wp2
  go_ret2
  exact⟨HE.out _ _ _ HV.out (by first | rfl | simp[wM,oW,u32_and A k hA.1 hA.2 hk.1 hk.2]) rfl,bq⟩
 ·have hk31:=hsh (.inl rfl)
  have hmin:min k.toNat 32=k.toNat:=by omega
  go_wp2
  go_ret2
  exact⟨HE.out _ _ _ HV.out rfl rfl,bq⟩
 ·have hk31:=hsh (.inr rfl)
  have hmin:min k.toNat 32=k.toNat:=by omega
  go_wp2
  go_ret2
  exact⟨HE.out _ _ _ HV.out rfl rfl,bq⟩
 ·go_wp2
  go_ret2
  exact⟨HE.out _ _ _ HV.out (by first | rfl | simp[wM,Ck,u32_or A B hA.1 hA.2 hB.1 hB.2]) rfl,bq⟩
 ·go_wp2
  go_ret2
  exact⟨HE.out _ _ _ HV.out rfl rfl,bq⟩
 ·go_wp2
  go_ret2
  exact⟨HE.out _ _ _ HV.out rfl rfl,bq⟩
 ·go_wp2
  go_ret2
  exact⟨HE.out _ _ _ HV.out rfl rfl,bq⟩
 ·go_wp2
  go_ret2
  exact⟨HE.out _ _ _ HV.out (by first | rfl | (simp[wM,IntKind.wrap_u32];omega)) rfl,bq⟩
 ·go_wp2
  go_ret2
  exact⟨HE.out _ _ _ HV.out rfl rfl,bq⟩
 ·go_wp2
  go_ret2
  exact⟨HE.out _ _ _ HV.out rfl rfl,bq⟩
theorem pk (xs:List Int)(pc:Int)(i:aN)(hx:bh xs)(hi:BM i)(hm:cX i.op=U)(p0:-9223372036854775808<=pc)(p1:pc<=1099511627776)(w:World):
 Calls Tryz.prog 131 #[cv xs pc,iv i] w fun e w'=>e=.returned (I Q (io xs pc i))/\Below w.heap.size w w':=by
 obtain⟨h8,hxu⟩:=hx
 have hs:=hi.s
 have ht:=hi.t
 have hk:=hi.k
 have hsh:=hi.sh
 have hop:1<=i.op/\i.op<=13:=by
  rcases hi.op with h | h
  ·exact h
  ·exfalso;simp[cX] at hm;omega
 clear hi hm
 obtain⟨op,d,s,t,u,a',k,pl⟩:=i
 simp only at hs ht hk hsh hop
 obtain⟨sn,rfl⟩:∃ n:Nat,s=n:=⟨s.toNat,by omega⟩
 obtain⟨tn,rfl⟩:∃ n:Nat,t=n:=⟨t.toNat,by omega⟩
 have hs8:sn<8:=by omega
 have ht8:tn<8:=by omega
 have HR:Hid (∀ n:Int,0<=n/\n<=7->∀ W,Calls Tryz.prog 133 #[I Q n] W fun e w'=>e=.returned (I Q n)/\w'=W):=F fun n h W=>(kS n h W).mono fun _ _ ⟨h1,h2⟩=>⟨h1,h2.symm⟩
 have HS:=F (HR.out sn (by omega))
 have HT:=F (HR.out tn (by omega))
 clear HR
 have hA:=hxu.at_ sn
 have hB:=hxu.at_ tn
 obtain⟨r0,r1,r2,r3,r4,r5,r6,r7,rfl⟩:=aC h8
 have q0:=(Cb.made w [r0,r1,r2,r3,r4,r5,r6,r7] pc).below (Below.alloc (o:=G #[I Q op,I Q d,I Q sn,I Q tn,I Q u,I Q a',I O k,I Q pl] 117) (E _ _) (D _))
 have q1:=Ib.made (w.alloc (G (bP [r0,r1,r2,r3,r4,r5,r6,r7] pc).toArray 107)) op d sn tn u a' k pl
 have b0:Below w.heap.size w ((w.alloc (G (bP [r0,r1,r2,r3,r4,r5,r6,r7] pc).toArray 107)).alloc (G #[I Q op,I Q d,I Q sn,I Q tn,I Q u,I Q a',I O k,I Q pl] 117)):=((E _ _).alloc (D _) _).alloc (by simp) _
 rw[World.size_alloc] at q1
 unfold cv iv
 simp only[bP,List.map_cons,List.map_nil,List.cons_append,List.nil_append] at q0 q1 b0 ⊢
 have HV:Hid (io [r0,r1,r2,r3,r4,r5,r6,r7] pc ⟨op,d,sn,tn,u,a',k,pl⟩=gL op (aF [r0,r1,r2,r3,r4,r5,r6,r7] sn) (aF [r0,r1,r2,r3,r4,r5,r6,r7] tn) pl pc):=F (by simp[io])
 generalize io [r0,r1,r2,r3,r4,r5,r6,r7] pc ⟨op,d,sn,tn,u,a',k,pl⟩=V at *
 have hmx:(pc==9223372036854775807)=U:=by simp;omega
 go_enter Tryz.func131,Tryz.ntmps131
 go_upto_region 1 with fail
 generalize (w.alloc (G #[I O r0,I O r1,I O r2,I O r3,I O r4,I O r5,I O r6,I O r7,I Q pc] 107)).alloc (G #[I Q op,I Q d,I Q sn,I Q tn,I Q u,I Q a',I O k,I Q pl] 117)=x at *
 have cA:=q0.at_ rfl hs8
 have cB:=q0.at_ rfl ht8
 have cp:x.cell? ⟨w.heap.size,8,Z⟩=T (I Q pc):=q0.pc rfl
 obtain⟨e0,e1,e2,e3,e4,e5,e6,e7⟩:=q1.cells
 simp only at e0 e1 e2 e3 e4 e5 e6 e7
 generalize aF [r0,r1,r2,r3,r4,r5,r6,r7] sn=A at *
 generalize aF [r0,r1,r2,r3,r4,r5,r6,r7] tn=B at *
 clear q0 q1 h8 hxu
 have hop2:op=1\/op=2\/op=3\/op=4\/op=5\/op=6\/op=7\/op=8\/op=9\/op=10\/op=11\/op=12\/op=13:=by omega
 clear hop
 by_cases hAB:A=B
 ·subst hAB
  go_quiet ((go_at_call 133;first | (with_reducible exact Calls.quiet_of_same (HS.out _)) | (with_reducible exact Calls.quiet_of_same (HT.out _))))
  have bq:=Go.below_drewN b0 nq
  clear b0
  rcases hop2 with rfl|rfl|rfl|rfl|rfl|rfl|rfl|rfl|rfl|rfl|rfl|rfl|rfl
  all_goals
   go_wp2
   go_ret
   exact⟨bu (by rw[HV.out];first | rfl | simp[gL] | (simp[gL];omega)),bq⟩
 ·have hne:(A==B)=U:=by simpa using hAB
  go_quiet ((go_at_call 133;first | (with_reducible exact Calls.quiet_of_same (HS.out _)) | (with_reducible exact Calls.quiet_of_same (HT.out _))))
  have bq:=Go.below_drewN b0 nq
  have HN:=F hAB
  clear b0 hAB
  rcases hop2 with rfl|rfl|rfl|rfl|rfl|rfl|rfl|rfl|rfl|rfl|rfl|rfl|rfl
  all_goals
   go_wp2
   go_ret
   exact⟨bu (by rw[HV.out];have:=HN.out;first | rfl | simp[gL,this] | (simp[gL,this];omega)),bq⟩
theorem Bu:(Tryz.prog.info? 151).map (fun i=>(i.zero,i.size,i.bytes))=T (T (.agg #[I Q 0,I Q 0]),2,16):=by kernel_rfl
theorem yD (c:Nat×Nat):∀ u∈tQ c,u.oneCell'=K:=by
 intro u hu
 simp[tQ] at hu
 rcases hu with rfl|rfl <;> rfl
def Cs (base:Nat)(w:World)(v:Value)(l:List (Nat×Nat)):Prop:=w.ownsRow base 151 2 v l.length (jG l)
section
variable {base:Nat}{w w':World}{v:Value}{l:List (Nat×Nat)}
theorem Cs.nil (base:Nat)(w:World):Cs base w (J Z 0 0) []:=World.ownsRow_nil _ _ _ _
theorem Cs.within {S:Nat->Prop}(h:Cs base w v l)(hk:ab w w' S)(hn:∀ g,v.ownBlock=T g->¬ S g):Cs base w' v l:=aq h hk hn
theorem Cs.grown (h:Cs base w v l)(hg:w.grownBy w' Z):Cs base w' v l:=aq h (.az (S:=fun _=>False) hg (by simp)) (by simp)
theorem Cs.lt (h:Cs base w v l){g:Nat}(e:v.ownBlock=T g):base<=g/\g<w.heap.size:=World.ownsRow.lt h g e
theorem Cs.only {t:TypeId}{g:Nat}{cs:Array Value}(h:Cs base w v l)(hg:fD w w' g)(hb:Bk w g t cs)(ht:t≠151):Cs base w' v l:=
 aq h (.az (S:=fun b=>b=g) hg (by simp)) (fun b e e2=>by
  obtain⟨cs',hcs⟩:=bf h e
  subst e2
  exact hb.aj hcs ht rfl)
theorem Cs.is (h:Cs base w v l):∃ a cap,v=J a l.length cap/\l.length<=cap/\cap<=maxLen/\(0<l.length->∃ g,a=T ⟨g,0,Z⟩/\v.ownBlock=T g/\base<=g/\g<w.heap.size/\(∀ i,w.frozen? ⟨g,i,Z⟩=U)/\∀ i c,l[i]?=T c->w.cell? ⟨g,i*2,Z⟩=T (I Q c.1)/\w.cell? ⟨g,i*2+1,Z⟩=T (I Q c.2)):=by
 obtain⟨a,cap,e,h1,h2,h3⟩:=bt h
 refine⟨a,cap,e,h1,h2,fun h0=>?_⟩
 obtain⟨g,e1,e2,e3,e4,e5,e6⟩:=h3 h0
 refine⟨g,e1,e2,e3,e4,e5,fun i c hi=>?_⟩
 have hlt:i<l.length:=(List.getElem?_eq_some_iff.1 hi).1
 obtain⟨q1,q2⟩:=rm l i c hi
 rw[e6 _ (by omega),e6 _ (by omega),q1,q2]
 exact⟨rfl,rfl⟩
end
def wD (w:World)(zs:List Int)(e:Ending)(w':World):Prop:=
 w.grownBy w' Z/\((dU zs/\∃ v,e=.returned (.tuple #[v,.bool (decide ((jn zs:Int)<=8192))])/\Cs w.heap.size w' v (nP zs))\/(¬ dU zs/\e=.returned (.tuple #[J Z 0 0,.bool U])))
theorem tZ {zs:List Int}:∀ k,(∀ i,i<k->0<=aF zs i/\aF zs i<=4096)->pre zs k<=4096*k
 | 0,_=>D _
 | k+1,h=>by
  have h1:=tZ k fun i hi=>h i (by omega)
  have h2:=h k (by omega)
  rw[fq];unfold sz;omega
theorem Br {w wr:World}{o:Value}{zs:List Int}{k i:Nat}(ho:Cs w.heap.size wr o (dQ zs k i))(hg:w.grownBy wr Z)(w':World)(v':Value)(h1:w'.ownsRow w.heap.size 151 2 v' ((dQ zs k i).length+1) (jG (dQ zs k i)++tQ (k,i)))
 (h2:(wr.alloc (G #[I Q k,I Q i] 151)).grownBy w' o.ownBlock):Cs w.heap.size w' v' (dQ zs k (i+1))/\w.grownBy w' Z:=by
 constructor
 ·unfold Cs
  rw[pj,tu,List.length_append]
  exact h1
 ·exact aU (aU hg (bi _ _ Z) (.inl rfl)) h2 (.inr fun x e=>(ho.lt e).1)
theorem CM {w:World}{a:Option Addr}{zs:List Int}(h:dO .i64 w a zs)(hm:zs.length<=maxLen)(cap:Nat):
 Calls Tryz.prog 33 #[J a zs.length cap] w (wD w zs):=by
 unfold maxLen at hm
 by_cases h8:8<zs.length
 ·go_enter Tryz.func33,Tryz.ntmps33
  go_wp2
  go_ret2
  exact⟨cP _ _,.inr ⟨fun hz=>by have:=hz.1;omega,rfl⟩⟩
 go_enter Tryz.func33,Tryz.ntmps33
 go_wp2
 go_loopw [4,13] (fun o t wr=>∃ k:Nat,k<=zs.length/\t=I Q k/\Hid (∀ i,i<k->0<=aF zs i/\aF zs i<=4096)/\Cs w.heap.size wr o (je zs k)/\w.grownBy wr Z) (fun _ t _=>zs.length-(intOf t).toNat)
 case atStart=>exact⟨0,Nat.zero_le _,rfl,F (fun i hi=>by omega),Cs.nil _ _,cP _ _⟩
 case round=>
  obtain⟨k,hk,rfl,HA,ho,hg⟩:=hrel
  by_cases hlt:k<zs.length
  ·obtain⟨b,off,rfl,hc⟩:=(h.grown hg).here hlt
   rcases(show aF zs k<0\/(0<=aF zs k/\4096<aF zs k)\/(0<=aF zs k/\aF zs k<=4096) by omega) with h1 | h1 | h1
   ·go_wp2
    go_ret2
    exact⟨hg,.inr ⟨fun hz=>by have:=hz.2 k hlt;omega,rfl⟩⟩
   ·go_wp2
    go_ret2
    exact⟨hg,.inr ⟨fun hz=>by have:=hz.2 k hlt;omega,rfl⟩⟩
   ·obtain⟨n,hn⟩:∃ n,sz zs k=n:=⟨_,rfl⟩
    have hzn:aF zs k=(n:Int):=by unfold sz at hn;omega
    have hn4:n<=4096:=by omega
    rw[hzn] at hc
    have HZ:=F hzn
    have HN:=F hn
    have hpk:=tZ k HA.out
    have HP:Hid (pre zs k<=40000):=F (by omega)
    rw[<-vZ] at ho
    clear h1 hzn hn hpk
    go_wp2
    go_loopw [4,7] (fun o t wr=>∃ i:Nat,i<=n/\t=I Q i/\Cs w.heap.size wr o (dQ zs k i)/\w.grownBy wr Z) (fun _ t _=>n-(intOf t).toNat)
    case atStart=>exact⟨0,Nat.zero_le _,rfl,ho,hg⟩
    case round=>
     clear ho hg hc
     obtain⟨i,hi,rfl,ho,hg⟩:=hrel
     by_cases hin:i<n
     ·have HO:=F (World.ownsRow.alloc ho (G #[I Q k,I Q i] 151))
      have HNW:Hid (∀ (j:Nat) (u:Value),(tQ (k,i))[j]?=T u->(wr.alloc (G #[I Q k,I Q i] 151)).cell? ((⟨wr.heap.size,0,Z⟩:Addr).add j)=T u):=F (gF (Bk.made wr 151 #[I Q k,I Q i]))
      have HBS:Hid (w.heap.size<=(wr.alloc (G #[I Q k,I Q i] 151)).heap.size):=F (by rw[World.size_alloc];have:=hg.size;omega)
      have HL:Hid ((dQ zs k i).length<100000):=F (by rw[qz];have:=HP.out;omega)
      have HEND:=F (Br (k:=k) (i:=i) ho hg)
      clear ho hg
      go_wp2_with (at_builtin;refine rG rfl _ _ 76 rfl _ 16 Tryz.underlying76 Bu rfl (by omega) (by omega) HO.out rfl (tQ (k,i)) rfl (yD _) wr.heap.size rfl HNW.out HL.out HBS.out ?_;intro v' w' hown hgr hloc)
      obtain⟨s1,s2⟩:=HEND.out _ _ hown hgr
      go_roundw
      case rel=>exact⟨i+1,by omega,by go_num,s1,s2⟩
      case measure=>simp[intOf];omega
     ·obtain rfl:i=n:=by omega
      rw[<-HN.out,qA] at ho
      go_wp2
      go_roundw
      case rel=>
       refine⟨k+1,by omega,by go_num,F fun j hj=>?_,ho,hg⟩
       by_cases e:j=k
       ·subst e;have:=HZ.out;omega
       ·exact HA.out j (by omega)
      case measure=>simp[intOf];omega
  ·obtain rfl:k=zs.length:=by omega
   have hz:dU zs:=⟨by omega,HA.out⟩
   obtain⟨oa,oc,rfl,_,hoc,_⟩:=ho.is
   rw[show je zs zs.length=nP zs from rfl,jY] at *
   have ht:=tE hz
   go_wp2
   go_ret2
   exact⟨hg,.inl ⟨hz,_,rfl,ho⟩⟩
section
variable {base:Nat}{w:World}{v:Value}{zs:List Int}
theorem Er (h:Cs base w v (nP zs))(hz:dU zs)(A P:Nat)(x:Int)(h0:0<=x)(h1:x<4294967296)(hA:A<zs.length)(hP:P<sz zs A)(hx:x % 4096=P):
 Calls Tryz.prog 54 #[v,I Q A,I O x] w fun e w'=>e=.returned (I Q ((pre zs A+P:Nat):Int))/\w.grownBy w' Z:=by
 obtain⟨a,cap,rfl,hlc,hcm,hat⟩:=h.is
 have hlt:=tH hA hP
 rw[jY] at *
 obtain⟨g,rfl,_,_,hgl,hfr,hcl⟩:=hat (by omega)
 have ht:=tE hz
 go_enter Tryz.func54,Tryz.ntmps54
 go_wp2
 go_loopw [11] (fun t wr=>∃ k:Nat,k<=pre zs A+P/\t=I Q k/\w.grownBy wr Z) (fun t _=>jn zs-(intOf t).toNat)
 case atStart=>exact⟨0,Nat.zero_le _,rfl,cP _ _⟩
 case round=>
  obtain⟨k,hk,rfl,hg⟩:=hrel
  obtain⟨ca,cp,q1,q2,q3⟩:=nX (zs:=zs) (i:=k) (by omega)
  obtain⟨c1,c2⟩:=hcl k (ca,cp) (by rw[q3];exact ma q1 q2)
  have d1:=((aO hg).cell (p:=⟨g,k*2,Z⟩) hgl).trans c1
  have d2:=((aO hg).cell (p:=⟨g,k*2+1,Z⟩) hgl).trans c2
  simp only at d1 d2
  have hkt:k<jn zs:=by omega
  have HQ:=F q3
  clear q3 hcl hat
  have hgn:w.grownBy (wr.alloc (G #[I Q ca,I Q cp] 151)) Z:=aU hg (bi _ _ Z) (.inl rfl)
  by_cases e:ca=A
  ·subst e
   by_cases e2:cp=P
   ·subst e2
    have t2:((cp:Int)==x % 4096)=K:=by simp;omega
    go_wp2
    go_ret
    exact⟨bu (by have:=HQ.out;omega),hgn⟩
   ·have t2:((cp:Int)==x % 4096)=U:=by simp;omega
    go_wp2
    go_roundw
    case rel=>exact⟨k+1,by have:=HQ.out;omega,by go_num,hgn⟩
    case measure=>simp[intOf];omega
  ·have t1:((ca:Int)==(A:Int))=U:=by simp;omega
   have hne:k≠pre zs A+P:=fun e3=>by
    have u1:=ma q1 q2
    have u2:=ma hA hP
    rw[<-HQ.out,e3,u2] at u1
    simp at u1
    exact e u1.1.symm
   go_wp2
   go_roundw
   case rel=>exact⟨k+1,by omega,by go_num,hgn⟩
   case measure=>simp[intOf];omega
theorem AJ (h:Cs base w v (nP zs))(hz:dU zs)(area x:Int)(h0:0<=x)(h1:x<4294967296)(hno:area<0\/(zs.length:Int)<=area\/(sz zs area.toNat:Int)<=x % 4096):
 Calls Tryz.prog 54 #[v,I Q area,I O x] w fun e w'=>e=.returned (I Q (-1))/\w.grownBy w' Z:=by
 obtain⟨a,cap,rfl,hlc,hcm,hat⟩:=h.is
 rw[jY] at *
 have ht:=tE hz
 have HNO:=F hno
 clear hno
 go_enter Tryz.func54,Tryz.ntmps54
 go_wp2
 go_loopw [11] (fun t wr=>∃ k:Nat,k<=jn zs/\t=I Q k/\w.grownBy wr Z) (fun t _=>jn zs-(intOf t).toNat)
 case atStart=>exact⟨0,Nat.zero_le _,rfl,cP _ _⟩
 case round=>
  obtain⟨k,hk,rfl,hg⟩:=hrel
  by_cases hkt:k<jn zs
  ·obtain⟨g,rfl,_,_,hgl,hfr,hcl⟩:=hat (by omega)
   obtain⟨ca,cp,q1,q2,q3⟩:=nX hkt
   obtain⟨c1,c2⟩:=hcl k (ca,cp) (by rw[q3];exact ma q1 q2)
   have d1:=((aO hg).cell (p:=⟨g,k*2,Z⟩) hgl).trans c1
   have d2:=((aO hg).cell (p:=⟨g,k*2+1,Z⟩) hgl).trans c2
   simp only at d1 d2
   clear q3 hcl hat
   have hgn:w.grownBy (wr.alloc (G #[I Q ca,I Q cp] 151)) Z:=aU hg (bi _ _ Z) (.inl rfl)
   by_cases e:(ca:Int)=area
   ·subst e
    have t2:((cp:Int)==x % 4096)=U:=by
     have:=HNO.out
     rw[Int.toNat_natCast] at this
     simp
     omega
    go_wp2
    go_roundw
    case rel=>exact⟨k+1,by omega,by go_num,hgn⟩
    case measure=>simp[intOf];omega
   ·have t1:((ca:Int)==area)=U:=by simpa using e
    go_wp2
    go_roundw
    case rel=>exact⟨k+1,by omega,by go_num,hgn⟩
    case measure=>simp[intOf];omega
  ·obtain rfl:k=jn zs:=by omega
   go_wp2
   go_ret
   exact⟨rfl,hg⟩
end
theorem ro (p n:Int)(w:World):Calls Tryz.prog 72 #[I Q p,I Q n] w fun e w'=>e=.returned (.bool (decide (0<=p) && decide (p<n)))/\w=w':=by
 by_cases h1:0<=p
 ·by_cases h2:p<n
  ·go_enter Tryz.func72,Tryz.ntmps72
   go_wp2
   go_ret
   exact⟨by simp[h1,h2],rfl⟩
  ·go_enter Tryz.func72,Tryz.ntmps72
   go_wp2
   go_ret
   exact⟨by simp;omega,rfl⟩
 ·go_enter Tryz.func72,Tryz.ntmps72
  go_wp2
  go_ret
  exact⟨by simp;omega,rfl⟩
theorem tz (c:im)(v:Value)(w:World)(hv:Pv w v c)(hw:∀ i∈c.l,0<=i.k/\i.k<4294967296):
 Calls Tryz.prog 40 #[v] w fun e w'=>e=.returned (.bool (p9 c))/\Below w.heap.size w w':=by
 obtain⟨a,ca,rfl,hc1,hc2,_,ha⟩:=hv
 have k1:=Bk.made w 24 #[J a c.l.length ca,I Q c.lo,I Q c.un]
 have b0:Below w.heap.size w (w.alloc (G #[J a c.l.length ca,I Q c.lo,I Q c.un] 24)):=(E _ _).alloc (D _) _
 replace ha:=ha.below b0
 go_enter Tryz.func40,Tryz.ntmps40
 go_upto_region 1 with fail
 generalize w.alloc (G #[J a c.l.length ca,I Q c.lo,I Q c.un] 24)=x at *
 obtain⟨x0,x1,x2⟩:=k1.lz
 by_cases h1:1<=c.l.length
 case neg=>
  have HF:=F (qK (c:=c) (by omega))
  have i1:(c.l.length:Int)<1:=by omega
  go_wp2
  go_ret
  exact⟨by rw[HF.out];rfl,b0⟩
 case pos=>
  have i1:¬ (c.l.length:Int)<1:=by omega
  by_cases h2:c.l.length<=64
  case neg=>
   have HF:=F (qK (c:=c) (by omega))
   have i2:(64:Int)<c.l.length:=by omega
   go_wp2
   go_ret
   exact⟨by rw[HF.out];rfl,b0⟩
  case pos=>
   have i2:¬ (64:Int)<c.l.length:=by omega
   have HP:=F (AK c h1 h2)
   go_wp2
   go_loopw [2,18] (fun q i wr=>∃ k:Nat,q=.bool U/\i=I Q k/\k<=c.l.length/\Below x.heap.size x wr/\Hid (∀ j i,c.l[j]?=T i->j<k->au i c.l.length=K)) (fun _ i _=>c.l.length-(intOf i).toNat)
   case atStart=>exact⟨0,rfl,rfl,Nat.zero_le _,E _ _,F (fun _ _ _ h=>by omega)⟩
   case round=>
    obtain⟨k,rfl,rfl,hk,hb,HA⟩:=hrel
    have hbw:=b0.trans (hb.mono b0.size)
    by_cases hlt:k<c.l.length
    ·have hki:(k:Int)<c.l.length:=by omega
     have hge:=List.getElem?_eq_getElem hlt
     obtain⟨g,off,rfl,hgl,e0,e1,e2,e3,e4,e5,e6,e7⟩:=(ha.below hb).at_ hge
     have hWf:=hw _ (List.getElem_mem hlt)
     have HG:=F hge
     clear hge
     generalize c.l[k]=i at *
     have HR:=F (fun W=>zx i (c.l.length:Int) hWf.1 hWf.2 W)
     obtain⟨op,d,s,t,u,a',k',pl⟩:=i
     simp only at e0 e1 e2 e3 e4 e5 e6 e7
     go_upto_region 7 with fail
     have m2:=Ib.made wr op d s t u a' k' pl
     replace hb:=hb.alloc (o:=G #[I Q op,I Q d,I Q s,I Q t,I Q u,I Q a',I O k',I Q pl] 117) hb.size
     clear e0 e1 e2 e3 e4 e5 e6 e7 hbw
     generalize wr.heap.size=q at *
     generalize wr.alloc (G #[I Q op,I Q d,I Q s,I Q t,I Q u,I Q a',I O k',I Q pl] 117)=y at *
     have hbw:=b0.trans (hb.mono b0.size)
     obtain⟨e0,e1,e2,e3,e4,e5,e6,e7⟩:=m2.cells
     simp only at e0 e1 e2 e3 e4 e5 e6 e7
     go_wp2_with fail
     refine(HR.out y).mono ?_
     rintro e z ⟨rfl,hz⟩
     replace hb:=hb.trans (hz.mono hb.size)
     replace hbw:=hbw.trans (hz.mono hbw.size)
     cases hq:au ⟨op,d,s,t,u,a',k',pl⟩ c.l.length with
     | true=>
      have HA2:Hid (∀ j i,c.l[j]?=T i->j<k+1->au i c.l.length=K):=F fun j i hj hjk=>by
       by_cases e:j=k
       ·subst e
        rw[HG.out] at hj
        injection hj with hj
        subst hj
        exact hq
       ·exact HA.out j i hj (by omega)
      clear hq HA HR HG
      go_wp2
      go_roundw
      case rel=>exact⟨k+1,rfl,by go_num,by omega,hb,HA2⟩
      case measure=>
       show c.l.length-((k:Int)+1).toNat<c.l.length-(k:Int).toNat
       omega
     | false=>
      have HQ:Hid (p9 c=U):=F (by
       rw[HP.out]
       have:(c.l.all fun i=>au i c.l.length)=U:=by
        rw[List.all_eq_false]
        exact⟨_,List.mem_of_getElem? HG.out,by rw[hq];simp⟩
       rw[this];rfl)
      clear hq HA HR HG
      go_wp2
      go_ret
      exact⟨by rw[HQ.out];rfl,hbw⟩
    ·have hki:¬ (k:Int)<c.l.length:=by omega
     have hall:(c.l.all fun i=>au i c.l.length)=K:=by
      rw[List.all_eq_true]
      intro i hi
      obtain⟨j,hj,rfl⟩:=List.getElem_of_mem hi
      exact HA.out j _ (List.getElem?_eq_getElem hj) (by omega)
     rw[hall,Bool.true_and] at HP
     have HI1:=F (fun W=>ro c.lo (c.l.length:Int) W)
     have HI2:=F (fun W=>ro c.un (c.l.length:Int) W)
     replace x1:wr.cell? ⟨w.heap.size,1,Z⟩=T (I Q c.lo):=(hb.cell (p:=⟨w.heap.size,1,Z⟩) k1.lt).trans x1
     replace x2:wr.cell? ⟨w.heap.size,2,Z⟩=T (I Q c.un):=(hb.cell (p:=⟨w.heap.size,2,Z⟩) k1.lt).trans x2
     clear HA hall x0
     generalize (decide (0<=c.lo) && decide (c.lo<c.l.length))=q1 at *
     generalize (decide (0<=c.un) && decide (c.un<c.l.length))=q2 at *
     go_wp2_with fail
     refine(HI1.out wr).mono ?_
     rintro e z ⟨rfl,rfl⟩
     cases q1 with
     | false=>
      go_wp2
      go_ret
      exact⟨by rw[HP.out];rfl,hbw⟩
     | true=>
      go_wp2_with fail
      refine(HI2.out wr).mono ?_
      rintro e z ⟨rfl,rfl⟩
      go_wp2
      go_ret
      exact⟨by rw[HP.out];simp,hbw⟩
def Sv (w:World)(v:Value)(c:im)(zs init r7:List Int)(each:Int):Prop:=
 ∃ aL cL aS cS aI cI aR cR,v=.agg #[J aL c.l.length cL,I Q c.lo,I Q c.un,J aS zs.length cS,J aI init.length cI,I Q each,J aR r7.length cR]/\
  Pv w (.agg #[J aL c.l.length cL,I Q c.lo,I Q c.un]) c/\dO .i64 w aS zs/\dO .u32 w aI init/\dO .u32 w aR r7/\zs.length<=maxLen/\init.length<=maxLen/\r7.length<=maxLen
theorem dO.below {k:IntKind}{w w':World}{a:Option Addr}{xs:List Int}(h:dO k w a xs)(hb:Below w.heap.size w w'):dO k w' a xs:=by
 intro h0
 obtain⟨b,off,e,hlt,hc⟩:=h h0
 exact⟨b,off,e,Nat.lt_of_lt_of_le hlt hb.size,fun i hi=>(hb.cell (p:=⟨b,off+i,Z⟩) hlt).trans (hc i hi)⟩
theorem Sv.below {w w':World}{v:Value}{c:im}{zs init r7:List Int}{each:Int}(h:Sv w v c zs init r7 each)(hb:Below w.heap.size w w'):Sv w' v c zs init r7 each:=by
 obtain⟨aL,cL,aS,cS,aI,cI,aR,cR,e,h1,h2,h3,h4,h5⟩:=h
 exact⟨aL,cL,aS,cS,aI,cI,aR,cR,e,h1.below hb,h2.below hb,h3.below hb,h4.below hb,h5⟩
theorem dM {W W':World}{base n sz:Nat}{t:TypeId}{v:Value}{xs:List Value}(h:W.ownsRow base t sz v n xs)(hb:Below W.heap.size W W'):W'.ownsRow base t sz v n xs:=aq h (ay hb) (by simp)
theorem nd {W W':World}{base n sz b:Nat}{t u:TypeId}{v:Value}{xs:List Value}{cs:Array Value}(h:W.ownsRow base t sz v n xs)(hw:ab W W' (fun i=>i=b))(hb:Bk W b u cs)(hne:t≠u):W'.ownsRow base t sz v n xs:=
 aq h hw fun g e e2=>by
  obtain⟨cs',hcs⟩:=bf h e
  exact Bk.aj hcs hb hne e2
def mz (y:World)(g:Nat)(a b c d e f h:Value):World:=((((((y.setCell ⟨g,0,Z⟩ a).setCell ⟨g,1,Z⟩ b).setCell ⟨g,2,Z⟩ c).setCell ⟨g,3,Z⟩ d).setCell ⟨g,4,Z⟩ e).setCell ⟨g,5,Z⟩ f).setCell ⟨g,6,Z⟩ h
theorem lY {y:World}{g:Nat}{t:TypeId}{x0 x1 x2 x3 x4 x5 x6:Value}(hb:Bk y g t #[x0,x1,x2,x3,x4,x5,x6])(a b c d e f h:Value):Bk (mz y g a b c d e f h) g t #[a,b,c,d,e,f,h]:=by
 have h8:=((((((hb.put 0 a).put 1 b).put 2 c).put 3 d).put 4 e).put 5 f).put 6 h
 unfold mz
 simpa only[List.setIfInBounds_toArray,List.set_cons_zero,List.set_cons_succ] using h8
theorem lf {y:World}{g:Nat}(a b c d e f h:Value):ab y (mz y g a b c d e f h) (fun i=>i=g):=by
 unfold mz
 exact(((((((ab.refl y (fun i=>i=g)).put g 0 a (.inl rfl)).put g 1 b (.inl rfl)).put g 2 c (.inl rfl)).put g 3 d (.inl rfl)).put g 4 e (.inl rfl)).put g 5 f (.inl rfl)).put g 6 h (.inl rfl)
theorem gZ {B:Nat}{w y:World}{g:Nat}(hb:Below B w y)(hg:B<=g)(a b c d e f h:Value):Below B w (mz y g a b c d e f h):=
 ((((((hb.setCell hg _).setCell hg _).setCell hg _).setCell hg _).setCell hg _).setCell hg _).setCell hg _
def Rv (base:Nat)(w:World)(v:Value)(c:im)(zs init r7:List Int)(each:Int):Prop:=
 ∃ sl aS cS aI cI aR cR,v=.agg #[sl,I Q c.lo,I Q c.un,J aS zs.length cS,J aI init.length cI,I Q each,J aR r7.length cR]/\
  w.ownsRow base 123 8 sl c.l.length (bE c.l)/\dO .i64 w aS zs/\dO .u32 w aI init/\dO .u32 w aR r7/\zs.length<=maxLen/\init.length<=maxLen/\r7.length<=maxLen
theorem Rv.below {base:Nat}{w w':World}{v:Value}{c:im}{zs init r7:List Int}{each:Int}(h:Rv base w v c zs init r7 each)(hb:Below w.heap.size w w'):Rv base w' v c zs init r7 each:=by
 obtain⟨sl,aS,cS,aI,cI,aR,cR,e,h1,h2,h3,h4,h5⟩:=h
 exact⟨sl,aS,cS,aI,cI,aR,cR,e,dM h1 hb,h2.below hb,h3.below hb,h4.below hb,h5⟩
def bn (y:World)(g:Nat)(a b c d e f h i j:Value):World:=((((((((y.setCell ⟨g,0,Z⟩ a).setCell ⟨g,1,Z⟩ b).setCell ⟨g,2,Z⟩ c).setCell ⟨g,3,Z⟩ d).setCell ⟨g,4,Z⟩ e).setCell ⟨g,5,Z⟩ f).setCell ⟨g,6,Z⟩ h).setCell ⟨g,7,Z⟩ i).setCell ⟨g,8,Z⟩ j
theorem bz {y:World}{g:Nat}{t:TypeId}{x0 x1 x2 x3 x4 x5 x6 x7 x8:Value}(hb:Bk y g t #[x0,x1,x2,x3,x4,x5,x6,x7,x8])(a b c d e f h i j:Value):Bk (bn y g a b c d e f h i j) g t #[a,b,c,d,e,f,h,i,j]:=by
 have h8:=((((((((hb.put 0 a).put 1 b).put 2 c).put 3 d).put 4 e).put 5 f).put 6 h).put 7 i).put 8 j
 unfold bn
 simpa only[List.setIfInBounds_toArray,List.set_cons_zero,List.set_cons_succ] using h8
theorem ba {B:Nat}{w y:World}{g:Nat}(hb:Below B w y)(hg:B<=g)(a b c d e f h i j:Value):Below B w (bn y g a b c d e f h i j):=
 ((((((((hb.setCell hg _).setCell hg _).setCell hg _).setCell hg _).setCell hg _).setCell hg _).setCell hg _).setCell hg _).setCell hg _
theorem dX {y:World}{g b:Nat}{t:TypeId}{cs:Array Value}(hk:Bk y b t cs)(hne:b≠g)(a' b' c d e f h i j:Value):Bk (bn y g a' b' c d e f h i j) b t cs:=
 ((((((((hk.off hne _).off hne _).off hne _).off hne _).off hne _).off hne _).off hne _).off hne _).off hne _
def zV (n:Nat)(v:Value)(W:World):Prop:=∃ b,v=H (T ⟨b,0,Z⟩)/\n<=b/\Cb W b [0,0,0,0,0,0,0,0] 0
theorem zV.below {n:Nat}{v:Value}{W W':World}(h:zV n v W)(hb:Below W.heap.size W W'):zV n v W':=by
 obtain⟨b,e,hn,h⟩:=h
 exact⟨b,e,hn,h.below hb⟩
theorem FH (xs:List Int)(pc:Int)(i:aN)(self:Int)(hx:bh xs)(hi:BM i)(h0:0<=self)(h1:self<4294967296)(p0:-9223372036854775808<=pc)(p1:pc<=1099511627776)(w:World):
 Calls Tryz.prog 86 #[cv xs pc,iv i,I Q self] w fun e w'=>e=.returned (cv (jq xs i self) (lD xs pc i))/\Below w.heap.size w w':=by
 have HM:=F (fun W=>kg i W)
 have HPB:=F (fun(hm:cX i.op=U) W=>pk xs pc i hx hi hm p0 p1 W)
 have HVL:=F (fun(hm:cX i.op=U) W=>Dt xs pc i self hx hi hm h0 h1 W)
 have HR:Hid (∀ W,Calls Tryz.prog 133 #[I Q i.d] W fun e w'=>e=.returned (I Q i.d)/\W=w'):=F fun W=>kS i.d hi.d W
 have HO:Hid (jq xs i self=if cX i.op then xs else match fG xs i self with | some v=>xs.set i.d.toNat v | none=>xs):=F rfl
 have HP:Hid (lD xs pc i=if cX i.op then pc else io xs pc i):=F rfl
 have hd:=hi.d
 obtain⟨h8,hxu⟩:=hx
 generalize jq xs i self=XS at *
 generalize lD xs pc i=PC at *
 generalize io xs pc i=PL at *
 generalize fG xs i self=VO at *
 obtain⟨op,d,s,t,u,a',k,pl⟩:=i
 clear hi
 simp only at hd HM HPB HVL HR HO HP
 generalize cX op=m at *
 obtain⟨dn,rfl⟩:∃ n:Nat,d=n:=⟨d.toNat,by omega⟩
 have hd8:dn<8:=by omega
 simp only[Int.toNat_natCast] at HO
 obtain⟨r0,r1,r2,r3,r4,r5,r6,r7,rfl⟩:=aC h8
 have q0:Cb (((w.alloc (G #[I O r0,I O r1,I O r2,I O r3,I O r4,I O r5,I O r6,I O r7,I Q pc] 107)).alloc (G #[I Q op,I Q dn,I Q s,I Q t,I Q u,I Q a',I O k,I Q pl] 117)).alloc (G #[I O 0,I O 0,I O 0,I O 0,I O 0,I O 0,I O 0,I O 0,I Q 0] 107)) w.heap.size [r0,r1,r2,r3,r4,r5,r6,r7] pc:=((Cb.made w [r0,r1,r2,r3,r4,r5,r6,r7] pc).alloc (G #[I Q op,I Q dn,I Q s,I Q t,I Q u,I Q a',I O k,I Q pl] 117)).alloc (G #[I O 0,I O 0,I O 0,I O 0,I O 0,I O 0,I O 0,I O 0,I Q 0] 107)
 have q1:Ib (((w.alloc (G #[I O r0,I O r1,I O r2,I O r3,I O r4,I O r5,I O r6,I O r7,I Q pc] 107)).alloc (G #[I Q op,I Q dn,I Q s,I Q t,I Q u,I Q a',I O k,I Q pl] 117)).alloc (G #[I O 0,I O 0,I O 0,I O 0,I O 0,I O 0,I O 0,I O 0,I Q 0] 107)) (w.heap.size+1) ⟨op,dn,s,t,u,a',k,pl⟩:=by
  have:=Bk.alloc (Ib.made (w.alloc (G #[I O r0,I O r1,I O r2,I O r3,I O r4,I O r5,I O r6,I O r7,I Q pc] 107)) op dn s t u a' k pl) (G #[I O 0,I O 0,I O 0,I O 0,I O 0,I O 0,I O 0,I O 0,I Q 0] 107)
  rw[World.size_alloc] at this
  exact this
 have q2:Cb (((w.alloc (G #[I O r0,I O r1,I O r2,I O r3,I O r4,I O r5,I O r6,I O r7,I Q pc] 107)).alloc (G #[I Q op,I Q dn,I Q s,I Q t,I Q u,I Q a',I O k,I Q pl] 117)).alloc (G #[I O 0,I O 0,I O 0,I O 0,I O 0,I O 0,I O 0,I O 0,I Q 0] 107)) (w.heap.size+1+1) [0,0,0,0,0,0,0,0] 0:=by
  have:=Cb.made ((w.alloc (G #[I O r0,I O r1,I O r2,I O r3,I O r4,I O r5,I O r6,I O r7,I Q pc] 107)).alloc (G #[I Q op,I Q dn,I Q s,I Q t,I Q u,I Q a',I O k,I Q pl] 117)) [0,0,0,0,0,0,0,0] 0
  rw[World.size_alloc,World.size_alloc] at this
  exact this
 have b0:Below w.heap.size w (((w.alloc (G #[I O r0,I O r1,I O r2,I O r3,I O r4,I O r5,I O r6,I O r7,I Q pc] 107)).alloc (G #[I Q op,I Q dn,I Q s,I Q t,I Q u,I Q a',I O k,I Q pl] 117)).alloc (G #[I O 0,I O 0,I O 0,I O 0,I O 0,I O 0,I O 0,I O 0,I Q 0] 107)):=(((E _ _).alloc (D _) _).alloc (by simp) _).alloc (by simp;omega) _
 have hsz:(((w.alloc (G #[I O r0,I O r1,I O r2,I O r3,I O r4,I O r5,I O r6,I O r7,I Q pc] 107)).alloc (G #[I Q op,I Q dn,I Q s,I Q t,I Q u,I Q a',I O k,I Q pl] 117)).alloc (G #[I O 0,I O 0,I O 0,I O 0,I O 0,I O 0,I O 0,I O 0,I Q 0] 107)).heap.size=w.heap.size+3:=by simp
 unfold cv iv at *
 simp only[bP,List.map_cons,List.map_nil,List.cons_append,List.nil_append] at HVL HPB ⊢
 go_enter Tryz.func86,Tryz.ntmps86
 go_upto_region 1 with fail
 generalize ((w.alloc (G #[I O r0,I O r1,I O r2,I O r3,I O r4,I O r5,I O r6,I O r7,I Q pc] 107)).alloc (G #[I Q op,I Q dn,I Q s,I Q t,I Q u,I Q a',I O k,I Q pl] 117)).alloc (G #[I O 0,I O 0,I O 0,I O 0,I O 0,I O 0,I O 0,I O 0,I Q 0] 107)=x at *
 obtain⟨c0,c1,c2,c3,c4,c5,c6,c7,c8⟩:=q0.cells
 obtain⟨e0,e1,e2,e3,e4,e5,e6,e7⟩:=q1.cells
 simp only at e0 e1 e2 e3 e4 e5 e6 e7
 go_wp2_with fail
 refine(HM.out _).mono ?_
 rintro e y ⟨rfl,hy⟩
 clear c0 c1 c2 c3 c4 c5 c6 c7 c8 e0 e1 e2 e3 e4 e5 e6 e7
 replace q0:=q0.below hy
 replace q1:=q1.below hy
 replace q2:=q2.below hy
 replace b0:=b0.trans (hy.mono b0.size)
 have hsy:=hy.size
 clear hy HM
 obtain⟨c0,c1,c2,c3,c4,c5,c6,c7,c8⟩:=q0.cells
 obtain⟨e0,e1,e2,e3,e4,e5,e6,e7⟩:=q1.cells
 simp only at e0 e1 e2 e3 e4 e5 e6 e7
 cases m with
 | true=>
  have zf:=Bk.free q2
  obtain⟨z0,z1,z2,z3,z4,z5,z6,z7,z8⟩:=q2.cells
  clear HPB HVL HR
  go_upto_region 2 with fail
  have h9:=bz q2 (I O r0) (I O r1) (I O r2) (I O r3) (I O r4) (I O r5) (I O r6) (I O r7) (I Q pc)
  have b9:=ba b0 (show w.heap.size<=w.heap.size+1+1 by omega) (I O r0) (I O r1) (I O r2) (I O r3) (I O r4) (I O r5) (I O r6) (I O r7) (I Q pc)
  go_wp
  generalize hv9:(((((((((y.setCell ⟨w.heap.size+1+1,0,Z⟩ (I O r0)).setCell ⟨w.heap.size+1+1,1,Z⟩ (I O r1)).setCell ⟨w.heap.size+1+1,2,Z⟩ (I O r2)).setCell ⟨w.heap.size+1+1,3,Z⟩ (I O r3)).setCell ⟨w.heap.size+1+1,4,Z⟩ (I O r4)).setCell ⟨w.heap.size+1+1,5,Z⟩ (I O r5)).setCell ⟨w.heap.size+1+1,6,Z⟩ (I O r6)).setCell ⟨w.heap.size+1+1,7,Z⟩ (I O r7)).setCell ⟨w.heap.size+1+1,8,Z⟩ (I Q pc))=v9
  replace hv9:bn y (w.heap.size+1+1) (I O r0) (I O r1) (I O r2) (I O r3) (I O r4) (I O r5) (I O r6) (I O r7) (I Q pc)=v9:=hv9
  rw[hv9] at h9 b9
  obtain⟨y0,y1,y2,y3,y4,y5,y6,y7,y8⟩:=Cb.cells (r0:=r0) (r1:=r1) (r2:=r2) (r3:=r3) (r4:=r4) (r5:=r5) (r6:=r6) (r7:=r7) (pc:=pc) h9
  exact bodyPost_ret (v:=.agg #[I O r0,I O r1,I O r2,I O r3,I O r4,I O r5,I O r6,I O r7,I Q pc]) (by simp[results,Tryz.results86,go_sem,y0,y1,y2,y3,y4,y5,y6,y7,y8]) rfl ⟨by rw[HO.out,HP.out];rfl,b9⟩
 | false=>
  replace HPB:=F (HPB.out rfl)
  replace HVL:=F (HVL.out rfl)
  go_upto_region 3 with fail
  have HC:Hid (∀ W,Below y.heap.size y W->Cb W w.heap.size [r0,r1,r2,r3,r4,r5,r6,r7] pc/\Ib W (w.heap.size+1) ⟨op,dn,s,t,u,a',k,pl⟩):=F fun W hW=>⟨q0.below hW,q1.below hW⟩
  clear c0 c1 c2 c3 c4 c5 c6 c7 c8 e0 e1 e2 e3 e4 e5 e6 e7
  refine cK 7 (fun vs=>{ tmps:=#[.agg #[I O r0,I O r1,I O r2,I O r3,I O r4,I O r5,I O r6,I O r7,I Q pc],.agg #[I Q op,I Q (dn:Int),I Q s,I Q t,I Q u,I Q a',I O k,I Q pl],I Q self,H (T ⟨w.heap.size,0,Z⟩),H (T ⟨w.heap.size+1,0,Z⟩),C,H (T ⟨w.heap.size+1+1,0,Z⟩),vs 6,C,C,.agg #[I Q op,I Q (dn:Int),I Q s,I Q t,I Q u,I Q a',I O k,I Q pl],.bool U,C,vs 0,vs 1,vs 2,vs 3,vs 4,vs 5,C,C,C,C,C,C,C,C,C,C,C,C,C,C,C],defers:=[] }) (lE [(6,zV y.heap.size)] [H (T ⟨w.heap.size,0,Z⟩),.agg #[I O r0,I O r1,I O r2,I O r3,I O r4,I O r5,I O r6,I O r7],.agg #[I O r0,I O r1,I O r2,I O r3,I O r4,I O r5,I O r6,I O r7,I Q pc],.agg #[I Q op,I Q (dn:Int),I Q s,I Q t,I Q u,I Q a',I O k,I Q pl],I Q PL,.agg #[I O r0,I O r1,I O r2,I O r3,I O r4,I O r5,I O r6,I O r7,I Q PL],C]) ?ghm ?ghr ?ght ?glit ?gstable ?gops ?gdone
  case ghm=>kernel_rfl
  case ghr=>kernel_rfl
  case ght=>kernel_rfl
  case glit=>intro vs;rfl
  case gstable=>exact dB (by intro p hp;simp at hp;subst hp;exact fun v W W' h hb=>h.below hb)
  case gops=>
   simp only[List.take_succ_cons,List.take_zero]
   refine⟨?_,?_,?_,?_,?_,?_,?_,trivial⟩
   ·intro vs W hW hd
    refine aa rfl ?_
    go_simp
    exact⟨rfl,E _ _⟩
   ·intro vs W hW hd
    refine aa rfl ?_
    have e0:vs 0=H (T ⟨w.heap.size,0,Z⟩):=hd 0 (by decide)
    obtain⟨hq0,hq1⟩:=HC.out W hW;obtain⟨c0,c1,c2,c3,c4,c5,c6,c7,c8⟩:=hq0.cells;obtain⟨e0,e1,e2,e3,e4,e5,e6,e7⟩:=hq1.cells;simp only at e0 e1 e2 e3 e4 e5 e6 e7
    go_simp
    exact⟨rfl,E _ _⟩
   ·intro vs W hW hd
    refine aa rfl ?_
    obtain⟨hq0,hq1⟩:=HC.out W hW;obtain⟨c0,c1,c2,c3,c4,c5,c6,c7,c8⟩:=hq0.cells;obtain⟨e0,e1,e2,e3,e4,e5,e6,e7⟩:=hq1.cells;simp only at e0 e1 e2 e3 e4 e5 e6 e7
    go_simp
    exact⟨rfl,E _ _⟩
   ·intro vs W hW hd
    refine aa rfl ?_
    obtain⟨hq0,hq1⟩:=HC.out W hW;obtain⟨c0,c1,c2,c3,c4,c5,c6,c7,c8⟩:=hq0.cells;obtain⟨e0,e1,e2,e3,e4,e5,e6,e7⟩:=hq1.cells;simp only at e0 e1 e2 e3 e4 e5 e6 e7
    go_simp
    exact⟨rfl,E _ _⟩
   ·intro vs W hW hd
    refine aa rfl ?_
    have e2:vs 2=.agg #[I O r0,I O r1,I O r2,I O r3,I O r4,I O r5,I O r6,I O r7,I Q pc]:=hd 2 (by decide)
    have e3:vs 3=.agg #[I Q op,I Q (dn:Int),I Q s,I Q t,I Q u,I Q a',I O k,I Q pl]:=hd 3 (by decide)
    have HS:=F (HPB.out W)
    clear hd
    go_simp
    refine HS.out.mono ?_
    rintro e z ⟨he,hz⟩
    exact⟨_,he,rfl,hz⟩
   ·intro vs W hW hd
    refine aa rfl ?_
    have e1:vs 1=.agg #[I O r0,I O r1,I O r2,I O r3,I O r4,I O r5,I O r6,I O r7]:=hd 1 (by decide)
    have e4:vs 4=I Q PL:=hd 4 (by decide)
    go_simp
    exact⟨rfl,E _ _⟩
   ·intro vs W hW hd
    refine aa rfl ?_
    go_simp
    exact⟨⟨W.heap.size,rfl,hW.size,Cb.made W [0,0,0,0,0,0,0,0] 0⟩,(E _ _).alloc (D _) _⟩
  case gdone=>
   intro vs W hW hf
   have f0:vs 0=H (T ⟨w.heap.size,0,Z⟩):=hf 0 (by decide)
   have f1:vs 1=.agg #[I O r0,I O r1,I O r2,I O r3,I O r4,I O r5,I O r6,I O r7]:=hf 1 (by decide)
   have f2:vs 2=.agg #[I O r0,I O r1,I O r2,I O r3,I O r4,I O r5,I O r6,I O r7,I Q pc]:=hf 2 (by decide)
   have f3:vs 3=.agg #[I Q op,I Q (dn:Int),I Q s,I Q t,I Q u,I Q a',I O k,I Q pl]:=hf 3 (by decide)
   have f4:vs 4=I Q PL:=hf 4 (by decide)
   have f5:vs 5=.agg #[I O r0,I O r1,I O r2,I O r3,I O r4,I O r5,I O r6,I O r7,I Q PL]:=hf 5 (by decide)
   simp only[f0,f1,f2,f3,f4,f5,List.drop_succ_cons,List.drop_zero]
   obtain⟨gb,f6,hgb,qb⟩:zV y.heap.size (vs 6) W:=hf 6 (by decide)
   simp only[f6]
   clear hf f6 f0 f1 f2 f3 f4 f5
   have zf:=Bk.free qb
   obtain⟨z0,z1,z2,z3,z4,z5,z6,z7,z8⟩:=qb.cells
   have n0:w.heap.size≠gb:=by omega
   have n1:w.heap.size+1≠gb:=by omega
   have n2:w.heap.size+1+1≠gb:=by omega
   have k0:Cb (bn W gb (I O r0) (I O r1) (I O r2) (I O r3) (I O r4) (I O r5) (I O r6) (I O r7) (I Q PL)) _ _ _:=dX (q0.below hW) n0 (I O r0) (I O r1) (I O r2) (I O r3) (I O r4) (I O r5) (I O r6) (I O r7) (I Q PL)
   have k1:Ib (bn W gb (I O r0) (I O r1) (I O r2) (I O r3) (I O r4) (I O r5) (I O r6) (I O r7) (I Q PL)) _ _:=dX (q1.below hW) n1 (I O r0) (I O r1) (I O r2) (I O r3) (I O r4) (I O r5) (I O r6) (I O r7) (I Q PL)
   have k2:Cb (bn W gb (I O r0) (I O r1) (I O r2) (I O r3) (I O r4) (I O r5) (I O r6) (I O r7) (I Q PL)) _ _ _:=dX (q2.below hW) n2 (I O r0) (I O r1) (I O r2) (I O r3) (I O r4) (I O r5) (I O r6) (I O r7) (I Q PL)
   have kb:Cb (bn W gb (I O r0) (I O r1) (I O r2) (I O r3) (I O r4) (I O r5) (I O r6) (I O r7) (I Q PL)) gb [r0,r1,r2,r3,r4,r5,r6,r7] PL:=bz qb (I O r0) (I O r1) (I O r2) (I O r3) (I O r4) (I O r5) (I O r6) (I O r7) (I Q PL)
   have bb:=ba (b0.trans (hW.mono b0.size)) (show w.heap.size<=gb by omega) (I O r0) (I O r1) (I O r2) (I O r3) (I O r4) (I O r5) (I O r6) (I O r7) (I Q PL)
   clear q0 q1 q2 b0 hW HC HPB qb
   go_upto_region 4 with fail
   clear zf z0 z1 z2 z3 z4 z5 z6 z7 z8
   generalize hv:(((((((((W.setCell ⟨gb,0,Z⟩ (I O r0)).setCell ⟨gb,1,Z⟩ (I O r1)).setCell ⟨gb,2,Z⟩ (I O r2)).setCell ⟨gb,3,Z⟩ (I O r3)).setCell ⟨gb,4,Z⟩ (I O r4)).setCell ⟨gb,5,Z⟩ (I O r5)).setCell ⟨gb,6,Z⟩ (I O r6)).setCell ⟨gb,7,Z⟩ (I O r7)).setCell ⟨gb,8,Z⟩ (I Q PL))=y2
   replace hv:bn W gb (I O r0) (I O r1) (I O r2) (I O r3) (I O r4) (I O r5) (I O r6) (I O r7) (I Q PL)=y2:=hv
   rw[hv] at k0 k1 k2 kb bb
   clear hv
   obtain⟨c0,c1,c2,c3,c4,c5,c6,c7,c8⟩:=k0.cells
   obtain⟨e0,e1,e2,e3,e4,e5,e6,e7⟩:=k1.cells
   simp only at e0 e1 e2 e3 e4 e5 e6 e7
   go_wp2_with fail
   refine(HVL.out _).mono ?_
   rintro e z ⟨rfl,hz⟩
   clear c0 c1 c2 c3 c4 c5 c6 c7 c8 e0 e1 e2 e3 e4 e5 e6 e7
   replace k1:=k1.below hz
   replace k2:=k2.below hz
   replace kb:=kb.below hz
   replace bb:=bb.trans (hz.mono bb.size)
   clear hz k0 HVL
   obtain⟨e0,e1,e2,e3,e4,e5,e6,e7⟩:=k1.cells
   simp only at e0 e1 e2 e3 e4 e5 e6 e7
   have zf:=Bk.free k2
   obtain⟨z0,z1,z2,z3,z4,z5,z6,z7,z8⟩:=k2.cells
   cases VO with
   | none=>
    simp only[Option.getD_none,Option.isSome_none]
    obtain⟨c0,c1,c2,c3,c4,c5,c6,c7,c8⟩:=kb.cells
    go_upto_region 7 with fail
    have h9:=bz k2 (I O r0) (I O r1) (I O r2) (I O r3) (I O r4) (I O r5) (I O r6) (I O r7) (I Q PL)
    have b9:=ba bb (show w.heap.size<=w.heap.size+1+1 by omega) (I O r0) (I O r1) (I O r2) (I O r3) (I O r4) (I O r5) (I O r6) (I O r7) (I Q PL)
    go_wp
    generalize hv9:(((((((((z.setCell ⟨w.heap.size+1+1,0,Z⟩ (I O r0)).setCell ⟨w.heap.size+1+1,1,Z⟩ (I O r1)).setCell ⟨w.heap.size+1+1,2,Z⟩ (I O r2)).setCell ⟨w.heap.size+1+1,3,Z⟩ (I O r3)).setCell ⟨w.heap.size+1+1,4,Z⟩ (I O r4)).setCell ⟨w.heap.size+1+1,5,Z⟩ (I O r5)).setCell ⟨w.heap.size+1+1,6,Z⟩ (I O r6)).setCell ⟨w.heap.size+1+1,7,Z⟩ (I O r7)).setCell ⟨w.heap.size+1+1,8,Z⟩ (I Q PL))=v9
    replace hv9:bn z (w.heap.size+1+1) (I O r0) (I O r1) (I O r2) (I O r3) (I O r4) (I O r5) (I O r6) (I O r7) (I Q PL)=v9:=hv9
    rw[hv9] at h9 b9
    obtain⟨y0,y1,y2,y3,y4,y5,y6,y7,y8⟩:=Cb.cells (r0:=r0) (r1:=r1) (r2:=r2) (r3:=r3) (r4:=r4) (r5:=r5) (r6:=r6) (r7:=r7) (pc:=PL) h9
    exact bodyPost_ret (v:=.agg #[I O r0,I O r1,I O r2,I O r3,I O r4,I O r5,I O r6,I O r7,I Q PL]) (by simp[results,Tryz.results86,go_sem,y0,y1,y2,y3,y4,y5,y6,y7,y8]) rfl ⟨by rw[HO.out,HP.out];rfl,b9⟩
   | some V=>
    simp only[Option.getD_some,Option.isSome_some]
    have cD:=kb.at_ rfl hd8
    have cf:=Bk.free kb
    have kb2:=kb.set rfl hd8 V
    have k3:=k2.off (p:=⟨gb,dn,Z⟩) n2 (I O V)
    have b3:=bb.setCell (p:=⟨gb,dn,Z⟩) (by show w.heap.size<=gb;omega) (I O V)
    obtain⟨s0,s1,s2,s3,s4,s5,s6,s7,hs⟩:=aC (xs:=[r0,r1,r2,r3,r4,r5,r6,r7].set dn V) (by simp)
    rw[hs] at kb2
    have HO2:Hid (XS=[s0,s1,s2,s3,s4,s5,s6,s7]):=F (by rw[HO.out];exact hs)
    clear HO hs k2 kb bb z0 z1 z2 z3 z4 z5 z6 z7 z8 zf
    go_upto_region 6 with fail
    go_wp2_with fail
    refine(HR.out _).mono ?_
    rintro e z' ⟨rfl,rfl⟩
    go_upto_region 7 with fail
    clear e0 e1 e2 e3 e4 e5 e6 e7 cD cf
    generalize z.setCell ⟨gb,dn,Z⟩ (I O V)=z2 at *
    have zf:=Bk.free k3
    obtain⟨z0,z1,z2',z3,z4,z5,z6,z7,z8⟩:=Cb.cells k3
    obtain⟨c0,c1,c2,c3,c4,c5,c6,c7,c8⟩:=kb2.cells
    have h9:=bz k3 (I O s0) (I O s1) (I O s2) (I O s3) (I O s4) (I O s5) (I O s6) (I O s7) (I Q PL)
    have b9:=ba b3 (show w.heap.size<=w.heap.size+1+1 by omega) (I O s0) (I O s1) (I O s2) (I O s3) (I O s4) (I O s5) (I O s6) (I O s7) (I Q PL)
    go_wp
    generalize hv9:(((((((((z2.setCell ⟨w.heap.size+1+1,0,Z⟩ (I O s0)).setCell ⟨w.heap.size+1+1,1,Z⟩ (I O s1)).setCell ⟨w.heap.size+1+1,2,Z⟩ (I O s2)).setCell ⟨w.heap.size+1+1,3,Z⟩ (I O s3)).setCell ⟨w.heap.size+1+1,4,Z⟩ (I O s4)).setCell ⟨w.heap.size+1+1,5,Z⟩ (I O s5)).setCell ⟨w.heap.size+1+1,6,Z⟩ (I O s6)).setCell ⟨w.heap.size+1+1,7,Z⟩ (I O s7)).setCell ⟨w.heap.size+1+1,8,Z⟩ (I Q PL))=v9
    replace hv9:bn z2 (w.heap.size+1+1) (I O s0) (I O s1) (I O s2) (I O s3) (I O s4) (I O s5) (I O s6) (I O s7) (I Q PL)=v9:=hv9
    rw[hv9] at h9 b9
    obtain⟨y0,y1,y2,y3,y4,y5,y6,y7,y8⟩:=Cb.cells (r0:=s0) (r1:=s1) (r2:=s2) (r3:=s3) (r4:=s4) (r5:=s5) (r6:=s6) (r7:=s7) (pc:=PL) h9
    exact bodyPost_ret (v:=.agg #[I O s0,I O s1,I O s2,I O s3,I O s4,I O s5,I O s6,I O s7,I Q PL]) (by simp[results,Tryz.results86,go_sem,y0,y1,y2,y3,y4,y5,y6,y7,y8]) rfl ⟨by rw[HO2.out,HP.out];rfl,b9⟩
def dd (xs:List Int)(pc:Int):List Value:=xs.map (Value.int .i64)++[I Q pc]
def rv (xs:List Int)(pc:Int):Value:=.agg (dd xs pc).toArray
theorem At {xs:List Int}{pc:Int}(h:xs.length=8){k:Nat}(hk:k<8):(dd xs pc).toArray[k]?=T (I Q (aF xs k)):=by
 rw[List.getElem?_toArray,dd,List.getElem?_append_left (by simp;omega),List.getElem?_map,j9 (by omega)]
 rfl
theorem As {xs:List Int}{pc:Int}(h:xs.length=8):(dd xs pc).toArray[8]?=T (I Q pc):=by
 rw[List.getElem?_toArray,dd,List.getElem?_append_right (by simp;omega)]
 simp[h]
theorem xv {xs:List Int}{pc:Int}(h:xs.length=8)(k:Nat)(hk:k<8)(v:Int):(dd xs pc).toArray.setIfInBounds k (I Q v)=(dd (xs.set k v) pc).toArray:=by
 rw[List.setIfInBounds_toArray,dd,dd,List.set_append_left _ _ (by simp;omega),List.map_set]
theorem sb {xs:List Int}{pc:Int}(h:xs.length=8)(v:Int):(dd xs pc).toArray.setIfInBounds 8 (I Q v)=(dd xs v).toArray:=by
 rw[List.setIfInBounds_toArray,dd,dd,List.set_append_right _ _ (by simp;omega)]
 simp[h]
def Rb (w:World)(g:Nat)(xs:List Int)(pc:Int):Prop:=Bk w g 111 (dd xs pc).toArray
section
variable {w w':World}{g:Nat}{xs:List Int}{pc:Int}
theorem Rb.made (w:World)(xs:List Int)(pc:Int):Rb (w.alloc (G (dd xs pc).toArray 111)) w.heap.size xs pc:=Bk.made _ _ _
theorem Rb.at_ (h:Rb w g xs pc)(h8:xs.length=8){k:Nat}(hk:k<8):w.cell? ⟨g,k,Z⟩=T (I Q (aF xs k)):=(Bk.cell h k).trans (At h8 hk)
theorem Rb.place (h:Rb w g xs pc)(h8:xs.length=8):w.cell? ⟨g,8,Z⟩=T (I Q pc):=(Bk.cell h 8).trans (As h8)
theorem Rb.cells {r0 r1 r2 r3 r4 r5 r6 r7:Int}(h:Rb w g [r0,r1,r2,r3,r4,r5,r6,r7] pc):
 w.cell? ⟨g,0,Z⟩=T (I Q r0)/\w.cell? ⟨g,1,Z⟩=T (I Q r1)/\w.cell? ⟨g,2,Z⟩=T (I Q r2)/\w.cell? ⟨g,3,Z⟩=T (I Q r3)/\
 w.cell? ⟨g,4,Z⟩=T (I Q r4)/\w.cell? ⟨g,5,Z⟩=T (I Q r5)/\w.cell? ⟨g,6,Z⟩=T (I Q r6)/\w.cell? ⟨g,7,Z⟩=T (I Q r7)/\w.cell? ⟨g,8,Z⟩=T (I Q pc):=
 ⟨Bk.cell h 0,Bk.cell h 1,Bk.cell h 2,Bk.cell h 3,Bk.cell h 4,Bk.cell h 5,Bk.cell h 6,Bk.cell h 7,Bk.cell h 8⟩
theorem Rb.below (h:Rb w g xs pc)(hb:Below w.heap.size w w'):Rb w' g xs pc:=(hb.block g (Bk.lt h)).trans h
theorem Rb.set (h:Rb w g xs pc)(h8:xs.length=8){k:Nat}(hk:k<8)(v:Int):Rb (w.setCell ⟨g,k,Z⟩ (I Q v)) g (xs.set k v) pc:=by
 unfold Rb
 rw[<-xv h8 k hk v]
 exact Bk.put h k _
theorem Rb.wF (h:Rb w g xs pc)(h8:xs.length=8)(v:Int):Rb (w.setCell ⟨g,8,Z⟩ (I Q v)) g xs v:=by
 unfold Rb
 rw[<-sb h8 v]
 exact Bk.put h 8 _
end
theorem E8 (k:Nat)(h:k<=61):(1:Int)<=2 ^ k/\(2:Int) ^ k<=2305843009213693952/\(2:Int) ^ (k+1)=2 ^ k*2:=by
 have a:=Nat.one_le_two_pow (n:=k)
 have b:=Nat.pow_le_pow_right (n:=2) (by omega) h
 have e:((2 ^ k:Nat):Int)=(2:Int) ^ k:=by simp
 exact⟨by omega,by omega,Int.pow_succ 2 k⟩
theorem DI (n:Nat)(hn:n<=62)(w:World):Calls Tryz.prog 154 #[I Q n] w fun e w'=>e=.returned (I Q (2 ^ n))/\w=w':=by
 go_enter Tryz.func154,Tryz.ntmps154
 go_wp2
 go_loopw [3,4] (fun x i wr=>∃ k:Nat,x=I Q (2 ^ k)/\i=I Q k/\k<=n/\wr=w) (fun _ i _=>n-(intOf i).toNat)
 case atStart=>exact⟨0,rfl,rfl,Nat.zero_le _,rfl⟩
 case round=>
  obtain⟨k,rfl,rfl,hk,rfl⟩:=hrel
  by_cases hlt:k<n
  ·have hki:(k:Int)<n:=by omega
   obtain⟨p0,p1,p2⟩:=E8 k (by omega)
   have HP:=F p2
   clear p2
   generalize (2:Int) ^ k=p at *
   go_wp2
   go_roundw
   case rel=>exact⟨k+1,by rw[HP.out],rfl,by omega,trivial⟩
   case measure=>
    show n-((k:Int)+1).toNat<n-(k:Int).toNat
    omega
  ·have hki:¬ (k:Int)<n:=by omega
   obtain rfl:k=n:=by omega
   go_wp2
   go_ret
   exact⟨rfl,rfl⟩
theorem zA (x k:Nat):x / 2 ^ k % 2=0\/x / 2 ^ k % 2=1:=by omega
theorem q9 (x k:Nat)(hx:(x:Int)<4294967296):(wrap64 ((x:Int) / 2 ^ k)).tmod 2=((x / 2 ^ k % 2:Nat):Int):=by
 have e:(x:Int) / 2 ^ k=((x / 2 ^ k:Nat):Int):=by simp
 have hle:x / 2 ^ k<=x:=Nat.div_le_self _ _
 rw[e]
 generalize x / 2 ^ k=q at *
 rw[IntWalk.wrap64_in _ (by omega),Int.tmod_eq_emod_of_nonneg (by omega)]
 omega
theorem BZ (a b:Int)(both:Bool)(h0:0<=a)(h1:a<4294967296)(h2:0<=b)(h3:b<4294967296)(w:World):
 Calls Tryz.prog 153 #[I Q a,I Q b,I Q (if both then 1 else 0)] w fun e w'=>e=.returned (I Q (if both then oW a b else Ck a b))/\∃ m,w'=w.drewN m:=by
 have HE:=F (BE both a b h0 h1 h2 h3)
 generalize (if both then oW a b else Ck a b)=R at *
 obtain⟨x,rfl⟩:∃ n:Nat,a=n:=⟨a.toNat,by omega⟩
 obtain⟨y,rfl⟩:∃ n:Nat,b=n:=⟨b.toNat,by omega⟩
 simp only[Int.toNat_natCast] at HE
 have HW:=F (fun(k:Nat) (hk:k<=62) (W:World)=>(DI k hk W).mono fun e w' ⟨he,hw⟩=>(show e=Ending.returned (I Q (2 ^ k))/\w'=W from⟨he,hw.symm⟩))
 have HL:=F (uz both x y)
 have HB:=F (show ∀ k,kj both x y (k+1)=kj both x y k+(if (if both then x / 2 ^ k % 2+y / 2 ^ k % 2=2 else 0<x / 2 ^ k % 2+y / 2 ^ k % 2) then 2 ^ k else 0) from fun k=>rfl)
 generalize hbo:(if both=K then (1:Int) else 0)=bo
 go_enter Tryz.func153,Tryz.ntmps153
 go_wp2
 go_loopw [7,8] (fun o i wr=>∃ k m:Nat,o=I Q (kj both x y k:Nat)/\i=I Q k/\k<=32/\wr=w.drewN m) (fun _ i _=>32-(intOf i).toNat)
 case atStart=>exact⟨0,0,rfl,rfl,Nat.zero_le _,rfl⟩
 case round=>
  obtain⟨k,m,rfl,rfl,hk,hwr⟩:=hrel
  have HWr:=F hwr
  clear hwr
  by_cases hlt:k<32
  ·have hki:(k:Int)<32:=by omega
   obtain⟨p0,p1,p2⟩:=E8 k (by omega)
   have HS:=F (HB.out k)
   have hBk:((kj both x y k:Nat):Int)<4294967296:=by
    have:=Nat.pow_le_pow_right (n:=2) (by omega) (show k<=32 by omega)
    have:=HL.out k
    omega
   have hBk0:(0:Int)<=((kj both x y k:Nat):Int):=by omega
   have HW2:=F (HW.out k (by omega))
   have EA:=q9 x k h1
   have EB:=q9 y k h3
   have HA:=F (zA x k)
   have HBB:=F (zA y k)
   have HE1:=F EA
   have HE2:=F EB
   clear p2 HE HB HL HW EA EB
   go_upto_region 5 with fail
   go_quiet ((go_at_call 154;with_reducible exact Calls.quiet_of_same (HW2.out _)))
   rw[HE1.out,HE2.out]
   replace HWr:Hid (∃ q,wr.drewN nq=w.drewN q):=F ⟨m+nq,by rw[HWr.out];simp[World.drewN,Nat.add_assoc]⟩
   generalize wr.drewN nq=wr at *
   have HA2:=HA.out
   have HB2:=HBB.out
   generalize x / 2 ^ k % 2=A at *
   generalize y / 2 ^ k % 2=B at *
   clear HE1 HE2 HA HBB
   cases both
   ·obtain rfl:bo=0:=by rw[<-hbo];rfl
    clear hbo
    simp only[Bool.false_eq_true,if_false] at HS
    rcases HA2 with rfl|rfl <;> rcases HB2 with rfl|rfl
    ·go_wp2
     obtain⟨q,hq⟩:=HWr.out
     go_roundw
     case rel=>exact⟨k+1,q,by rw[HS.out];simp,rfl,by omega,hq⟩
     case measure=>
      show 32-((k:Int)+1).toNat<32-(k:Int).toNat
      omega
    ·go_wp2_with fail
     refine(HW2.out _).mono ?_
     rintro e w' ⟨rfl,rfl⟩
     go_wp2
     obtain⟨q,hq⟩:=HWr.out
     go_roundw
     case rel=>exact⟨k+1,q,by rw[HS.out];simp,rfl,by omega,hq⟩
     case measure=>
      show 32-((k:Int)+1).toNat<32-(k:Int).toNat
      omega
    ·go_wp2_with fail
     refine(HW2.out _).mono ?_
     rintro e w' ⟨rfl,rfl⟩
     go_wp2
     obtain⟨q,hq⟩:=HWr.out
     go_roundw
     case rel=>exact⟨k+1,q,by rw[HS.out];simp,rfl,by omega,hq⟩
     case measure=>
      show 32-((k:Int)+1).toNat<32-(k:Int).toNat
      omega
    ·go_wp2_with fail
     refine(HW2.out _).mono ?_
     rintro e w' ⟨rfl,rfl⟩
     go_wp2
     obtain⟨q,hq⟩:=HWr.out
     go_roundw
     case rel=>exact⟨k+1,q,by rw[HS.out];simp,rfl,by omega,hq⟩
     case measure=>
      show 32-((k:Int)+1).toNat<32-(k:Int).toNat
      omega
   ·obtain rfl:bo=1:=by rw[<-hbo];rfl
    clear hbo
    simp only[if_true] at HS
    rcases HA2 with rfl|rfl <;> rcases HB2 with rfl|rfl
    ·go_wp2
     obtain⟨q,hq⟩:=HWr.out
     go_roundw
     case rel=>exact⟨k+1,q,by rw[HS.out];simp,rfl,by omega,hq⟩
     case measure=>
      show 32-((k:Int)+1).toNat<32-(k:Int).toNat
      omega
    ·go_wp2
     obtain⟨q,hq⟩:=HWr.out
     go_roundw
     case rel=>exact⟨k+1,q,by rw[HS.out];simp,rfl,by omega,hq⟩
     case measure=>
      show 32-((k:Int)+1).toNat<32-(k:Int).toNat
      omega
    ·go_wp2
     obtain⟨q,hq⟩:=HWr.out
     go_roundw
     case rel=>exact⟨k+1,q,by rw[HS.out];simp,rfl,by omega,hq⟩
     case measure=>
      show 32-((k:Int)+1).toNat<32-(k:Int).toNat
      omega
    ·go_wp2_with fail
     refine(HW2.out _).mono ?_
     rintro e w' ⟨rfl,rfl⟩
     go_wp2
     obtain⟨q,hq⟩:=HWr.out
     go_roundw
     case rel=>exact⟨k+1,q,by rw[HS.out];simp,rfl,by omega,hq⟩
     case measure=>
      show 32-((k:Int)+1).toNat<32-(k:Int).toNat
      omega
  ·have hki:¬ (k:Int)<32:=by omega
   obtain rfl:k=32:=by omega
   go_wp2
   go_ret
   exact⟨bu HE.out,_,HWr.out⟩
theorem uU (l:List aN):∀ u∈bE l,u.oneCell'=K:=by
 intro u hu
 unfold bE at hu
 rw[List.mem_flatMap] at hu
 obtain⟨i,_,hi⟩:=hu
 exact nk i u hi
theorem xj {w:World}{b off:Nat}{l:List aN}(h:∀ k i,l[k]?=T i->∀ j,j<8->w.cell? ⟨b,off+k*8+j,Z⟩=(ju i)[j]?):∀ (j:Nat) (u:Value),(bE l)[j]?=T u->w.cell? ((⟨b,off,Z⟩:Addr).add j)=T u:=by
 intro j u hj
 have ea:(⟨b,off,Z⟩:Addr).add j=⟨b,off+j,Z⟩:=by unfold Addr.add;split <;> simp_all
 have hjl:=(List.getElem?_eq_some_iff.1 hj).1
 rw[iO] at hjl
 have hk:j / 8<l.length:=by omega
 have hm:j / 8*8+j % 8=j:=by omega
 have h1:=h (j / 8) l[j / 8] (List.getElem?_eq_getElem hk) (j % 8) (by omega)
 rw[<-m6 (List.getElem?_eq_getElem hk) (by omega:j % 8<8),hm,hj,Nat.add_assoc,hm] at h1
 rw[ea]
 exact h1
def DF (w:World)(l:List aN)(e:Ending)(w':World):Prop:=∃ v',e=.returned v'/\w'.ownsRow w.heap.size 117 8 v' l.length (bE l)/\Below w.heap.size w w'
theorem uP (a:Option Addr)(n c:Nat)(w:World):(binOp .eql 22 (J a n c) (J Z 0 0)).run Tryz.prog w=.ok (.bool a.isNone) w:=by
 simp[binOp,run_equal_slice_nil w 22 117 a n c Tryz.underlying22,Result.andThen]
theorem C7 (l:List aN)(a:Option Addr)(ca:Nat)(w:World)(hn:a=Z->ca=0)(ha:DY w a l)(hl:l.length<=1000):
 Calls Tryz.prog 78 #[J a l.length ca] w (DF w l):=by
 have hq:=uP a l.length ca
 cases a with
 | none=>
  have h0:l=[]:=by
   cases l with
   | nil=>rfl
   | cons i l=>obtain⟨b,off,e,_⟩:=ha (by simp);cases e
  subst h0
  obtain rfl:=hn rfl
  clear ha
  replace hq:∀ w,(binOp .eql 22 (J Z 0 0) (J Z 0 0)).run Tryz.prog w=.ok (.bool K) w:=hq
  go_enter Tryz.func78,Tryz.ntmps78
  go_wp2
  go_ret
  exact⟨_,rfl,World.ownsRow_nil _ _ _ _,E _ _⟩
 | some ad=>
  replace hq:∀ w,(binOp .eql 22 (J (T ad) l.length ca) (J Z 0 0)).run Tryz.prog w=.ok (.bool U) w:=hq
  go_enter Tryz.func78,Tryz.ntmps78
  have hB:Hid (Bk (w.alloc (G #[] 117)) w.heap.size 117 #[]):=F (Bk.made w _ _)
  have HO:Hid ((w.alloc (G #[] 117)).ownsRow w.heap.size 117 8 (J (T ⟨w.heap.size,0,Z⟩) 0 0) 0 []):=F ⟨rfl,.inr ⟨w.heap.size,0,#[],rfl,D _,hB.out,D _,by simp,rfl,rfl⟩⟩
  have HN:Hid (∀ (j:Nat) (u:Value),(bE l)[j]?=T u->(w.alloc (G #[] 117)).cell? (ad.add j)=T u):=F fun j u hj=>by
   have hjl:=(List.getElem?_eq_some_iff.1 hj).1
   rw[iO] at hjl
   obtain⟨b,off,e,hlt,hc⟩:=ha (by omega)
   injection e with e
   subst e
   exact xj (w:=w.alloc _) (fun k i hk j hj=>(World.cell?_of_block (Below.heap_alloc w _ b hlt)).trans (hc k i hk j hj)) j u hj
  obtain⟨i0,hi0,hz0,hz1,hz2⟩:=info_parts ur
  have HI:=F (And.intro hi0 (And.intro hz0 (And.intro hz1 hz2)))
  clear hi0 hz0 hz1 hz2 ha hB
  go_wp2_with (at_builtin;refine wpList_append_own_at _ rfl _ _ 22 rfl w.heap.size 117 i0 _ 8 64 Tryz.underlying22 HI.out.1 HI.out.2.1 HI.out.2.2.1 HI.out.2.2.2 rfl (by omega) _ 0 [] rfl HO.out ad l.length ca (bE l) rfl (by rw[iO]) HN.out (uU l) (by simp only[maxLen];omega) (by omega) (by simp) ?_;intro v' w' hown hgr _ hloc)
  go_ret
  refine⟨v',rfl,by simpa using hown,?_⟩
  exact Below.grown ((E _ _).alloc (D _) _) hgr (by simp) (fun j hj=>by cases hj;exact D _)
theorem EP (c:im)(v:Value)(w:World)(hv:Pv w v c)(hl:c.l.length<=1000):
 Calls Tryz.prog 43 #[v] w fun e w'=>∃ v',e=.returned v'/\Pg w' w.heap.size v' c/\Below w.heap.size w w':=by
 obtain⟨a,ca,rfl,hc1,hc2,hn,ha⟩:=hv
 obtain⟨l,lo,un⟩:=c
 simp only at hl hc1 ha ⊢
 obtain⟨b0,k1,k2⟩:=nW w 24 #[J a l.length ca,I Q lo,I Q un] #[J Z 0 0,I Q 0,I Q 0]
 go_enter Tryz.func43,Tryz.ntmps43
 go_upto_region 1 with fail
 generalize (w.alloc (G #[J a l.length ca,I Q lo,I Q un] 24)).alloc (G #[J Z 0 0,I Q 0,I Q 0] 24)=x at *
 have x0:x.cell? ⟨w.heap.size,0,Z⟩=T (J a l.length ca):=k1.cell 0
 have HC:=F (C7 l a ca x hn (ha.below b0) hl)
 go_wp2_with fail
 refine HC.out.mono ?_
 rintro e y ⟨v',rfl,hown,hy⟩
 replace k1:Bk y _ _ _:=(hy.block _ k1.lt).trans k1
 replace k2:Bk y _ _ _:=(hy.block _ k2.lt).trans k2
 have hxs:=b0.size
 replace b0:=b0.trans (hy.mono b0.size)
 obtain⟨a2,cap2,rfl,hcap2,hmax2,_⟩:=bt hown
 clear x0 HC
 have x0:y.cell? ⟨w.heap.size,0,Z⟩=T (J a l.length ca):=k1.cell 0
 have xf:=k1.free 0
 go_upto_region 2 with fail
 have hne:∀ g,(Value.slice a2 l.length cap2).ownBlock=T g->g≠w.heap.size/\g≠w.heap.size+1:=fun g hg=>by
  obtain⟨cs,hcs⟩:=bf hown hg
  exact⟨fun e=>Bk.aj hcs k1 (by decide) e,fun e=>Bk.aj hcs k2 (by decide) e⟩
 have o1:=aq hown ((ab.refl y (fun b=>b=w.heap.size)).put w.heap.size 0 (J a2 l.length cap2) (.inl rfl)) (fun g hg e=>(hne g hg).1 e)
 replace k2:=k2.off (p:=⟨w.heap.size,0,Z⟩) (by show w.heap.size+1≠w.heap.size;omega) (J a2 l.length cap2)
 replace k1:Bk (y.setCell ⟨w.heap.size,0,Z⟩ (J a2 l.length cap2)) w.heap.size 24 #[J a2 l.length cap2,I Q lo,I Q un]:=k1.put 0 _
 replace b0:=b0.setCell (p:=⟨w.heap.size,0,Z⟩) (D _) (J a2 l.length cap2)
 clear hown x0 xf
 generalize y.setCell ⟨w.heap.size,0,Z⟩ (J a2 l.length cap2)=y at *
 obtain⟨x0,x1,x2⟩:=k1.lz
 obtain⟨z0,z1,z2⟩:=k2.lz
 have zf:=k2.free
 go_wp2
 have h9:=ed k2 (J a2 l.length cap2) (I Q lo) (I Q un)
 have b9:=bO b0 (by show w.heap.size<=w.heap.size+1;omega) (J a2 l.length cap2) (I Q lo) (I Q un)
 have o9:(dE y (w.heap.size+1) (J a2 l.length cap2) (I Q lo) (I Q un)).ownsRow x.heap.size 117 8 (J a2 l.length cap2) l.length (bE l):=aq o1 ((((ab.refl y (fun b=>b=w.heap.size+1)).put (w.heap.size+1) 0 (J a2 l.length cap2) (.inl rfl)).put (w.heap.size+1) 1 (I Q lo) (.inl rfl)).put (w.heap.size+1) 2 (I Q un) (.inl rfl)) (fun b e e2=>(hne b e).2 e2)
 replace o9:=World.ownsRow.mono (base':=w.heap.size) o9 hxs
 generalize hv9:(((y.setCell ⟨w.heap.size+1,0,Z⟩ (J a2 l.length cap2)).setCell ⟨w.heap.size+1,1,Z⟩ (I Q lo)).setCell ⟨w.heap.size+1,2,Z⟩ (I Q un))=v9
 replace hv9:dE y (w.heap.size+1) (J a2 l.length cap2) (I Q lo) (I Q un)=v9:=hv9
 rw[hv9] at h9 b9 o9
 obtain⟨q0,q1,q2⟩:=h9.lz
 refine bodyPost_ret (v:=.agg #[J a2 l.length cap2,I Q lo,I Q un]) (by simp[results,Tryz.results43,go_sem,q0,q1,q2]) rfl ⟨.agg #[J a2 l.length cap2,I Q lo,I Q un],rfl,⟨_,rfl,o9⟩,b9⟩
def E7:Value:=.agg #[J Z 0 0,I Q 0,I Q 0,J Z 0 0,J Z 0 0,I Q 0,J Z 0 0]
def DN (V:World)(k:Lk)(init r7:List Int)(e:Ending)(w':World):Prop:=∃ v,e=.returned (.tuple #[v,I Q 0])/\Sv w' v ⟨k.l,k.lo,k.un⟩ k.zs init r7 k.each/\Below V.heap.size V w'
def Fj (V:World)(k:Lk)(init r7:List Int)(e:Ending)(w':World):Prop:=∃ v,e=.returned (.tuple #[v,.bool K])/\Rv V.heap.size w' v ⟨k.l,k.lo,k.un⟩ k.zs init r7 k.each/\Below V.heap.size V w'
def FP (V:World)(e:Ending)(w':World):Prop:=e=.returned (.tuple #[E7,I Q 5])/\Below V.heap.size V w'
def Fi (V:World)(e:Ending)(w':World):Prop:=e=.returned (.tuple #[E7,.bool U])/\Below V.heap.size V w'
section
variable {base:Nat}{w:World}{v:Value}{k:Lk}{init r7:List Int}{each:Int}
theorem BX (h:Sv w v ⟨k.l,k.lo,k.un⟩ k.zs init r7 each):∃ aL cL aS cS aI cI aR cR,v=.agg #[J aL k.l.length cL,I Q k.lo,I Q k.un,J aS k.zs.length cS,J aI init.length cI,I Q each,J aR r7.length cR]:=by
 obtain⟨aL,cL,aS,cS,aI,cI,aR,cR,rfl,-⟩:=h
 exact⟨aL,cL,aS,cS,aI,cI,aR,cR,rfl⟩
theorem Rv.less {base':Nat}{c:im}{zs:List Int}(h:Rv base w v c zs init r7 each)(hb:base'<=base):Rv base' w v c zs init r7 each:=by
 obtain⟨sl,aS,cS,aI,cI,aR,cR,rfl,h,g⟩:=h
 exact⟨sl,aS,cS,aI,cI,aR,cR,rfl,World.ownsRow.mono h hb,g⟩
theorem El (h:Rv base w v ⟨k.l,k.lo,k.un⟩ k.zs init r7 each):∃ aL cL aS cS aI cI aR cR,v=.agg #[J aL k.l.length cL,I Q k.lo,I Q k.un,J aS k.zs.length cS,J aI init.length cI,I Q each,J aR r7.length cR]:=by
 obtain⟨sl,aS,cS,aI,cI,aR,cR,rfl,h,-⟩:=h
 obtain⟨aL,cL,rfl,-⟩:=bt h
 exact⟨aL,cL,aS,cS,aI,cI,aR,cR,rfl⟩
end
theorem Gh (r0 r1 r2 r3 r4 r5 r6 r7:Int):∀ (k:Nat),k<8->∀ W:World,(Instr.index 105 (.agg #[I O r0,I O r1,I O r2,I O r3,I O r4,I O r5,I O r6,I O r7]) (I Q (k:Int))).run Tryz.prog W=.ok (I O (aF [r0,r1,r2,r3,r4,r5,r6,r7] k)) W:=by
 intro k hk W
 have:k=0\/k=1\/k=2\/k=3\/k=4\/k=5\/k=6\/k=7:=by omega
 rcases this with rfl|rfl|rfl|rfl|rfl|rfl|rfl|rfl <;> (clear hk;refine Eq.trans ?_ rfl;kernel_rfl)
theorem EE (xs:List Int)(pc:Int)(hx:bh xs)(w:World):
 Calls Tryz.prog 57 #[cv xs pc] w fun e w'=>e=.returned (rv xs pc)/\Below w.heap.size w w':=by
 obtain⟨h8,hu⟩:=hx
 obtain⟨r0,r1,r2,r3,r4,r5,r6,r7,rfl⟩:=aC h8
 have HU:=F hu
 clear hu h8
 have q1:Rb ((w.alloc (G #[I O r0,I O r1,I O r2,I O r3,I O r4,I O r5,I O r6,I O r7,I Q pc] 107)).alloc (G #[I Q 0,I Q 0,I Q 0,I Q 0,I Q 0,I Q 0,I Q 0,I Q 0,I Q 0] 111)) (w.heap.size+1) [0,0,0,0,0,0,0,0] 0:=by
  have:=Rb.made (w.alloc (G #[I O r0,I O r1,I O r2,I O r3,I O r4,I O r5,I O r6,I O r7,I Q pc] 107)) [0,0,0,0,0,0,0,0] 0
  rw[World.size_alloc] at this
  exact this
 have b0:Below w.heap.size w ((w.alloc (G #[I O r0,I O r1,I O r2,I O r3,I O r4,I O r5,I O r6,I O r7,I Q pc] 107)).alloc (G #[I Q 0,I Q 0,I Q 0,I Q 0,I Q 0,I Q 0,I Q 0,I Q 0,I Q 0] 111)):=((E _ _).alloc (D _) _).alloc (by simp) _
 have q0:Cb ((w.alloc (G #[I O r0,I O r1,I O r2,I O r3,I O r4,I O r5,I O r6,I O r7,I Q pc] 107)).alloc (G #[I Q 0,I Q 0,I Q 0,I Q 0,I Q 0,I Q 0,I Q 0,I Q 0,I Q 0] 111)) w.heap.size [r0,r1,r2,r3,r4,r5,r6,r7] pc:=Bk.alloc (Cb.made w [r0,r1,r2,r3,r4,r5,r6,r7] pc) _
 have hsz:((w.alloc (G #[I O r0,I O r1,I O r2,I O r3,I O r4,I O r5,I O r6,I O r7,I Q pc] 107)).alloc (G #[I Q 0,I Q 0,I Q 0,I Q 0,I Q 0,I Q 0,I Q 0,I Q 0,I Q 0] 111)).heap.size=w.heap.size+1+1:=by simp
 unfold cv rv
 simp only[bP,dd,List.map_cons,List.map_nil,List.cons_append,List.nil_append]
 go_enter Tryz.func57,Tryz.ntmps57
 go_upto_region 1 with fail
 generalize (w.alloc (G #[I O r0,I O r1,I O r2,I O r3,I O r4,I O r5,I O r6,I O r7,I Q pc] 107)).alloc (G #[I Q 0,I Q 0,I Q 0,I Q 0,I Q 0,I Q 0,I Q 0,I Q 0,I Q 0] 111)=x at *
 obtain⟨c0,c1,c2,c3,c4,c5,c6,c7,c8⟩:=q0.cells
 go_upto_region 2 with fail
 have q2:=Rb.made x [0,0,0,0,0,0,0,0] pc
 rw[hsz] at q2
 replace q1:=q1.below ((E _ x).alloc (D _) (G (dd [0,0,0,0,0,0,0,0] pc).toArray 111))
 replace b0:=b0.alloc (o:=G (dd [0,0,0,0,0,0,0,0] pc).toArray 111) b0.size
 replace q0:=q0.below ((E _ x).alloc (D _) (G (dd [0,0,0,0,0,0,0,0] pc).toArray 111))
 clear c0 c1 c2 c3 c4 c5 c6 c7 c8
 simp only[dd,List.map_cons,List.map_nil,List.cons_append,List.nil_append] at q0 q1 q2 b0
 generalize x.alloc (G #[I Q 0,I Q 0,I Q 0,I Q 0,I Q 0,I Q 0,I Q 0,I Q 0,I Q pc] 111)=y at *
 obtain⟨c0,c1,c2,c3,c4,c5,c6,c7,c8⟩:=q0.cells
 go_wp2
 clear c0 c1 c2 c3 c4 c5 c6 c7 c8
 go_loopw [11] (fun i wr=>∃ k:Nat,i=I Q k/\k<=8/\Below w.heap.size w wr/\Rb wr (w.heap.size+1+1) (eO [r0,r1,r2,r3,r4,r5,r6,r7] [0,0,0,0,0,0,0,0] k) pc/\Rb wr (w.heap.size+1) [0,0,0,0,0,0,0,0] 0) (fun i _=>8-(intOf i).toNat)
 case atStart=>exact⟨0,rfl,Nat.zero_le _,b0,q2,q1⟩
 case round=>
  obtain⟨k,rfl,hk,hb,hO,hR⟩:=hrel
  clear q0 q1 q2 b0 hsz
  by_cases hlt:k<8
  ·have hki:(k:Int)<8:=by omega
   have hix:=Gh r0 r1 r2 r3 r4 r5 r6 r7 k hlt
   have hV:=HU.out.at_ k
   have hset:(eO [r0,r1,r2,r3,r4,r5,r6,r7] [0,0,0,0,0,0,0,0] k).set k (aF [r0,r1,r2,r3,r4,r5,r6,r7] k)=eO [r0,r1,r2,r3,r4,r5,r6,r7] [0,0,0,0,0,0,0,0] (k+1):=ox (z:=(0:Int)) _ _ k hlt hlt
   have hlen:(eO [r0,r1,r2,r3,r4,r5,r6,r7] [0,0,0,0,0,0,0,0] k).length=8:=kJ _ _ _ hk hk
   have hO2:=hO.set hlen hlt (aF [r0,r1,r2,r3,r4,r5,r6,r7] k)
   rw[hset] at hO2
   have zk:=hO.at_ hlen hlt
   have zf:=Bk.free hO
   have hR2:Rb (wr.setCell ⟨w.heap.size+1+1,k,Z⟩ (I Q (aF [r0,r1,r2,r3,r4,r5,r6,r7] k))) _ _ _:=Bk.off hR (p:=⟨w.heap.size+1+1,k,Z⟩) (by show w.heap.size+1≠w.heap.size+1+1;omega) _
   have hb2:=hb.setCell (p:=⟨w.heap.size+1+1,k,Z⟩) (by show w.heap.size<=w.heap.size+1+1;omega) (I Q (aF [r0,r1,r2,r3,r4,r5,r6,r7] k))
   have HEND:=F (And.intro hb2 (And.intro hO2 hR2))
   clear hset hlen hO hO2 hR hR2 hb hb2 HU
   generalize aF [r0,r1,r2,r3,r4,r5,r6,r7] k=V at *
   generalize aF (eO [r0,r1,r2,r3,r4,r5,r6,r7] [0,0,0,0,0,0,0,0] k) k=V2 at *
   go_wp2
   go_roundw
   case rel=>exact⟨k+1,by go_num,by omega,HEND.out.1,HEND.out.2.1,HEND.out.2.2⟩
   case measure=>
    show 8-((k:Int)+1).toNat<8-(k:Int).toNat
    omega
  ·obtain rfl:k=8:=by omega
   simp only[eO,List.take_succ_cons,List.take_nil,List.drop_succ_cons,List.drop_nil,List.append_nil] at hO
   obtain⟨z0,z1,z2,z3,z4,z5,z6,z7,z8⟩:=hO.cells
   obtain⟨t0,t1,t2,t3,t4,t5,t6,t7,t8⟩:=hR.cells
   have zf:=Bk.free hR
   go_upto_region 7 with fail
   have h9:=bz hR (I Q r0) (I Q r1) (I Q r2) (I Q r3) (I Q r4) (I Q r5) (I Q r6) (I Q r7) (I Q pc)
   have b9:=ba hb (show w.heap.size<=w.heap.size+1 by omega) (I Q r0) (I Q r1) (I Q r2) (I Q r3) (I Q r4) (I Q r5) (I Q r6) (I Q r7) (I Q pc)
   go_wp
   generalize hv9:(((((((((wr.setCell ⟨w.heap.size+1,0,Z⟩ (I Q r0)).setCell ⟨w.heap.size+1,1,Z⟩ (I Q r1)).setCell ⟨w.heap.size+1,2,Z⟩ (I Q r2)).setCell ⟨w.heap.size+1,3,Z⟩ (I Q r3)).setCell ⟨w.heap.size+1,4,Z⟩ (I Q r4)).setCell ⟨w.heap.size+1,5,Z⟩ (I Q r5)).setCell ⟨w.heap.size+1,6,Z⟩ (I Q r6)).setCell ⟨w.heap.size+1,7,Z⟩ (I Q r7)).setCell ⟨w.heap.size+1,8,Z⟩ (I Q pc))=v9
   replace hv9:bn wr (w.heap.size+1) (I Q r0) (I Q r1) (I Q r2) (I Q r3) (I Q r4) (I Q r5) (I Q r6) (I Q r7) (I Q pc)=v9:=hv9
   rw[hv9] at h9 b9
   obtain⟨y0,y1,y2,y3,y4,y5,y6,y7,y8⟩:=Rb.cells (r0:=r0) (r1:=r1) (r2:=r2) (r3:=r3) (r4:=r4) (r5:=r5) (r6:=r6) (r7:=r7) (pc:=pc) h9
   exact bodyPost_ret (v:=.agg #[I Q r0,I Q r1,I Q r2,I Q r3,I Q r4,I Q r5,I Q r6,I Q r7,I Q pc]) (by simp[results,Tryz.results57,go_sem,y0,y1,y2,y3,y4,y5,y6,y7,y8]) rfl ⟨rfl,b9⟩
theorem rT:(Tryz.prog.info? 70).map (fun i=>(i.zero,i.size,i.bytes))=T (T (I O 0),1,4):=by kernel_rfl
theorem iR (N:Nat)(hN:N<=40000)(W:World):(Instr.makeSlice 26 (I Q N) (I Q N)).run Tryz.prog W=.ok (J (T ⟨W.heap.size,0,Z⟩) N N) (W.alloc (G (madeCells #[I O 0] N) 70)):=by
 obtain⟨i0,hi0,hz0,hz1,hz2⟩:=info_parts rT
 have h:=run_make (P:=Tryz.prog) W 26 70 i0 _ Tryz.underlying26 hi0 hz0 .i64 .i64 N N (by omega) (by omega) (by rw[hz2];omega) (by omega)
 rw[hz1] at h
 simpa [Value.cells] using h
def zO (c:im)(w:World)(e:Ending)(w':World):Prop:=∃ v,e=.returned (.tuple #[v,I Q 0,I Q 0])/\Pg w' w.heap.size v c/\Below w.heap.size w w'
def zN (c:im)(w:World)(e:Ending)(w':World):Prop:=∃ sl,e=.returned (.tuple #[.agg #[sl,I Q c.lo,I Q c.un],I Q 0,I Q 0])/\w'.ownsRow w.heap.size 123 8 sl c.l.length (bE c.l)/\Below w.heap.size w w'
def wI (xs:List Int):Array Value:=(xs.map (Value.int .i64)).toArray
def oY (xs:List Int)(v:Value)(W:World):Prop:=∃ b,v=J (T ⟨b,0,Z⟩) xs.length xs.length/\Bk W b 3 (wI xs)
def jy (xs:List Int)(v:Value)(W:World):Prop:=∃ b,v=J (T ⟨b,0,Z⟩) xs.length xs.length/\Bk W b 70 (words xs)
def wU (aL:Option Addr)(cL:Nat)(c:im)(zs init r7:List Int)(each:Int)(v:Value)(W:World):Prop:=
 ∃ b1 b2 b3,v=.agg #[J aL c.l.length cL,I Q c.lo,I Q c.un,J (T ⟨b1,0,Z⟩) zs.length zs.length,J (T ⟨b2,0,Z⟩) init.length init.length,I Q each,J (T ⟨b3,0,Z⟩) r7.length r7.length]/\Bk W b1 3 (wI zs)/\Bk W b2 70 (words init)/\Bk W b3 70 (words r7)
section
variable {aL:Option Addr}{cL:Nat}{c:im}{xs zs init r7:List Int}{each:Int}{v:Value}{W W':World}{S:Nat->Prop}
def wP (W:World)(S:Nat->Prop):Prop:=∀ b,S b->∃ t cs,Bk W b t cs/\t≠3/\t≠70
theorem wP.int (h:wP W S){b:Nat}{cs:Array Value}(hb:Bk W b 3 cs):¬ S b:=fun hs=>by
 obtain⟨t,cs',h1,h2,_⟩:=h _ hs
 exact Bk.aj hb h1 (fun e=>h2 e.symm) rfl
theorem wP.word (h:wP W S){b:Nat}{cs:Array Value}(hb:Bk W b 70 cs):¬ S b:=fun hs=>by
 obtain⟨t,cs',h1,_,h2⟩:=h _ hs
 exact Bk.aj hb h1 (fun e=>h2 e.symm) rfl
theorem oY.within (h:oY xs v W)(hw:ab W W' S)(hS:wP W S):oY xs v W':=by
 obtain⟨b,e,h1⟩:=h;exact⟨b,e,h1.within hw (hS.int h1)⟩
theorem jy.within (h:jy xs v W)(hw:ab W W' S)(hS:wP W S):jy xs v W':=by
 obtain⟨b,e,h1⟩:=h;exact⟨b,e,h1.within hw (hS.word h1)⟩
theorem wU.within (h:wU aL cL c zs init r7 each v W)(hw:ab W W' S)(hS:wP W S):wU aL cL c zs init r7 each v W':=by
 obtain⟨b1,b2,b3,e,h1,h2,h3⟩:=h
 exact⟨b1,b2,b3,e,h1.within hw (hS.int h1),h2.within hw (hS.word h2),h3.within hw (hS.word h3)⟩
theorem oY.below (h:oY xs v W)(hb:Below W.heap.size W W'):oY xs v W':=by obtain⟨b,e,h1⟩:=h;exact⟨b,e,(hb.block _ h1.lt).trans h1⟩
theorem jy.below (h:jy xs v W)(hb:Below W.heap.size W W'):jy xs v W':=by obtain⟨b,e,h1⟩:=h;exact⟨b,e,(hb.block _ h1.lt).trans h1⟩
theorem wU.below (h:wU aL cL c zs init r7 each v W)(hb:Below W.heap.size W W'):wU aL cL c zs init r7 each v W':=h.within (ay hb) (fun b hs=>by simp at hs)
theorem jl {b:Nat}(h:Bk W b 3 (wI xs)):dO .i64 W (T ⟨b,0,Z⟩) xs:=fun _=>⟨b,0,rfl,h.lt,fun i hi=>by rw[Nat.zero_add,h.cell];simp[wI,hi,aF]⟩
theorem dW {b:Nat}(h:Bk W b 70 (words xs)):dO .u32 W (T ⟨b,0,Z⟩) xs:=fun _=>⟨b,0,rfl,h.lt,fun i hi=>by rw[Nat.zero_add,h.cell,fo xs i hi]⟩
theorem wU.sv {base:Nat}(h:wU aL cL c zs init r7 each v W)(ho:W.ownsRow base 117 8 (J aL c.l.length cL) c.l.length (bE c.l))(h1:zs.length<=maxLen)(h2:init.length<=maxLen)(h3:r7.length<=maxLen):Sv W v c zs init r7 each:=by
 obtain⟨b1,b2,b3,rfl,k1,k2,k3⟩:=h
 exact⟨aL,cL,_,_,_,_,_,_,rfl,zg ho,jl k1,dW k2,dW k3,h1,h2,h3⟩
theorem wU.rv {base:Nat}(h:wU aL cL c zs init r7 each v W)(ho:W.ownsRow base 123 8 (J aL c.l.length cL) c.l.length (bE c.l))(h1:zs.length<=maxLen)(h2:init.length<=maxLen)(h3:r7.length<=maxLen):Rv base W v c zs init r7 each:=by
 obtain⟨b1,b2,b3,rfl,k1,k2,k3⟩:=h
 exact⟨_,_,_,_,_,_,_,rfl,ho,jl k1,dW k2,dW k3,h1,h2,h3⟩
theorem db (y:World)(ca cb cc cd:Array Value)(ta tb tc td:TypeId):
 Bk ((((y.alloc (.cells ca ta)).alloc (.cells cb tb)).alloc (.cells cc tc)).alloc (.cells cd td)) y.heap.size ta ca/\Bk ((((y.alloc (.cells ca ta)).alloc (.cells cb tb)).alloc (.cells cc tc)).alloc (.cells cd td)) (y.heap.size+1) tb cb/\
 Bk ((((y.alloc (.cells ca ta)).alloc (.cells cb tb)).alloc (.cells cc tc)).alloc (.cells cd td)) (y.heap.size+1+1) tc cc/\Bk ((((y.alloc (.cells ca ta)).alloc (.cells cb tb)).alloc (.cells cc tc)).alloc (.cells cd td)) (y.heap.size+1+1+1) td cd/\
 Below y.heap.size y ((((y.alloc (.cells ca ta)).alloc (.cells cb tb)).alloc (.cells cc tc)).alloc (.cells cd td)):=by
 have s1:(y.alloc (.cells ca ta)).heap.size=y.heap.size+1:=World.size_alloc _ _
 have s2:((y.alloc (.cells ca ta)).alloc (.cells cb tb)).heap.size=y.heap.size+1+1:=by rw[World.size_alloc,s1]
 have s3:(((y.alloc (.cells ca ta)).alloc (.cells cb tb)).alloc (.cells cc tc)).heap.size=y.heap.size+1+1+1:=by rw[World.size_alloc,s2]
 refine⟨(((Bk.made y ta ca).alloc _).alloc _).alloc _,?_,?_,?_,?_⟩
 ·have h:=((Bk.made (y.alloc (.cells ca ta)) tb cb).alloc (.cells cc tc)).alloc (.cells cd td)
  rw[s1] at h;exact h
 ·have h:=(Bk.made ((y.alloc (.cells ca ta)).alloc (.cells cb tb)) tc cc).alloc (.cells cd td)
  rw[s2] at h;exact h
 ·have h:=Bk.made (((y.alloc (.cells ca ta)).alloc (.cells cb tb)).alloc (.cells cc tc)) td cd
  rw[s3] at h;exact h
 ·exact((((E y.heap.size y).alloc (D _) _).alloc (by rw[s1];omega) _).alloc (by rw[s2];omega) _).alloc (by rw[s3];omega) _
theorem ji (n:Nat):madeCells #[I O 0] n=words (List.replicate n 0):=g9 n
end
