import Derived.Test.YtieiifdhdjhnoaaGreatDoorQRuB
import Derived.Test.YtieiifdhdjhnoaaGreatDoorQEyD3
import Derived.Test.YtieiifdhdjhnoaaGreatDoorQEyE2
import Derived.Test.YtieiifdhdjhnoaaGreatDoorQEyE6
import Derived.Test.YtieiifdhdjhnoaaGreatDoorQEyF
import Derived.Test.YtieiifdhdjhnoaaGreatDoorQRuD
import Derived.Test.YtieiifdhdjhnoaaGreatDoorQEyN
import Derived.Test.YtieiifdhdjhnoaaGreatDoorQInstB
import Derived.Test.YtieiifdhdjhnoaaGreatDoorQWdA
import Derived.Test.YtieiifdhdjhnoaaGreatDoorQFfS
import Derived.Test.YtieiifdhdjhnoaaGreatDoorQAsmD
import Derived.Test.YtieiifdhdjhnoaaGreatDoorQRunM
import Derived.Test.YtieiifdhdjhnoaaGreatDoorQArR
set_option linter.unusedVariables false
set_option maxHeartbeats 4000000
set_option maxRecDepth 100000
open Go.Value renaming int->I,slice->R,pointer->K
open Go.IntKind renaming i64->Q
open Option renaming none->O,some->Z
open Bool renaming false->V
open Go.Obj renaming cells->J
open Go.Lib renaming hid->G
open Go.RowKit.Below renaming refl->E
open Nat renaming le_refl->D
namespace Go.Proofs.YtieiifdhdjhnoaaGreatDoor
section
open Go.ChangeShapes Go.WideShapes Go.ChangeAt Go.RowKit
def oZ (i:aU):Bool:=decide (i.op≠19) && (decide (i.op≠20) && (decide (i.op≠22) && (decide (i.op≠23) && ((decide (i.op≠21) || decide (i.pl<0))))))
theorem B8 {k:Lk}(hq:k.l.all oZ=true):gG k:=by
 intro w Y m t L h ht
 cases hm:ke k (m.cs t).pc with
 | none=>
  rw[xc hm]
  exact Fv h t ht _ hm
 | some i=>
  have hop:=(h.lk.Gl hm).op
  have hi:oZ i=true:=List.all_eq_true.1 hq i (List.mem_of_getElem? (gR hm).2.2.1)
  simp only[oZ,Bool.and_eq_true,Bool.or_eq_true,decide_eq_true_eq] at hi
  obtain⟨h19,h20,h22,h23,h21p⟩:=hi
  cases hf:gC k.zs i.a (aD (m.cs t).xs i.s.toNat) with
  | none=>exact B0 h t ht _ L hm ⟨h22,h23⟩ hf
  | some A=>
   by_cases h16:i.op=16
   ·exact D4 h t ht _ L hm h16 hf
   by_cases h17:i.op=17
   ·exact B1 h t ht _ L hm h17 hf
   by_cases h18:i.op=18
   ·exact D3 h t ht _ L hm h18 hf
   have h21:i.op=21:=by omega
   have hl:i.pl<0:=by
    rcases h21p with e | e
    ·exact absurd h21 e
    ·exact e
   cases hh:(decide (aD m.ws A=aD (m.cs t).xs i.t.toNat) != decide (i.k=1)) with
   | true=>exact rQ h t ht _ L hm h21 hf hh
   | false=>
    exact qr h t ht L hm h21 hf hh (.inr hl)
theorem s8 (N:Nat)(hN:N<=40000)(W:World):(Instr.makeSlice 25 (I Q N) (I Q N)).run Tryz.prog W=.ok (R (Z ⟨W.heap.size,0,O⟩) N N) (W.alloc (J (madeCells #[I Q 0] N) 3)):=by
 obtain⟨i0,hi0,hz0,hz1,hz2⟩:=info_parts lh
 have h:=run_make (P:=Tryz.prog) W 25 3 i0 _ Tryz.underlying25 hi0 hz0 .i64 .i64 N N (by omega) (by omega) (by rw[hz2];omega) (by omega)
 rw[hz1] at h
 simpa [Value.cells] using h
theorem qd (n:Nat):ml (fun _=>0) n=List.replicate n 0:=by
 unfold ml
 exact List.ext_getElem (by rw[List.length_map,List.length_range,List.length_replicate]) (fun i h1 h2=>by rw[List.getElem_map,List.getElem_replicate])
section
variable {w:World}{k:Lk}
def GC (base:Nat)(k:Lk)(init r7:List Int)(Y:YP)(W:World):Prop:=Ey W Y k (zA k init r7)/\∀ i,Y.Own k.n i->base<=i
def GD (base n:Nat)(d:Nat)(W:World):Prop:=qq W d n (List.replicate n 0)/\base<=d
def Fu (base:Nat)(k:Lk)(init r7:List Int)(U:RP)(W:World):Prop:=Ru W U k (jM k init r7)/\∀ i,U.Own k.n i->base<=i
def Hl (base:Nat)(k:Lk)(init r7:List Int)(x y:Value)(W:World):Prop:=∃ (Y:YP) (d:Nat),x=K (Z ⟨Y.y,0,O⟩)/\y=R (Z ⟨d,0,O⟩) k.n k.n/\GC base k init r7 Y W/\GD base k.n d W/\¬ Y.Own k.n d
theorem GC.below {base:Nat}{k:Lk}{init r7:List Int}{Y:YP}{W W':World}(h:GC base k init r7 Y W)(hb:Below W.heap.size W W'):GC base k init r7 Y W':=⟨h.1.below hb,h.2⟩
theorem GD.below {base n d:Nat}{W W':World}(h:GD base n d W)(hb:Below W.heap.size W W'):GD base n d W':=⟨h.1.within (af hb) (by simp),h.2⟩
theorem Fu.below {base:Nat}{k:Lk}{init r7:List Int}{U:RP}{W W':World}(h:Fu base k init r7 U W)(hb:Below W.heap.size W W'):Fu base k init r7 U W':=⟨h.1.below hb,h.2⟩
theorem vE {base:Nat}{v:Value}{init r7:List Int}(hb:base<=w.heap.size)(hk:gH k)(hv:Rv base w v ⟨k.l,k.lo,k.un⟩ k.zs init r7 k.each)(hi:init.length=jP k.zs)(hiu:gF init)(hr:r7.length=k.n)(hru:gF r7):
 Calls Tryz.prog 35 #[v,I Q k.n] w fun e w'=>∃ U:RP,e=.returned (K (Z ⟨U.g,0,O⟩))/\Fu base k init r7 U w'/\Below w.heap.size w w':=by
 have HNw:Hid (∀ W,Below w.heap.size w W->Calls Tryz.prog 20 #[v,I Q k.n] W (BM W base k init r7)):=G (fun W hW=>Fw (Nat.le_trans hb hW.size) hk (hv.below hW) hi hiu hr hru)
 have hn64:=hk.n64
 obtain⟨sl,aS,cS,aI,cI,aR,cR,rfl,ho,-⟩:=hv
 simp only at ho HNw ⊢
 obtain⟨aL,cL,rfl,_⟩:=aX ho
 have hbz:Below w.heap.size w (w.alloc (J #[R aL k.l.length cL,I Q k.lo,I Q k.un,R aS k.zs.length cS,R aI init.length cI,I Q (k.each:Int),R aR r7.length cR] 36)):=(E _ _).alloc (D _) _
 have hB:=Bk.made w 36 #[R aL k.l.length cL,I Q k.lo,I Q k.un,R aS k.zs.length cS,R aI init.length cI,I Q (k.each:Int),R aR r7.length cR]
 clear ho hk hi hiu hr hru
 go_enter Tryz.func35,Tryz.ntmps35
 go_upto_region 1 with fail
 refine mH (fun W=>Below w.heap.size w W/\Bk W w.heap.size 36 #[R aL k.l.length cL,I Q k.lo,I Q k.un,R aS k.zs.length cS,R aI init.length cI,I Q (k.each:Int),R aR r7.length cR]) (fun vs=>{ tmps:=#[.agg #[R aL k.l.length cL,I Q k.lo,I Q k.un,R aS k.zs.length cS,R aI init.length cI,I Q (k.each:Int),R aR r7.length cR],I Q (k.n:Int),K (Z ⟨w.heap.size,0,O⟩),undef,vs 7,vs 0,vs 1,vs 2,vs 3,vs 4,vs 5,vs 6],defers:=[] }) (nD [(2,fun v W=>∃ Y:YP,v=K (Z ⟨Y.y,0,O⟩)/\GC base k init r7 Y W),(4,fun v W=>∃ d,v=R (Z ⟨d,0,O⟩) k.n k.n/\GD base k.n d W),(5,fun v W=>∃ (Y:YP) (d:Nat),v=.agg #[K (Z ⟨Y.y,0,O⟩),R (Z ⟨d,0,O⟩) k.n k.n,R O 0 0,I Q 0]/\GC base k init r7 Y W/\GD base k.n d W/\¬ Y.Own k.n d),(6,fun v W=>∃ U:RP,v=K (Z ⟨U.g,0,O⟩)/\Fu base k init r7 U W),(7,fun v W=>∃ U:RP,v=K (Z ⟨U.g,0,O⟩)/\Fu base k init r7 U W)] [.agg #[R aL k.l.length cL,I Q k.lo,I Q k.un,R aS k.zs.length cS,R aI init.length cI,I Q (k.each:Int),R aR r7.length cR],I Q (k.n:Int),undef,I Q (k.n:Int),undef,undef,undef,undef]) 2 4 (Hl base k init r7) ?ghm ?ghr ?ghab ?ghal ?ghbl ?ghlit ?gh0 ?ghW ?ghF ?ghP ?gops ?gdone
 case ghm=>kernel_rfl
 case ghr=>kernel_rfl
 case ghab=>decide
 case ghal=>decide
 case ghbl=>decide
 case ghlit=>intro vs;rfl
 case gh0=>exact⟨hbz,hB⟩
 case ghW=>exact fun W W2 h hb=>⟨h.1.trans (hb.mono h.1.size),Bk.within h.2 (af hb) (by simp)⟩
 case ghF=>exact dW (by
  intro p0 hp
  simp only[List.mem_cons,List.not_mem_nil,or_false] at hp
  rcases hp with rfl|rfl|rfl|rfl|rfl
  ·exact fun v W W2 ⟨Y,h1,h2⟩ hb=>⟨Y,h1,h2.below hb⟩
  ·exact fun v W W2 ⟨d,h1,h2⟩ hb=>⟨d,h1,h2.below hb⟩
  ·exact fun v W W2 ⟨Y,d,h1,h2,h3,h4⟩ hb=>⟨Y,d,h1,h2.below hb,h3.below hb,h4⟩
  ·exact fun v W W2 ⟨U,h1,h2⟩ hb=>⟨U,h1,h2.below hb⟩
  ·exact fun v W W2 ⟨U,h1,h2⟩ hb=>⟨U,h1,h2.below hb⟩)
 case ghP=>exact fun x y W W2 ⟨Y,d,h1,h2,h3,h4,h5⟩ hb=>⟨Y,d,h1,h2,h3.below hb,h4.below hb,h5⟩
 case gops=>
  refine⟨?_,?_,?_,?_,?_,?_,?_,?_,trivial⟩
  ·intro vs W hW hd hp
   refine aa rfl ?_
   have hq:=hW.2
   obtain⟨y0,y1,y2,y3,y4,y5,y6⟩:=hq.lZ
   clear hq hd hp
   go_simp
   exact⟨⟨rfl,fun e=>absurd e (by decide),fun e=>absurd e (by decide)⟩,E _ _⟩
  ·intro vs W hW hd hp
   refine aa rfl ?_
   clear hd hp
   go_simp
   exact⟨⟨rfl,fun e=>absurd e (by decide),fun e=>absurd e (by decide)⟩,E _ _⟩
  ·intro vs W hW hd hp
   refine aa rfl ?_
   have e0:vs 0=.agg #[R aL k.l.length cL,I Q k.lo,I Q k.un,R aS k.zs.length cS,R aI init.length cI,I Q (k.each:Int),R aR r7.length cR]:=hd 0 (by decide)
   have e1:vs 1=I Q (k.n:Int):=hd 1 (by decide)
   have hc:=HNw.out W hW.1
   have hsz:=hW.1.size
   clear hd hp
   go_simp
   refine hc.mono ?_
   rintro e W2 ⟨Y,rfl,h2,h3,h4⟩
   refine⟨_,rfl,⟨⟨Y,rfl,h2,fun i hi=>(h4 i hi).1⟩,fun _ y hy=>?_,fun e=>absurd e (by decide)⟩,h3⟩
   obtain⟨d,rfl,hd4⟩:∃ d,y=R (Z ⟨d,0,O⟩) k.n k.n/\GD base k.n d W:=hy
   refine⟨Y,d,rfl,rfl,⟨h2,fun i hi=>(h4 i hi).1⟩,hd4.below h3,fun hi=>?_⟩
   rcases(h4 d hi).2 with e | e
   ·obtain⟨c,hc2⟩:=aY h2.code e
    obtain⟨c2,hc3,_⟩:=(hd4.below h3).1.bk
    exact Bk.av hc2 hc3 (by decide) rfl
   ·have:=hd4.1.lt;omega
  ·intro vs W hW hd hp
   refine aa rfl ?_
   clear hd hp
   go_simp
   exact⟨⟨rfl,fun e=>absurd e (by decide),fun e=>absurd e (by decide)⟩,E _ _⟩
  ·intro vs W hW hd hp
   refine aa rfl ?_
   have e3:vs 3=I Q (k.n:Int):=hd 3 (by decide)
   have hmk:=s8 k.n (by omega) W
   have hA:Below W.heap.size W (W.alloc (J (madeCells #[I Q 0] k.n) 3)):=(E _ _).alloc (D _) _
   have hI:=qq.made W k.n (by simp only[maxLen];omega)
   have hsz:=hW.1.size
   clear hd hp
   go_simp
   try simp only[hmk]
   refine⟨⟨⟨W.heap.size,rfl,hI,Nat.le_trans hb hsz⟩,fun e=>absurd e (by decide),fun _ x hx=>?_⟩,hA⟩
   obtain⟨Y,rfl,hY⟩:∃ Y:YP,x=K (Z ⟨Y.y,0,O⟩)/\GC base k init r7 Y W:=hx
   exact⟨Y,W.heap.size,rfl,rfl,hY.below hA,⟨hI,Nat.le_trans hb hsz⟩,fun hi=>by have:=hY.1.lt hi;omega⟩
  ·intro vs W hW hd hp
   refine aa rfl ?_
   obtain⟨Y,d,e2,e4,h2,h4,h5⟩:=hp (by decide) (by decide)
   clear hd
   go_simp
   exact⟨⟨⟨Y,d,rfl,h2,h4,h5⟩,fun e=>absurd e (by decide),fun e=>absurd e (by decide)⟩,E _ _⟩
  ·intro vs W hW hd hp
   refine aa rfl ?_
   obtain⟨Y,d,e5,h2,h4,h5⟩:=hd 5 (by decide)
   have hA:Below W.heap.size W (W.alloc (J #[K (Z ⟨Y.y,0,O⟩),R (Z ⟨d,0,O⟩) k.n k.n,R O 0 0,I Q 0] 85)):=(E _ _).alloc (D _) _
   have hM:=Bk.made W 85 #[K (Z ⟨Y.y,0,O⟩),R (Z ⟨d,0,O⟩) k.n k.n,R O 0 0,I Q 0]
   have hsz:=hW.1.size
   clear hd hp
   go_simp
   refine⟨⟨⟨⟨W.heap.size,Y,d,R O 0 0⟩,rfl,⟨hM,?_,World.ownsRow_nil _ _ _ _,h2.1.below hA,h5⟩,fun i hi=>?_⟩,fun e=>absurd e (by decide),fun e=>absurd e (by decide)⟩,hA⟩
   ·show qq _ d k.n (ml (fun _=>0) k.n)
    rw[qd]
    exact(h4.below hA).1
   ·rcases hi with e | e | e | e
    ·rw[e];exact Nat.le_trans hb hsz
    ·rw[e];exact h4.2
    ·cases e
    ·exact h2.2 i e
  ·intro vs W hW hd hp
   refine aa rfl ?_
   obtain⟨U,e6,h6⟩:=hd 6 (by decide)
   clear hd hp
   go_simp
   exact⟨⟨⟨U,rfl,h6⟩,fun e=>absurd e (by decide),fun e=>absurd e (by decide)⟩,E _ _⟩
 case gdone=>
  intro vs W hW hf hp
  obtain⟨U,e7,h7⟩:=hf 7 (by decide)
  simp only[e7]
  have hbl:=hW.1
  clear hf hp hW
  go_wp2
  go_ret
  exact⟨U,rfl,h7,hbl⟩
end
structure oK where
 kd:Int
 t:Int
 L:Int
def oK.op (x:oK):ki:=⟨x.kd,x.t,decide (x.L≠0)⟩
def pa (base:Nat)(w:World)(a:Option Addr)(l:List oK):Prop:=
 0<l.length->∃ b off,a=Z ⟨b,off,O⟩/\b<base/\∀ i x,l[i]?=Z x->w.cell? ⟨b,off+i*3,O⟩=Z (I Q x.kd)/\w.cell? ⟨b,off+i*3+1,O⟩=Z (I Q x.t)/\w.cell? ⟨b,off+i*3+2,O⟩=Z (I Q x.L)
theorem pa.within {base:Nat}{w w':World}{a:Option Addr}{l:List oK}{S:Nat->Prop}(h:pa base w a l)(hw:ag w w' S)(hb:base<=w.heap.size)(hs:∀ i,S i->base<=i):pa base w' a l:=by
 intro h0
 obtain⟨b,off,e,h1,h2⟩:=h h0
 have hk:∀ j,w'.cell? ⟨b,j,O⟩=w.cell? ⟨b,j,O⟩:=fun j=>by
  have:=hw.block b (Nat.lt_of_lt_of_le h1 hb) (fun e=>by have:=hs b e;omega)
  unfold World.cell?
  simp only[this]
 refine⟨b,off,e,h1,fun i x hx=>?_⟩
 obtain⟨c0,c1,c2⟩:=h2 i x hx
 exact⟨(hk _).trans c0,(hk _).trans c1,(hk _).trans c2⟩
theorem pw (k:Lk)(r:Rn)(l:List oK)(j:Nat)(h:j<l.length):fo k r ((l.take (j+1)).map oK.op)=dN k (fo k r ((l.take j).map oK.op)) l[j].op:=by
 rw[List.take_succ_eq_append_getElem h,List.map_append]
 unfold fo
 rw[List.foldl_append]
 rfl
section
variable {w:World}{k:Lk}
theorem Eo {base:Nat}{v:Value}{init r7:List Int}(ops:List oK)(cap1:Nat)(ab:Option Addr)(hb:base<=w.heap.size)(hk:gH k)(hv:Rv base w v ⟨k.l,k.lo,k.un⟩ k.zs init r7 k.each)(hi:init.length=jP k.zs)(hiu:gF init)(hr:r7.length=k.n)(hru:gF r7)
 (ho:pa base w ab ops) (hlen:ops.length<=100000) (hs:gG k):
 Calls Tryz.prog 16 #[v,I Q k.n,R ab ops.length cap1] w fun e w'=>e=.returned (.bool (decide ((fo k (jM k init r7) (ops.map oK.op)).bad=V/\cj k.n (fo k (jM k init r7) (ops.map oK.op)).l=(fo k (jM k init r7) (ops.map oK.op)).l.length)))/\ag w w' (fun i=>base<=i):=by
 have HBg:Hid (∀ W,Below w.heap.size w W->Calls Tryz.prog 35 #[v,I Q k.n] W fun e w'=>∃ U:RP,e=.returned (K (Z ⟨U.g,0,O⟩))/\Fu base k init r7 U w'/\Below W.heap.size W w'):=G (fun W hW=>vE (Nat.le_trans hb hW.size) hk (hv.below hW) hi hiu hr hru)
 have HRL:Hid (∀ j,j<=ops.length->(fo k (jM k init r7) ((ops.take j).map oK.op)).l.length<=258*100000):=G (fun j hj=>by
  have:=nV hk ((ops.take j).map oK.op) (jM k init r7)
  have h0:(jM k init r7).l.length=0:=rfl
  rw[h0,List.length_map,List.length_take] at this
  have h2:min j ops.length<=100000:=by omega
  have h3:258*min j ops.length<=258*100000:=Nat.mul_le_mul_left _ h2
  omega)
 have HSn:=G (fun j h=>pw k (jM k init r7) ops j h)
 have HTk:Hid ((ops.take ops.length).map oK.op=ops.map oK.op):=G (by rw[List.take_length])
 have hn64:=hk.n64
 obtain⟨sl,aS,cS,aI,cI,aR,cR,rfl,hsl,-⟩:=hv
 simp only at hsl HBg ⊢
 obtain⟨aL,cL,rfl,_⟩:=aX hsl
 have HO:=G ho
 have hbz:Below w.heap.size w (w.alloc (J #[R aL k.l.length cL,I Q k.lo,I Q k.un,R aS k.zs.length cS,R aI init.length cI,I Q (k.each:Int),R aR r7.length cR] 36)):=(E _ _).alloc (D _) _
 have hB:=Bk.made w 36 #[R aL k.l.length cL,I Q k.lo,I Q k.un,R aS k.zs.length cS,R aI init.length cI,I Q (k.each:Int),R aR r7.length cR]
 clear hsl hk hi hiu hr hru ho
 generalize hrn:jM k init r7=rn at *
 go_enter Tryz.func16,Tryz.ntmps16
 go_upto_region 1 with fail
 generalize w.alloc (J #[R aL k.l.length cL,I Q k.lo,I Q k.un,R aS k.zs.length cS,R aI init.length cI,I Q (k.each:Int),R aR r7.length cR] 36)=z at *
 obtain⟨y0,y1,y2,y3,y4,y5,y6⟩:=hB.lZ
 have HC:=G (HBg.out z hbz)
 clear HBg
 go_upto_region 2 with (refine HC.out.mono ?_;rintro e w2 ⟨U,rfl,hU,hw2⟩;clear HC y0 y1 y2 y3 y4 y5 y6)
 have h2:=hbz.trans (hw2.mono hbz.size)
 obtain⟨g,hg⟩:∃ g,U.g=g:=⟨_,rfl⟩
 rw[hg]
 have hU1:Ru w2 U k rn:=by rw[<-hrn];exact hU.1
 have hU2:=hU.2
 clear hU hB hbz hw2
 have HU:=G (And.intro hU1 (And.intro hU2 hg))
 have HW2:=G ((af h2).wide (S':=fun i=>base<=i) (by simp))
 clear hU1 hU2 hg h2
 go_wp2
 go_loopw [15] (fun x wr=>∃ (j:Nat) (U':RP),x=I Q j/\j<=ops.length/\Hid (Ru wr U' k (fo k rn ((ops.take j).map oK.op))/\(∀ i,U'.Own k.n i->base<=i)/\U'.g=g)/\Hid (ag w wr (fun i=>base<=i))) (fun x _=>ops.length-(intOf x).toNat)
 case atStart=>exact⟨0,U,rfl,Nat.zero_le _,HU,HW2⟩
 case round=>
  obtain⟨j,U',rfl,hj,HR,HW⟩:=hrel
  by_cases hlt:j<ops.length
  ·have hji:(j:Int)<ops.length:=by omega
   have hS:=HO.out.within HW.out hb (fun i h=>h)
   obtain⟨b,off,rfl,hbb,hcs⟩:=hS (by omega)
   obtain⟨c0,c1,c2⟩:=hcs j ops[j] (List.getElem?_eq_getElem hlt)
   have hN:=HSn.out j hlt
   try rw[hrn] at hN
   obtain⟨hRu,hOw,hgg⟩:=HR.out
   have hlr:=HRL.out j hj
   try rw[hrn] at hlr
   have HOpr:Hid (∀ W,Below wr.heap.size wr W->Calls Tryz.prog 36 #[K (Z ⟨g,0,O⟩),.agg #[I Q ops[j].kd,I Q ops[j].t,I Q ops[j].L]] W fun e w'=>e=.returned (.tuple #[])/\∃ U2,(Ru w' U2 k (fo k rn ((ops.take (j+1)).map oK.op))/\(∀ i,U2.Own k.n i->base<=i)/\U2.g=g)/\ag w w' (fun i=>base<=i)):=G (fun W hW=>by
    have hc:=G0 (hRu.below hW) ops[j].kd ops[j].t ops[j].L (decide (ops[j].L≠0)) rfl (by omega) hs
    rw[hgg] at hc
    refine hc.mono ?_
    rintro e w' ⟨h1,U2,h3,h4⟩
    refine⟨h1,U2,⟨by rw[hN];exact h3,fun i hi=>?_,h4.2.2.1.trans hgg⟩,?_⟩
    ·rcases h4.2.1 i hi with e2 | e2
     ·exact hOw i e2
     ·have h5:=hW.size
      have h6:=HW.out.size
      omega
    ·exact(HW.out.aJ ((af hW).wide (S':=fun i=>base<=i) (by simp)) (fun i h=>.inl h)).aJ (h4.1.wide (S':=fun i=>base<=i) (fun i h _=>hOw i h)) (fun i h=>.inl h))
   generalize ops[j]=x at *
   obtain⟨kd,t,L⟩:=x
   simp only at c0 c1 c2 HOpr
   clear hS hcs hN hRu hOw hgg hlr HR HW
   go_upto_region 5 with fail
   have hb5:Below wr.heap.size wr (wr.alloc (J #[I Q kd,I Q t,I Q L] 58)):=(E _ _).alloc (D _) _
   have hB5:=Bk.made wr 58 #[I Q kd,I Q t,I Q L]
   have hc5:=HOpr.out _ hb5
   clear HOpr hb5
   generalize wr.alloc (J #[I Q kd,I Q t,I Q L] 58)=z5 at *
   obtain⟨e0,e1,e2⟩:=hB5.iS
   have HC5:=G hc5
   clear hc5 hB5 c0 c1 c2
   go_wp2_with fail
   refine HC5.out.mono ?_
   rintro e w5 ⟨rfl,U2,h3,h4⟩
   have N3:=G h3
   have N4:=G h4
   clear h3 h4 HC5 e0 e1 e2
   go_wp2
   go_roundw
   case rel=>exact⟨j+1,U2,by go_num,by omega,N3,N4⟩
   case measure=>simp[intOf];omega
  ·obtain rfl:j=ops.length:=by omega
   obtain⟨hRu,hOw,hgg⟩:=HR.out
   have hlr:=HRL.out ops.length (D _)
   rw[HTk.out] at hRu hlr
   try rw[hrn] at hlr
   obtain⟨rm,hrm⟩:∃ rm,fo k rn (ops.map oK.op)=rm:=⟨_,rfl⟩
   rw[hrm] at hRu hlr
   have HRM:=G hrm
   clear hrm
   obtain⟨al,capl,elv,hm1,hm2,hS⟩:=hRu.ja.is
   have c3:=hRu.c3
   have c2:=hRu.c2
   rw[hgg] at c2 c3
   rw[elv] at c2
   have HF2:Hid (∀ q:fL wr,Calls Tryz.prog 37 #[I Q k.n,R al rm.l.length capl] q.x fun e w'=>e=.returned (I Q (cj k.n rm.l:Nat))/\Below q.x.heap.size q.x w'):=G (fun q=>Bg k.n rm.l al capl q.x (hS.below q.ok) hm1 hm2 (by omega))
   have g2:∀ q:fL wr,q.x.cell? ⟨g,2,O⟩=Z (R al rm.l.length capl):=fun q=>q.cell c2
   clear hRu hOw hgg hlr elv hS HR c2 HSn HTk HRL
   cases hbad:rm.bad with
   | true=>
    have HV:Hid (decide (rm.bad=V/\cj k.n rm.l=rm.l.length)=V):=G (decide_eq_false (fun h=>by have h1:=h.1;rw[hbad] at h1;cases h1))
    rw[hbad] at c3
    have g3:∀ q:fL wr,q.x.cell? ⟨g,3,O⟩=Z (I Q 1):=fun q=>q.cell c3
    clear c3
    go_upto_region 7 with fail
    refine ap (by kernel_rfl) (by kernel_rfl) ?_
    repeat (go_big_quiet_step ((go_at_call 37;with_reducible exact ao (HF2.out _))))
    refine wpQuiet_nil ?_
    rintro y ⟨q,rfl⟩
    have hfin:=HW.out.aJ ((af q.ok).wide (S':=fun i=>base<=i) (by simp)) (fun i h=>.inl h)
    clear g2 g3 HF2
    go_wp2
    go_ret
    exact⟨(congrArg (fun x=>Ending.returned (.bool x)) HV.out.symm).trans (by rw[HRM.out]),hfin⟩
   | false=>
    obtain⟨o,hoo⟩:∃ o,decide (cj k.n rm.l=rm.l.length)=o:=⟨_,rfl⟩
    have hoi:(((cj k.n rm.l:Nat):Int)==((rm.l.length:Nat):Int))=o:=by
     rw[<-hoo]
     by_cases e:cj k.n rm.l=rm.l.length
     ·rw[e];simp
     ·rw[decide_eq_false e];exact beq_eq_false_iff_ne.2 (by omega)
    have HV:Hid (decide (rm.bad=V/\cj k.n rm.l=rm.l.length)=o):=G (by rw[<-hoo,hbad];simp)
    clear hoo
    rw[hbad] at c3
    have g3:∀ q:fL wr,q.x.cell? ⟨g,3,O⟩=Z (I Q 0):=fun q=>q.cell c3
    clear c3
    go_upto_region 7 with fail
    refine ap (by kernel_rfl) (by kernel_rfl) ?_
    repeat (go_big_quiet_step ((go_at_call 37;with_reducible exact ao (HF2.out _))))
    refine wpQuiet_nil ?_
    rintro y ⟨q,rfl⟩
    have hfin:=HW.out.aJ ((af q.ok).wide (S':=fun i=>base<=i) (by simp)) (fun i h=>.inl h)
    clear g2 g3 HF2
    go_wp2
    go_ret
    exact⟨(congrArg (fun x=>Ending.returned (.bool x)) HV.out.symm).trans (by rw[HRM.out]),hfin⟩
end
end
section
open Go.Joins Go.ChangeShapes Go.WideShapes Go.ChangeAt Go.RowKit Go.Deep
theorem xB {H:Type}{enc:TypeId×Value->H}{W:World}{base:Nat}{sp:Nat->Bool}{rI:Bool}{fuel:Nat}{a:Option Addr}{len cap:Nat}{x:DataW H×List MemPlace}
 (hf:DataW.trod enc Tryz.prog W base sp rI fuel 44 [R a len cap]=Z x):∃ l:List oK,len=l.length/\pa W.heap.size W a l/\l.length<=maxLen:=by
 obtain⟨hle,hr⟩:=xA Tryz.underlying44 Tryz.underlying58 (by kernel_rfl) (by kernel_rfl) (by decide) hf
 by_cases h0:0<len
 ·obtain⟨b,off,rfl,hlt,hc⟩:=hr h0
  have one:∀ i,i<len->∃ x:oK,W.cell? ⟨b,off+i*3,O⟩=Z (I Q x.kd)/\W.cell? ⟨b,off+i*3+1,O⟩=Z (I Q x.t)/\W.cell? ⟨b,off+i*3+2,O⟩=Z (I Q x.L):=by
   intro i hi
   have get:∀ j,j<3->∃ n:Int,W.cell? ⟨b,off+i*3+j,O⟩=Z (I Q n):=by
    intro j hj
    obtain⟨u,hu,hw⟩:=hc i hi j hj
    match j,hj with
    | 0,_=>obtain⟨n,y,hy⟩:=hw _ rfl;obtain⟨x,e,_,wx⟩:=DataW.trod_int Tryz.underlying3 hy;simp at e;subst e;exact⟨x,hu⟩
    | 1,_=>obtain⟨n,y,hy⟩:=hw _ rfl;obtain⟨x,e,_,wx⟩:=DataW.trod_int Tryz.underlying3 hy;simp at e;subst e;exact⟨x,hu⟩
    | 2,_=>obtain⟨n,y,hy⟩:=hw _ rfl;obtain⟨x,e,_,wx⟩:=DataW.trod_int Tryz.underlying3 hy;simp at e;subst e;exact⟨x,hu⟩
   obtain⟨k,hk⟩:=get 0 (by omega)
   obtain⟨t,ht⟩:=get 1 (by omega)
   obtain⟨n,hn⟩:=get 2 (by omega)
   exact⟨⟨k,t,n⟩,hk,ht,hn⟩
  obtain⟨l,hl,hp⟩:=wq len one
  subst hl
  exact⟨l,rfl,fun _=>⟨b,off,rfl,hlt,fun k x hk=>hp k x hk⟩,hle⟩
 ·obtain rfl:len=0:=by omega
  exact⟨[],rfl,fun h=>by simp at h,by simp⟩
theorem sV {H:Type}{enc:TypeId×Value->H}{W:World}{base b0:Nat}{sp:Nat->Bool}{rI:Bool}{r:Reach}{v:Value}{d:DataW H}{ps:List MemPlace}
 (hval:Value.okWide Tryz.prog W r b0 44 v) (h:DataW.Trod enc Tryz.prog W base sp rI 44 v d ps):
 ∃ (l:List oK) (a:Option Addr) (cap:Nat),v=R a l.length cap/\pa W.heap.size W a l/\l.length<=maxLen:=by
 obtain⟨a,len,cap,rfl⟩:=okWide_slice Tryz.underlying44 hval
 obtain⟨fuel,hf⟩:=h
 obtain⟨l,rfl,h1,h2⟩:=xB (by simpa [Value.cells] using hf)
 exact⟨l,a,cap,rfl,h1,h2⟩
theorem pa.grow {B B':Nat}{w w':World}{a:Option Addr}{l:List oK}(h:pa B w a l)(hw:Below B w w')(hB:B<=w.heap.size)(hBB:B<=B'):pa B' w' a l:=by
 intro h0
 obtain⟨b,off,e,h1,h2⟩:=h h0
 have hk:∀ j,w'.cell? ⟨b,j,O⟩=w.cell? ⟨b,j,O⟩:=fun j=>by
  have:=hw.block b h1
  unfold World.cell?
  simp only[this]
 refine⟨b,off,e,Nat.lt_of_lt_of_le h1 hBB,fun i x hx=>?_⟩
 obtain⟨c0,c1,c2⟩:=h2 i x hx
 exact⟨(hk _).trans c0,(hk _).trans c1,(hk _).trans c2⟩
theorem lV {B base:Nat}{w A A':World}(h:Below B w A)(hA:ag A A' (fun i=>base<=i))(hB:B<=base)(hw:B<=w.heap.size):Below B w A':=
 ⟨hA.os.trans h.os,hA.tape.trans h.tape,hA.output.trans h.output,Nat.le_trans h.size hA.size,fun i hi=>(hA.block i (Nat.lt_of_lt_of_le hi (Nat.le_trans hw h.size)) (by omega)).trans (h.block i hi)⟩
end
section
open Go.ChangeShapes Go.WideShapes Go.ChangeAt Go.RowKit
attribute [local irreducible] fO dm
section
variable {w:World}{U:RP}{k:Lk}{r:Rn}
theorem Ah (F:Nat)(hF:F=5000)(h:Ru w U k r)(hl:r.l.length<=1000000)(hs:gG k):
 Calls Tryz.prog 38 #[K (Z ⟨U.g,0,O⟩)] w fun e w'=>e=.returned (.bool (fO k F r).1)/\vz w U k (fO k F r).2 w':=by
 have HFF:=G hF
 clear hF
 have HLK:=G h.ey.lk
 have HH:=G h
 have hn64:=h.ey.lk.n64
 have HLen:=G hl
 obtain⟨g,hg⟩:∃ g,U.g=g:=⟨_,rfl⟩
 obtain⟨d,hd⟩:∃ d,U.d=d:=⟨_,rfl⟩
 have HG:=G (And.intro hg hd)
 rw[hg]
 clear h hl hg hd
 go_enter Tryz.func38,Tryz.ntmps38
 go_wp2
 go_loopw [3] (fun x wr=>∃ (T:Nat) (U':RP) (rT:Rn),x=I Q T/\T<=5000/\Hid (Ru wr U' k rT/\bi w k.n U wr U'/\rT.l.length<=r.l.length+258*(64*T)/\fO k F r=fO k (F-T) rT)) (fun x _=>5000-(intOf x).toNat)
 case atStart=>exact⟨0,U,r,rfl,Nat.zero_le _,G ⟨HH.out,bi.refl _ _ _,by omega,by rw[Nat.sub_zero]⟩⟩
 case round=>
  obtain⟨T,U',rT,rfl,hT,HR⟩:=hrel
  by_cases hlt:T<5000
  ·have hTi:(T:Int)<5000:=by omega
   have hc1:=HR.out.1.c1
   have hgg:U'.g=g:=HR.out.2.1.2.2.1.trans HG.out.1
   have hdd:U'.d=d:=HR.out.2.1.2.2.2.trans HG.out.2
   rw[hgg,hdd] at hc1
   clear hgg hdd
   have HF0:Hid (fO k (F-T) rT=if eD (dm k rT k.n) k.n=V then (true,dm k rT k.n) else fO k (F-(T+1)) (dm k rT k.n)):=G (by rw[show F-T=(F-(T+1))+1 by have:=HFF.out;omega];exact hG _ _ _)
   go_wp2
   go_loopw [4,15] (fun bz x wr=>∃ (j:Nat) (U2:RP),x=I Q j/\j<=k.n/\bz=.bool (eD (dm k rT j) j)/\Hid (Ru wr U2 k (dm k rT j)/\bi w k.n U wr U2/\(dm k rT j).l.length<=r.l.length+258*(64*T+j))) (fun _ x _=>k.n-(intOf x).toNat)
   case atStart=>exact⟨0,U',rfl,Nat.zero_le _,rfl,G (by rw[pJ];exact⟨HR.out.1,HR.out.2.1,HR.out.2.2.1⟩)⟩
   case round=>
    obtain⟨j,U2,rfl,hj,rfl,HJ⟩:=hrel
    by_cases hjt:j<k.n
    ·have hji:(j:Int)<k.n:=by omega
     obtain⟨hRu,hSt,hll⟩:=HJ.out
     have hgg:U2.g=g:=hSt.2.2.1.trans HG.out.1
     have hdd:U2.d=d:=hSt.2.2.2.trans HG.out.2
     have hc1:=hRu.c1
     have hx:=hRu.act hjt
     rw[hgg,hdd] at hc1
     rw[hdd] at hx
     have hlo:=HLen.out
     have HOp:Hid (∀ kd:Int,(if (dm k rT j).act j=2 then 2 else 3)=kd->Calls Tryz.prog 36 #[K (Z ⟨g,0,O⟩),.agg #[I Q kd,I Q j,I Q 0]] wr fun e w'=>e=.returned (.tuple #[])/\∃ U3:RP,(w'.cell? ⟨g,1,O⟩=Z (R (Z ⟨d,0,O⟩) k.n k.n)/\w'.cell? ⟨d,j,O⟩=Z (I Q ((dm k rT (j+1)).act j)))/\Ru w' U3 k (dm k rT (j+1))/\bi w k.n U w' U3/\(dm k rT (j+1)).l.length<=r.l.length+258*(64*T+(j+1))):=G (fun kd hkd=>by
      have hc:=G0 hRu kd j 0 V rfl (by omega) hs
      have hol:=ka HLK.out (dm k rT j) ⟨kd,j,V⟩
      have he:dN k (dm k rT j) ⟨kd,j,V⟩=dm k rT (j+1):=by rw[lK];unfold bc;rw[hkd]
      rw[he] at hc hol
      rw[hgg] at hc
      refine hc.mono ?_
      rintro e w' ⟨h1,U3,h3,h4⟩
      have d1:=h3.c1
      have d2:=h3.act hjt
      rw[h4.2.2.1.trans hgg,h4.2.2.2.trans hdd] at d1
      rw[h4.2.2.2.trans hdd] at d2
      exact⟨h1,U3,⟨d1,d2⟩,h3,hSt.aJ h4,by omega⟩)
     have HBz:=G (vw k rT j)
     generalize eD (dm k rT j) j=bj at *
     obtain⟨a0,ha0⟩:∃ a0,(dm k rT j).act j=a0:=⟨_,rfl⟩
     rw[ha0] at hx HOp
     clear ha0 hRu hSt hll hgg hdd HJ hlo
     cases a2:(a0==2) with
     | true=>
      have HC:=G (HOp.out 2 (by rw[if_pos (eq_of_beq a2)]))
      clear HOp
      go_wp2_with fail
      refine HC.out.mono ?_
      rintro e w5 ⟨rfl,U3,⟨hc5,hx5⟩,hr5⟩
      have HR5:=G hr5
      clear hr5 HC hc1 hx
      cases bj with
      | true=>
       have HB5:Hid (eD (dm k rT (j+1)) (j+1)=true):=G (by rw[HBz.out];rfl)
       clear HBz
       go_wp2
       go_roundw
       case rel=>exact⟨j+1,U3,by go_num,by omega,by rw[HB5.out],HR5⟩
       case measure=>simp[intOf];omega
      | false=>
       have HB5:Hid (eD (dm k rT (j+1)) (j+1)=((dm k rT (j+1)).act j != 0)):=G (by rw[HBz.out];rfl)
       clear HBz
       go_wp2
       go_roundw
       case rel=>exact⟨j+1,U3,by go_num,by omega,by rw[HB5.out],HR5⟩
       case measure=>simp[intOf];omega
     | false=>
      have HC:=G (HOp.out 3 (by rw[if_neg (ne_of_beq_false a2)]))
      clear HOp
      go_wp2_with fail
      refine HC.out.mono ?_
      rintro e w5 ⟨rfl,U3,⟨hc5,hx5⟩,hr5⟩
      have HR5:=G hr5
      clear hr5 HC hc1 hx
      cases bj with
      | true=>
       have HB5:Hid (eD (dm k rT (j+1)) (j+1)=true):=G (by rw[HBz.out];rfl)
       clear HBz
       go_wp2
       go_roundw
       case rel=>exact⟨j+1,U3,by go_num,by omega,by rw[HB5.out],HR5⟩
       case measure=>simp[intOf];omega
      | false=>
       have HB5:Hid (eD (dm k rT (j+1)) (j+1)=((dm k rT (j+1)).act j != 0)):=G (by rw[HBz.out];rfl)
       clear HBz
       go_wp2
       go_roundw
       case rel=>exact⟨j+1,U3,by go_num,by omega,by rw[HB5.out],HR5⟩
       case measure=>simp[intOf];omega
    ·obtain rfl:j=k.n:=by omega
     have HE:Hid (fO k F r=if eD (dm k rT k.n) k.n=V then (true,dm k rT k.n) else fO k (F-(T+1)) (dm k rT k.n)):=G (HR.out.2.2.2.trans HF0.out)
     have hT2:T+1<=5000:=by omega
     cases hbz:eD (dm k rT k.n) k.n with
     | true=>
      have HE2:Hid (fO k F r=fO k (F-(T+1)) (dm k rT k.n)):=G (by rw[HE.out,hbz];simp)
      clear hbz HE HF0 HR hc1
      go_wp2
      go_roundw
      case rel=>exact⟨T+1,U2,dm k rT k.n,by go_num,hT2,G ⟨HJ.out.1,HJ.out.2.1,by have:=HJ.out.2.2;omega,HE2.out⟩⟩
      case measure=>simp[intOf];omega
     | false=>
      have HE2:Hid (fO k F r=(true,dm k rT k.n)):=G (by rw[HE.out,hbz];simp)
      clear hbz HE HF0 HR hc1
      go_wp2
      go_ret
      exact⟨by rw[HE2.out];rfl,by rw[HE2.out];exact⟨U2,HJ.out.1,HJ.out.2.1⟩⟩
  ·obtain rfl:T=5000:=by omega
   have HE2:Hid (fO k F r=(V,rT)):=G (by rw[HR.out.2.2.2,show F-5000=0 by have:=HFF.out;omega];exact pV _ _)
   go_wp2
   go_ret
   exact⟨by rw[HE2.out];rfl,by rw[HE2.out];exact⟨U',HR.out.1,HR.out.2.1⟩⟩
theorem Cx (h:Ru w U k r)(hl:r.l.length<=1000000)(hs:gG k):
 Calls Tryz.prog 38 #[K (Z ⟨U.g,0,O⟩)] w fun e w'=>e=.returned (.bool (fO k 5000 r).1)/\vz w U k (fO k 5000 r).2 w':=Ah 5000 rfl h hl hs
end
end
section
open Go.ChangeShapes Go.WideShapes Go.ChangeAt Go.RowKit
theorem Ru.wm {W:World}{U:RP}{k:Lk}{r:Rn}{b:Nat}{cs:Array Value}(h:Ru W U k r)(hb:Bk W b 36 cs):¬ U.Own k.n b:=by
 rintro(e | e | e | e)
 ·exact Bk.av h.ptr hb (by decide) e.symm
 ·obtain⟨D2,hb2,_⟩:=h.acts.bk
  exact Bk.av hb2 hb (by decide) e.symm
 ·obtain⟨D2,hb2⟩:=aY h.ja e
  exact Bk.av hb2 hb (by decide) rfl
 ·exact h.ey.iI hb (by decide) (by decide) (by decide) (by decide) (by decide) (by decide) (by decide) (by decide) e
def qo (base:Nat)(w:World)(k:Lk)(g bx:Nat)(cs:Array Value)(r:Rn)(W:World):Prop:=∃ U:RP,(Ru W U k r/\(∀ i,U.Own k.n i->base<=i)/\U.g=g)/\ag w W (fun i=>base<=i)/\Bk W bx 36 cs
section
variable {base:Nat}{w W W':World}{k:Lk}{g bx:Nat}{cs:Array Value}{r r':Rn}{U U':RP}
theorem qo.next (h:(Ru W U k r/\(∀ i,U.Own k.n i->base<=i)/\U.g=g)/\ag w W (fun i=>base<=i)/\Bk W bx 36 cs)(hb:base<=w.heap.size)(h':Ru W' U' k r')(hs:bi W k.n U W' U'):qo base w k g bx cs r' W':=by
 obtain⟨⟨h1,h2,h3⟩,h4,h5⟩:=h
 refine⟨U',⟨h',fun i hi=>?_,hs.2.2.1.trans h3⟩,h4.aJ (hs.1.wide (S':=fun i=>base<=i) (fun i h _=>h2 i h)) (fun i h=>.inl h),h5.within hs.1 (h1.wm h5)⟩
 rcases hs.2.1 i hi with e | e
 ·exact h2 i e
 ·exact Nat.le_trans hb (Nat.le_trans h4.size e)
theorem qo.below (h:qo base w k g bx cs r W)(hb:base<=w.heap.size)(hW:Below W.heap.size W W'):qo base w k g bx cs r W':=by
 obtain⟨U,h⟩:=h
 exact qo.next h hb (h.1.1.below hW) ((bi.refl W k.n U).grown hW)
theorem oF (h:qo base w k g bx cs r W)(hb:base<=w.heap.size)(kd t' L:Int)(late:Bool)(hL:decide (L≠0)=late)(hl:r.l.length+258<100000000)(hs:gG k):
 Calls Tryz.prog 36 #[K (Z ⟨g,0,O⟩),.agg #[I Q kd,I Q t',I Q L]] W fun e w'=>e=.returned (.tuple #[])/\qo base w k g bx cs (dN k r ⟨kd,t',late⟩) w':=by
 obtain⟨U,h⟩:=h
 have hc:=G0 h.1.1 kd t' L late hL hl hs
 rw[h.1.2.2] at hc
 refine hc.mono ?_
 rintro e w' ⟨h1,U2,h3,h4⟩
 exact⟨h1,qo.next h hb h3 h4⟩
theorem uj (h:qo base w k g bx cs r W)(hb:base<=w.heap.size)(hl:r.l.length<=1000000)(hs:gG k):
 Calls Tryz.prog 38 #[K (Z ⟨g,0,O⟩)] W fun e w'=>e=.returned (.bool (fO k 5000 r).1)/\qo base w k g bx cs (fO k 5000 r).2 w':=by
 obtain⟨U,h⟩:=h
 have hc:=Cx h.1.1 hl hs
 rw[h.1.2.2] at hc
 refine hc.mono ?_
 rintro e w' ⟨h1,U2,h3,h4⟩
 exact⟨h1,qo.next h hb h3 h4⟩
theorem qo.c (h:qo base w k g bx cs r W):W.cell? ⟨g,3,O⟩=Z (I Q (Fh r.bad))/\∃ d,W.cell? ⟨g,1,O⟩=Z (R (Z ⟨d,0,O⟩) k.n k.n)/\∀ t,t<k.n->W.cell? ⟨d,t,O⟩=Z (I Q (r.act t)):=by
 obtain⟨U,⟨h1,h2,rfl⟩,h3⟩:=h
 exact⟨h1.c3,U.d,h1.c1,fun t ht=>h1.act ht⟩
theorem qo.box (h:qo base w k g bx cs r W):Bk W bx 36 cs:=by
 obtain⟨U,h⟩:=h
 exact h.2.2
theorem qo.win (h:qo base w k g bx cs r W):ag w W (fun i=>base<=i):=by
 obtain⟨U,h⟩:=h
 exact h.2.1
theorem qo.ja (h:qo base w k g bx cs r W)(hl:r.l.length<=100000000):∃ al capl,W.cell? ⟨g,2,O⟩=Z (R al r.l.length capl)/\∀ W2,Below W.heap.size W W2->Calls Tryz.prog 37 #[I Q k.n,R al r.l.length capl] W2 fun e w'=>e=.returned (I Q (cj k.n r.l:Nat))/\Below W2.heap.size W2 w':=by
 obtain⟨U,⟨h1,h2,rfl⟩,h3⟩:=h
 obtain⟨al,capl,elv,hm1,hm2,hS⟩:=h1.ja.is
 have c2:=h1.c2
 rw[elv] at c2
 exact⟨al,capl,c2,fun W2 hW=>Bg k.n r.l al capl W2 (hS.below hW) hm1 hm2 (by omega)⟩
end
theorem jR {k:Lk}(h:gH k)(t:Nat)(r:Rn):∀ j,(bt k t j r).l.length<=r.l.length+258*j
 | 0=>by show r.l.length<=_;omega
 | j+1=>by
  rw[gN]
  have h1:=jR h t r j
  have h2:=ka h (bt k t j r) ⟨3,t,V⟩
  omega
def D1 (f:Nat->Nat)(n:Nat):List Int:=ml (fun t=>(f t:Int)) n
theorem xQ {f f':Nat->Nat}{n:Nat}(h:∀ t,t<n->f t=f' t):D1 f n=D1 f' n:=by
 unfold D1 ml
 apply List.map_congr_left
 intro t ht
 rw[h t (List.mem_range.1 ht)]
theorem CI (f:Nat->Nat){n t:Nat}(h:t<n)(v:Nat):(D1 f n).set t (v:Int)=D1 (bp f t v) n:=by
 unfold D1
 rw[tR _ h]
 congr 1
 funext s
 unfold bp
 by_cases e:s=t
 ·simp[e]
 ·simp[e]
def sG (base:Nat)(w:World)(k:Lk)(g bx:Nat)(cs:Array Value)(lb:Nat)(x:mm)(W:World):Prop:=
 ∃ U:RP,((Ru W U k x.r/\(∀ i,U.Own k.n i->base<=i)/\U.g=g)/\ag w W (fun i=>base<=i)/\Bk W bx 36 cs)/\qq W lb k.n (D1 x.left k.n)/\¬ U.Own k.n lb/\base<=lb
section
variable {base:Nat}{w W W':World}{k:Lk}{g bx lb:Nat}{cs:Array Value}{x:mm}
theorem sG.DI (h:sG base w k g bx cs lb x W):qo base w k g bx cs x.r W:=by
 obtain⟨U,h1,_⟩:=h
 exact⟨U,h1⟩
theorem ry (h:sG base w k g bx cs lb x W)(hb:base<=w.heap.size)(kd t' L:Int)(late:Bool)(hL:decide (L≠0)=late)(hl:x.r.l.length+258<100000000)(hs:gG k):
 Calls Tryz.prog 36 #[K (Z ⟨g,0,O⟩),.agg #[I Q kd,I Q t',I Q L]] W fun e w'=>e=.returned (.tuple #[])/\sG base w k g bx cs lb { x with r:=dN k x.r ⟨kd,t',late⟩ } w':=by
 obtain⟨U,h,hI,hn,hge⟩:=h
 have hc:=G0 h.1.1 kd t' L late hL hl hs
 rw[h.1.2.2] at hc
 refine hc.mono ?_
 rintro e w' ⟨h1,U2,h3,h4⟩
 obtain⟨⟨k1,k2,k3⟩,k4,k5⟩:=h
 refine⟨h1,U2,⟨⟨h3,fun i hi=>?_,h4.2.2.1.trans k3⟩,k4.aJ (h4.1.wide (S':=fun i=>base<=i) (fun i h _=>k2 i h)) (fun i h=>.inl h),k5.within h4.1 (k1.wm k5)⟩,hI.within h4.1 hn,fun hi=>?_,hge⟩
 ·rcases h4.2.1 i hi with e | e
  ·exact k2 i e
  ·exact Nat.le_trans hb (Nat.le_trans k4.size e)
 ·rcases h4.2.1 lb hi with e | e
  ·exact hn e
  ·have:=hI.lt;omega
theorem sG.below (h:sG base w k g bx cs lb x W)(hW:Below W.heap.size W W'):sG base w k g bx cs lb x W':=by
 obtain⟨U,⟨⟨k1,k2,k3⟩,k4,k5⟩,hI,hn,hge⟩:=h
 exact⟨U,⟨⟨k1.below hW,k2,k3⟩,k4.aJ ((af hW).wide (S':=fun i=>base<=i) (by simp)) (fun i h=>.inl h),(hW.block _ (Bk.lt k5)).trans k5⟩,hI.within (af hW) (by simp),hn,hge⟩
theorem sG.put (h:sG base w k g bx cs lb x W){t:Nat}(ht:t<k.n)(v:Nat):sG base w k g bx cs lb { x with left:=bp x.left t v } (W.setCell ⟨lb,t,O⟩ (I Q v)):=by
 obtain⟨U,⟨⟨k1,k2,k3⟩,k4,k5⟩,hI,hn,hge⟩:=h
 have hw:ag W (W.setCell ⟨lb,t,O⟩ (I Q v)) (fun b=>b=lb):=(ag.refl W (fun b=>b=lb)).put lb t _ (.inl rfl)
 have h2:=hI.put t v
 rw[CI _ ht] at h2
 refine⟨U,⟨⟨k1.kept hw (fun i hi e=>hn (e ▸ hi)),k2,k3⟩,k4.aJ (hw.wide (S':=fun i=>base<=i) (by rintro i rfl _;exact hge)) (fun i h=>.inl h),k5.within hw (fun e=>?_)⟩,h2,hn,hge⟩
 obtain⟨c,hc,_⟩:=hI.bk
 exact Bk.av k5 hc (by decide) e
theorem sG.row (h:sG base w k g bx cs lb x W){t:Nat}(ht:t<k.n):W.cell? ⟨lb,t,O⟩=Z (I Q (x.left t)):=by
 obtain⟨U,_,hI,_⟩:=h
 have:=hI.at_ (i:=t) (by unfold D1;rw[kR];exact ht)
 unfold D1 at this
 rwa [wN _ ht] at this
theorem sG.free (h:sG base w k g bx cs lb x W):∀ i,W.frozen? ⟨lb,i,O⟩=V:=by
 obtain⟨U,_,hI,_⟩:=h
 obtain⟨c,hc,_⟩:=hI.bk
 exact Bk.free hc
theorem sG.congr (h:sG base w k g bx cs lb x W){x':mm}(hr:x'.r=x.r)(hl:∀ t,t<k.n->x'.left t=x.left t):sG base w k g bx cs lb x' W:=by
 obtain⟨U,h1,h2,h3⟩:=h
 refine⟨U,by rw[hr];exact h1,?_,h3⟩
 rw[xQ hl]
 exact h2
theorem zS (h:qo base w k g bx cs x.r W)(hb:base<=w.heap.size)(hn:k.n<=maxLen)(hz:∀ t,x.left t=0):sG base w k g bx cs W.heap.size x (W.alloc (J (madeCells #[I Q 0] k.n) 3)):=by
 obtain⟨U,⟨k1,k2,k3⟩,k4,k5⟩:=h
 have hW:Below W.heap.size W (W.alloc (J (madeCells #[I Q 0] k.n) 3)):=(E _ _).alloc (D _) _
 have hI:=qq.made W k.n hn
 refine⟨U,⟨⟨k1.below hW,k2,k3⟩,k4.aJ ((af hW).wide (S':=fun i=>base<=i) (by simp)) (fun i h=>.inl h),(hW.block _ (Bk.lt k5)).trans k5⟩,?_,fun hi=>by have:=k1.lt hi;omega,Nat.le_trans hb k4.size⟩
 have e:D1 x.left k.n=List.replicate k.n 0:=by
  unfold D1
  rw[<-qd]
  congr 1
  funext t
  rw[hz t];rfl
 rw[e]
 exact hI
end
theorem ip {k:Lk}{x:mm}{t:Nat}(h1:x.r.act t=0)(h2:0<x.left t):bm k x t={ x with r:=dN k x.r ⟨1,t,V⟩,left:=bp x.left t (x.left t-1) }:=by
 unfold bm
 rw[if_pos ⟨h1,h2⟩]
theorem im {k:Lk}(x:mm)(t s:Nat):(bm k x t).left s<=x.left s:=by
 unfold bm
 split
 ·show bp x.left t (x.left t-1) s<=x.left s
  unfold bp
  by_cases e:s=t
  ·subst e;simp
  ·simp[e]
 ·exact D _
theorem io {k:Lk}{x:mm}{t:Nat}(h1:x.r.act t=2):bm k x t={ x with r:=dN k x.r ⟨2,t,V⟩,got:=x.got+1 }:=by
 unfold bm bc
 rw[if_neg (by omega),if_pos h1,if_pos h1]
theorem dX {k:Lk}{x:mm}{t:Nat}(h1:¬ (x.r.act t=0/\0<x.left t))(h2:x.r.act t≠2):bm k x t={ x with r:=dN k x.r ⟨3,t,V⟩ }:=by
 unfold bm bc
 rw[if_neg h1,if_neg h2,if_neg h2]
 rfl
end
