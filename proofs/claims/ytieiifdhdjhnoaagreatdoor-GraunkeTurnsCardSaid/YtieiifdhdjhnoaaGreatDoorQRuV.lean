import Derived.Test.YtieiifdhdjhnoaaGreatDoorQStGr
set_option linter.unusedVariables false
set_option maxHeartbeats 4000000
set_option maxRecDepth 100000
open Go.Value renaming int->I,slice->Z,pointer->V
open Go.IntKind renaming i64->Q
open Option renaming none->N,some->O
open Go.Lib renaming hid->S
namespace Go.Proofs.YtieiifdhdjhnoaaGreatDoor
open Go.ChangeShapes Go.WideShapes Go.ChangeAt Go.RowKit
attribute [local irreducible] fJ bg
section
variable {w:World}{k:Lk}
theorem Cn {base:Nat}{v:Value}{init r7:List Int}(calls:Nat)(hb:base<=w.heap.size)(hk:gH k)(hv:Rv base w v ⟨k.l,k.lo,k.un⟩ k.zs init r7 k.each)(hi:init.length=jP k.zs)(hiu:gF init)(hr:r7.length=k.n)(hru:gF r7)(h8:k.n<=8)(hcl:calls<=12)
 (xE:mm) (eE:fJ k (100*(k.n+1)*(calls+1)) ⟨jM k init r7,fun _=>calls,0⟩=xE) (s1:xE.got=k.n*calls) (s2:xE.r.bad=false) (s3:cj k.n xE.r.l=xE.r.l.length) (hs:gG k):
 Calls Tryz.prog 17 #[v,I Q k.n,I Q calls] w fun e w'=>e=.returned (.bool true)/\ag w w' (fun i=>base<=i):=by
 have HBg:Hid (∀ W,Below w.heap.size w W->Calls Tryz.prog 35 #[v,I Q k.n] W fun e w'=>∃ U:RP,e=.returned (V (O ⟨U.g,0,N⟩))/\Fu base k init r7 U w'/\Below W.heap.size W w'):=S (fun W hW=>vE (Nat.le_trans hb hW.size) hk (hv.below hW) hi hiu hr hru)
 have hmk:=fun W:World=>s8 k.n (by omega) W
 obtain⟨M,hM⟩:∃ M,100*(k.n+1)*(calls+1)=M:=⟨_,rfl⟩
 have hM0:M<=11700:=by
  rw[<-hM]
  exact Nat.mul_le_mul (Nat.mul_le_mul (Nat.le_refl 100) (show k.n+1<=9 by omega)) (show calls+1<=13 by omega)
 have hMI:(100*((k.n:Int)+1))*((calls:Int)+1)=(M:Int):=by rw[<-hM];push_cast;rfl
 rw[hM] at eE
 have HLK:=S hk
 have HHb:=S hb
 have HE:=S (And.intro eE (And.intro s1 (And.intro s2 s3)))
 have hn1:=hk.n1
 have hL0:(jM k init r7).l.length=0:=rfl
 obtain⟨sl,aS,cS,aI,cI,aR,cR,rfl,hsl,-⟩:=hv
 simp only at hsl HBg ⊢
 obtain⟨aL,cL,rfl,_⟩:=aX hsl
 have hbz:Below w.heap.size w (w.alloc (.cells #[Z aL k.l.length cL,I Q k.lo,I Q k.un,Z aS k.zs.length cS,Z aI init.length cI,I Q k.each,Z aR r7.length cR] 36)):=(Below.refl _ _).alloc (Nat.le_refl _) _
 have hB:=Bk.made w 36 #[Z aL k.l.length cL,I Q k.lo,I Q k.un,Z aS k.zs.length cS,Z aI init.length cI,I Q k.each,Z aR r7.length cR]
 clear hsl hk hi hiu hr hru eE s1 s2 s3 hM
 generalize hrn:jM k init r7=rn at *
 go_enter Tryz.func17,Tryz.ntmps17
 go_upto_region 1 with fail
 generalize w.alloc (.cells #[Z aL k.l.length cL,I Q k.lo,I Q k.un,Z aS k.zs.length cS,Z aI init.length cI,I Q k.each,Z aR r7.length cR] 36)=z at *
 obtain⟨y0,y1,y2,y3,y4,y5,y6⟩:=hB.lZ
 have HC1:=S (HBg.out z hbz)
 clear HBg
 go_wp2_with fail
 refine HC1.out.mono ?_
 rintro e w2 ⟨U,rfl,hU,hw2⟩
 clear HC1 y0 y1 y2 y3 y4 y5 y6
 have h2:=hbz.trans (hw2.mono hbz.size)
 obtain⟨g,hg⟩:∃ g,U.g=g:=⟨_,rfl⟩
 rw[hg]
 obtain⟨bx,hbx⟩:∃ bx,w.heap.size=bx:=⟨_,rfl⟩
 have HR0:Hid (qo base w k g bx #[Z aL k.l.length cL,I Q k.lo,I Q k.un,Z aS k.zs.length cS,Z aI init.length cI,I Q k.each,Z aR r7.length cR] rn w2):=S ⟨U,⟨by rw[<-hrn];exact hU.1,hU.2,hg⟩,(af h2).wide (S':=fun i=>base<=i) (by simp),by rw[<-hbx];exact(hw2.block _ (Bk.lt hB)).trans hB⟩
 try rw[hbx]
 clear hU hB hbz hw2 hg h2
 go_upto_region 3 with fail
 have HS0:=S (zS (x:=⟨rn,fun _=>0,0⟩) HR0.out HHb.out (by unfold maxLen;omega) (fun _=>rfl))
 obtain⟨lb,hlb⟩:∃ lb,w2.heap.size=lb:=⟨_,rfl⟩
 rw[hlb] at HS0
 try rw[hlb]
 generalize w2.alloc (.cells (madeCells #[I Q 0] k.n) 3)=w3 at *
 clear HR0 hmk hlb
 go_wp2
 go_loopw [21] (fun x wr=>∃ (j:Nat),x=I Q j/\j<=k.n/\Hid (sG base w k g bx #[Z aL k.l.length cL,I Q k.lo,I Q k.un,Z aS k.zs.length cS,Z aI init.length cI,I Q k.each,Z aR r7.length cR] lb ⟨rn,fun t=>if t<j then calls else 0,0⟩ wr)) (fun x _=>k.n-(intOf x).toNat)
 case atStart=>exact⟨0,rfl,Nat.zero_le _,S (HS0.out.congr rfl (fun t _=>by simp))⟩
 case round=>
  clear HS0
  obtain⟨j,rfl,hj,HR⟩:=hrel
  by_cases hjt:j<k.n
  ·have hji:(j:Int)<k.n:=by omega
   have zf:=HR.out.free
   have cx:=HR.out.row hjt
   have HN:Hid (sG base w k g bx #[Z aL k.l.length cL,I Q k.lo,I Q k.un,Z aS k.zs.length cS,Z aI init.length cI,I Q k.each,Z aR r7.length cR] lb ⟨rn,fun t=>if t<j+1 then calls else 0,0⟩ (wr.setCell ⟨lb,j,N⟩ (I Q calls))):=S ((HR.out.put hjt calls).congr rfl (fun t _=>by
    show (if t<j+1 then calls else 0)=bp (fun t=>if t<j then calls else 0) j calls t
    unfold bp
    by_cases e:t=j
    ·simp[e]
    ·simp only[e,if_false]
     by_cases e2:t<j
     ·rw[if_pos e2,if_pos (by omega)]
     ·rw[if_neg e2,if_neg (by omega)]))
   clear HR
   generalize (if j<j then calls else 0)=old at cx
   go_upto_region 8 with fail
   clear cx zf
   generalize wr.setCell ⟨lb,j,N⟩ (I Q calls)=w5 at *
   go_wp2
   go_roundw
   case rel=>exact⟨j+1,by go_num,by omega,HN⟩
   case measure=>simp[intOf];omega
  ·obtain rfl:j=k.n:=by omega
   have HS1:Hid (sG base w k g bx #[Z aL k.l.length cL,I Q k.lo,I Q k.un,Z aS k.zs.length cS,Z aI init.length cI,I Q k.each,Z aR r7.length cR] lb ⟨rn,fun _=>calls,0⟩ wr):=S (HR.out.congr rfl (fun t ht=>by simp[ht]))
   obtain⟨x0,hx0⟩:∃ x0:mm,(⟨rn,fun _=>calls,0⟩:mm)=x0:=⟨_,rfl⟩
   have hx0l:x0.r.l.length=0:=by rw[<-hx0];exact hL0
   have hx0g:x0.got=0:=by rw[<-hx0]
   rw[hx0] at HS1 HE
   have hx0f:∀ t,x0.left t<=12:=fun t=>by rw[<-hx0];exact hcl
   have HX0:=S (And.intro hx0l (And.intro hx0g hx0f))
   clear hx0 hx0l hx0g hx0f HR hL0
   go_wp2
   go_loopw [9,11] (fun gv x wr=>∃ (T:Nat) (xT:mm),x=I Q T/\T<=M/\gv=I Q xT.got/\Hid (sG base w k g bx #[Z aL k.l.length cL,I Q k.lo,I Q k.un,Z aS k.zs.length cS,Z aI init.length cI,I Q k.each,Z aR r7.length cR] lb xT wr/\xT.r.l.length<=258*(8*T)/\xT.got<=8*T/\fJ k M x0=fJ k (M-T) xT/\(∀ t,xT.left t<=12))) (fun _ x _=>M-(intOf x).toNat)
   case atStart=>exact⟨0,x0,rfl,Nat.zero_le _,by rw[HX0.out.2.1];rfl,S ⟨HS1.out,by rw[HX0.out.1];omega,by rw[HX0.out.2.1];omega,by rw[Nat.sub_zero],HX0.out.2.2⟩⟩
   case round=>
    clear HS1
    obtain⟨T,xT,rfl,hT,rfl,HR⟩:=hrel
    by_cases hlt:T<M
    ·have hTi:(T:Int)<M:=by omega
     go_wp2
     go_loopw [9,12,13] (fun gv bz x wr=>∃ (j:Nat),x=I Q j/\j<=k.n/\bz=.bool (da (bg k xT j) j)/\gv=I Q (bg k xT j).got/\Hid (sG base w k g bx #[Z aL k.l.length cL,I Q k.lo,I Q k.un,Z aS k.zs.length cS,Z aI init.length cI,I Q k.each,Z aR r7.length cR] lb (bg k xT j) wr/\(bg k xT j).r.l.length<=258*(8*T+j)/\(bg k xT j).got<=8*T+j/\(∀ t,(bg k xT j).left t<=12))) (fun _ _ x _=>k.n-(intOf x).toNat)
     case atStart=>exact⟨0,rfl,Nat.zero_le _,rfl,by rw[pI],S (by rw[pI];exact⟨HR.out.1,HR.out.2.1,HR.out.2.2.1,HR.out.2.2.2.2⟩)⟩
     case round=>
      obtain⟨j,rfl,hj,rfl,rfl,HJ⟩:=hrel
      by_cases hjt:j<k.n
      ·have hji:(j:Int)<k.n:=by omega
       obtain⟨hsv,hlm,hgm,hlfm⟩:=HJ.out
       obtain⟨-,d,c1,ca⟩:=hsv.DI.c
       have hx:=ca j hjt
       have hl:=hsv.row hjt
       have zf:=hsv.free
       have hlen:(bg k xT j).r.l.length+258<100000000:=by omega
       have hgt:(bg k xT j).got<=100000:=by omega
       have hf12:=hlfm j
       obtain⟨a0,ha0⟩:∃ a0,(bg k xT j).r.act j=a0:=⟨_,rfl⟩
       obtain⟨f0,hf0⟩:∃ f0,(bg k xT j).left j=f0:=⟨_,rfl⟩
       obtain⟨g0,hg0⟩:∃ g0,(bg k xT j).got=g0:=⟨_,rfl⟩
       rw[ha0] at hx
       rw[hf0] at hl hf12
       rw[hg0] at hgm hgt ⊢
       have HLF:=S hlfm
       clear ca HJ hlfm
       cases a1:(a0==0) with
       | true=>
        have ea:a0=0:=eq_of_beq a1
        by_cases f1:0<f0
        ·have fi:(0:Int)<f0:=by omega
         have hput:=hsv.put hjt (f0-1)
         have hf0c:((f0-1:Nat):Int)=(f0:Int)-1:=by omega
         rw[hf0c] at hput
         have HP:=S hput
         clear hput hf0c hsv
         go_upto_region 18 with fail
         clear hl zf
         generalize wr.setCell ⟨lb,j,N⟩ (I Q ((f0:Int)-1))=w4 at *
         have HOp:Hid (Calls Tryz.prog 36 #[V (O ⟨g,0,N⟩),.agg #[I Q 1,I Q j,I Q 0]] w4 fun e w'=>e=.returned (.tuple #[])/\sG base w k g bx #[Z aL k.l.length cL,I Q k.lo,I Q k.un,Z aS k.zs.length cS,Z aI init.length cI,I Q k.each,Z aR r7.length cR] lb (bg k xT (j+1)) w'/\(bg k xT (j+1)).r.l.length<=258*(8*T+(j+1))/\(bg k xT (j+1)).got<=8*T+(j+1)/\(∀ t,(bg k xT (j+1)).left t<=12)):=S (by
          have e1:=bO k xT j
          have e2:=ip (k:=k) (by rw[ha0,ea]) (by rw[hf0];exact f1)
          rw[e1,e2]
          have hlen2:=jm HLK.out (bg k xT j) j
          have hgot:=jn (k:=k) (bg k xT j) j
          have hlf:=im (k:=k) (bg k xT j) j
          rw[e2] at hlen2 hgot hlf
          refine(ry (x:={ bg k xT j with left:=bp (bg k xT j).left j ((bg k xT j).left j-1) }) (by rw[hf0];exact HP.out) HHb.out 1 j 0 false rfl (by exact hlen) hs).mono ?_
          rintro e w' ⟨q1,q2⟩
          exact⟨q1,q2,by have:=hlm;omega,by have:=hgm;omega,fun s=>Nat.le_trans (hlf s) (HLF.out s)⟩)
         go_wp2_with fail
         refine HOp.out.mono ?_
         rintro e w5 ⟨rfl,h5,hl5,hg5,hf5⟩
         clear HOp
         obtain⟨-,d5,cc1,cca⟩:=h5.DI.c
         have cx:=cca j hjt
         have cl:=h5.row hjt
         have H5:=S (And.intro h5 (And.intro hl5 (And.intro hg5 hf5)))
         have HBz:=S (iz k xT j)
         generalize da (bg k xT j) j=bj at *
         clear h5 cca hl5 hg5 hf5
         cases bj with
         | true=>
          have HB5:Hid (da (bg k xT (j+1)) (j+1)=true):=S (by rw[HBz.out];rfl)
          clear HBz cx cl cc1
          go_wp2
          go_roundw
          case rel=>exact⟨j+1,by go_num,by omega,by rw[HB5.out],by rw[bO,ip (by rw[ha0,ea]) (by rw[hf0];exact f1)];exact congrArg (fun n:Nat=>Value.int .i64 n) hg0.symm,H5⟩
          case measure=>simp[intOf];omega
         | false=>
          obtain⟨a5,ha5⟩:∃ a5,(bg k xT (j+1)).r.act j=a5:=⟨_,rfl⟩
          rw[ha5] at cx
          cases q5:(a5 != 0) with
          | true=>
           have HB5:Hid (da (bg k xT (j+1)) (j+1)=true):=S (by rw[HBz.out,ha5,q5];rfl)
           clear HBz cl ha5
           go_wp2
           go_roundw
           case rel=>exact⟨j+1,by go_num,by omega,by rw[HB5.out],by rw[bO,ip (by rw[ha0,ea]) (by rw[hf0];exact f1)];exact congrArg (fun n:Nat=>Value.int .i64 n) hg0.symm,H5⟩
           case measure=>simp[intOf];omega
          | false=>
           have HB5:Hid (da (bg k xT (j+1)) (j+1)=decide (0<(bg k xT (j+1)).left j)):=S (by rw[HBz.out,ha5,q5];rfl)
           clear HBz ha5
           go_wp2
           go_roundw
           case rel=>exact⟨j+1,by go_num,by omega,by rw[HB5.out],by rw[bO,ip (by rw[ha0,ea]) (by rw[hf0];exact f1)];exact congrArg (fun n:Nat=>Value.int .i64 n) hg0.symm,H5⟩
           case measure=>simp[intOf];omega
        ·have fi:¬ (0:Int)<f0:=by omega
         have a2:(a0==2)=false:=by rw[ea];rfl
         have HP:=S hsv
         clear hsv zf
         have HOp:Hid (Calls Tryz.prog 36 #[V (O ⟨g,0,N⟩),.agg #[I Q 3,I Q j,I Q 0]] wr fun e w'=>e=.returned (.tuple #[])/\sG base w k g bx #[Z aL k.l.length cL,I Q k.lo,I Q k.un,Z aS k.zs.length cS,Z aI init.length cI,I Q k.each,Z aR r7.length cR] lb (bg k xT (j+1)) w'/\(bg k xT (j+1)).r.l.length<=258*(8*T+(j+1))/\(bg k xT (j+1)).got<=8*T+(j+1)/\(∀ t,(bg k xT (j+1)).left t<=12)):=S (by
          have e1:=bO k xT j
          have e2:=dX (k:=k) (by rw[hf0];omega) (by rw[ha0,ea];decide)
          rw[e1,e2]
          have hlen2:=jm HLK.out (bg k xT j) j
          have hgot:=jn (k:=k) (bg k xT j) j
          have hlf:=im (k:=k) (bg k xT j) j
          rw[e2] at hlen2 hgot hlf
          refine(ry (HP.out) HHb.out 3 j 0 false rfl (by exact hlen) hs).mono ?_
          rintro e w' ⟨q1,q2⟩
          exact⟨q1,q2,by have:=hlm;omega,by have:=hgm;omega,fun s=>Nat.le_trans (hlf s) (HLF.out s)⟩)
         go_wp2_with fail
         refine HOp.out.mono ?_
         rintro e w5 ⟨rfl,h5,hl5,hg5,hf5⟩
         clear HOp
         obtain⟨-,d5,cc1,cca⟩:=h5.DI.c
         have cx:=cca j hjt
         have cl:=h5.row hjt
         have H5:=S (And.intro h5 (And.intro hl5 (And.intro hg5 hf5)))
         have HBz:=S (iz k xT j)
         generalize da (bg k xT j) j=bj at *
         clear h5 cca hl5 hg5 hf5
         cases bj with
         | true=>
          have HB5:Hid (da (bg k xT (j+1)) (j+1)=true):=S (by rw[HBz.out];rfl)
          clear HBz cx cl cc1
          go_wp2
          go_roundw
          case rel=>exact⟨j+1,by go_num,by omega,by rw[HB5.out],by rw[bO,dX (by rw[hf0];omega) (by rw[ha0,ea];decide)];exact congrArg (fun n:Nat=>Value.int .i64 n) hg0.symm,H5⟩
          case measure=>simp[intOf];omega
         | false=>
          obtain⟨a5,ha5⟩:∃ a5,(bg k xT (j+1)).r.act j=a5:=⟨_,rfl⟩
          rw[ha5] at cx
          cases q5:(a5 != 0) with
          | true=>
           have HB5:Hid (da (bg k xT (j+1)) (j+1)=true):=S (by rw[HBz.out,ha5,q5];rfl)
           clear HBz cl ha5
           go_wp2
           go_roundw
           case rel=>exact⟨j+1,by go_num,by omega,by rw[HB5.out],by rw[bO,dX (by rw[hf0];omega) (by rw[ha0,ea];decide)];exact congrArg (fun n:Nat=>Value.int .i64 n) hg0.symm,H5⟩
           case measure=>simp[intOf];omega
          | false=>
           have HB5:Hid (da (bg k xT (j+1)) (j+1)=decide (0<(bg k xT (j+1)).left j)):=S (by rw[HBz.out,ha5,q5];rfl)
           clear HBz ha5
           go_wp2
           go_roundw
           case rel=>exact⟨j+1,by go_num,by omega,by rw[HB5.out],by rw[bO,dX (by rw[hf0];omega) (by rw[ha0,ea];decide)];exact congrArg (fun n:Nat=>Value.int .i64 n) hg0.symm,H5⟩
           case measure=>simp[intOf];omega
       | false=>
        have ea:a0≠0:=ne_of_beq_false a1
        cases a2:(a0==2) with
        | true=>
         have HP:=S hsv
         clear hsv zf hl
         have HOp:Hid (Calls Tryz.prog 36 #[V (O ⟨g,0,N⟩),.agg #[I Q 2,I Q j,I Q 0]] wr fun e w'=>e=.returned (.tuple #[])/\sG base w k g bx #[Z aL k.l.length cL,I Q k.lo,I Q k.un,Z aS k.zs.length cS,Z aI init.length cI,I Q k.each,Z aR r7.length cR] lb (bg k xT (j+1)) w'/\(bg k xT (j+1)).r.l.length<=258*(8*T+(j+1))/\(bg k xT (j+1)).got<=8*T+(j+1)/\(∀ t,(bg k xT (j+1)).left t<=12)):=S (by
          have e1:=bO k xT j
          have e2:=io (k:=k) (by rw[ha0];exact eq_of_beq a2)
          rw[e1,e2]
          have hlen2:=jm HLK.out (bg k xT j) j
          have hgot:=jn (k:=k) (bg k xT j) j
          have hlf:=im (k:=k) (bg k xT j) j
          rw[e2] at hlen2 hgot hlf
          refine(ry (HP.out) HHb.out 2 j 0 false rfl (by exact hlen) hs).mono ?_
          rintro e w' ⟨q1,q2⟩
          exact⟨q1,q2,by have:=hlm;omega,by have:=hgm;omega,fun s=>Nat.le_trans (hlf s) (HLF.out s)⟩)
         go_wp2_with fail
         refine HOp.out.mono ?_
         rintro e w5 ⟨rfl,h5,hl5,hg5,hf5⟩
         clear HOp
         obtain⟨-,d5,cc1,cca⟩:=h5.DI.c
         have cx:=cca j hjt
         have cl:=h5.row hjt
         have H5:=S (And.intro h5 (And.intro hl5 (And.intro hg5 hf5)))
         have HBz:=S (iz k xT j)
         generalize da (bg k xT j) j=bj at *
         clear h5 cca hl5 hg5 hf5
         cases bj with
         | true=>
          have HB5:Hid (da (bg k xT (j+1)) (j+1)=true):=S (by rw[HBz.out];rfl)
          clear HBz cx cl cc1
          go_wp2
          go_roundw
          case rel=>exact⟨j+1,by go_num,by omega,by rw[HB5.out],by rw[bO,io (by rw[ha0];exact eq_of_beq a2)];show _=Value.int .i64 (((bg k xT j).got+1:Nat):Int);rw[hg0];go_num,H5⟩
          case measure=>simp[intOf];omega
         | false=>
          obtain⟨a5,ha5⟩:∃ a5,(bg k xT (j+1)).r.act j=a5:=⟨_,rfl⟩
          rw[ha5] at cx
          cases q5:(a5 != 0) with
          | true=>
           have HB5:Hid (da (bg k xT (j+1)) (j+1)=true):=S (by rw[HBz.out,ha5,q5];rfl)
           clear HBz cl ha5
           go_wp2
           go_roundw
           case rel=>exact⟨j+1,by go_num,by omega,by rw[HB5.out],by rw[bO,io (by rw[ha0];exact eq_of_beq a2)];show _=Value.int .i64 (((bg k xT j).got+1:Nat):Int);rw[hg0];go_num,H5⟩
           case measure=>simp[intOf];omega
          | false=>
           have HB5:Hid (da (bg k xT (j+1)) (j+1)=decide (0<(bg k xT (j+1)).left j)):=S (by rw[HBz.out,ha5,q5];rfl)
           clear HBz ha5
           go_wp2
           go_roundw
           case rel=>exact⟨j+1,by go_num,by omega,by rw[HB5.out],by rw[bO,io (by rw[ha0];exact eq_of_beq a2)];show _=Value.int .i64 (((bg k xT j).got+1:Nat):Int);rw[hg0];go_num,H5⟩
           case measure=>simp[intOf];omega
        | false=>
         have HP:=S hsv
         clear hsv zf hl
         have HOp:Hid (Calls Tryz.prog 36 #[V (O ⟨g,0,N⟩),.agg #[I Q 3,I Q j,I Q 0]] wr fun e w'=>e=.returned (.tuple #[])/\sG base w k g bx #[Z aL k.l.length cL,I Q k.lo,I Q k.un,Z aS k.zs.length cS,Z aI init.length cI,I Q k.each,Z aR r7.length cR] lb (bg k xT (j+1)) w'/\(bg k xT (j+1)).r.l.length<=258*(8*T+(j+1))/\(bg k xT (j+1)).got<=8*T+(j+1)/\(∀ t,(bg k xT (j+1)).left t<=12)):=S (by
          have e1:=bO k xT j
          have e2:=dX (k:=k) (by rw[ha0];omega) (by rw[ha0];exact ne_of_beq_false a2)
          rw[e1,e2]
          have hlen2:=jm HLK.out (bg k xT j) j
          have hgot:=jn (k:=k) (bg k xT j) j
          have hlf:=im (k:=k) (bg k xT j) j
          rw[e2] at hlen2 hgot hlf
          refine(ry (HP.out) HHb.out 3 j 0 false rfl (by exact hlen) hs).mono ?_
          rintro e w' ⟨q1,q2⟩
          exact⟨q1,q2,by have:=hlm;omega,by have:=hgm;omega,fun s=>Nat.le_trans (hlf s) (HLF.out s)⟩)
         go_wp2_with fail
         refine HOp.out.mono ?_
         rintro e w5 ⟨rfl,h5,hl5,hg5,hf5⟩
         clear HOp
         obtain⟨-,d5,cc1,cca⟩:=h5.DI.c
         have cx:=cca j hjt
         have cl:=h5.row hjt
         have H5:=S (And.intro h5 (And.intro hl5 (And.intro hg5 hf5)))
         have HBz:=S (iz k xT j)
         generalize da (bg k xT j) j=bj at *
         clear h5 cca hl5 hg5 hf5
         cases bj with
         | true=>
          have HB5:Hid (da (bg k xT (j+1)) (j+1)=true):=S (by rw[HBz.out];rfl)
          clear HBz cx cl cc1
          go_wp2
          go_roundw
          case rel=>exact⟨j+1,by go_num,by omega,by rw[HB5.out],by rw[bO,dX (by rw[ha0];omega) (by rw[ha0];exact ne_of_beq_false a2)];exact congrArg (fun n:Nat=>Value.int .i64 n) hg0.symm,H5⟩
          case measure=>simp[intOf];omega
         | false=>
          obtain⟨a5,ha5⟩:∃ a5,(bg k xT (j+1)).r.act j=a5:=⟨_,rfl⟩
          rw[ha5] at cx
          cases q5:(a5 != 0) with
          | true=>
           have HB5:Hid (da (bg k xT (j+1)) (j+1)=true):=S (by rw[HBz.out,ha5,q5];rfl)
           clear HBz cl ha5
           go_wp2
           go_roundw
           case rel=>exact⟨j+1,by go_num,by omega,by rw[HB5.out],by rw[bO,dX (by rw[ha0];omega) (by rw[ha0];exact ne_of_beq_false a2)];exact congrArg (fun n:Nat=>Value.int .i64 n) hg0.symm,H5⟩
           case measure=>simp[intOf];omega
          | false=>
           have HB5:Hid (da (bg k xT (j+1)) (j+1)=decide (0<(bg k xT (j+1)).left j)):=S (by rw[HBz.out,ha5,q5];rfl)
           clear HBz ha5
           go_wp2
           go_roundw
           case rel=>exact⟨j+1,by go_num,by omega,by rw[HB5.out],by rw[bO,dX (by rw[ha0];omega) (by rw[ha0];exact ne_of_beq_false a2)];exact congrArg (fun n:Nat=>Value.int .i64 n) hg0.symm,H5⟩
           case measure=>simp[intOf];omega
      ·obtain rfl:j=k.n:=by omega
       have HF0:Hid (fJ k (M-T) xT=if da (bg k xT k.n) k.n=false\/(bg k xT k.n).r.bad=true then bg k xT k.n else fJ k (M-(T+1)) (bg k xT k.n)):=S (by rw[show M-T=(M-(T+1))+1 by omega];exact jo _ _ _)
       have HEq:Hid (fJ k M x0=fJ k (M-T) xT):=S HR.out.2.2.2.1
       have hT2:T+1<=M:=by omega
       obtain⟨c3,-⟩:=HJ.out.1.DI.c
       clear HR
       cases hbz:da (bg k xT k.n) k.n with
       | false=>
        have hxE:bg k xT k.n=xE:=by
         have h9:=HE.out.1
         rw[HEq.out,HF0.out,if_pos (.inl hbz)] at h9
         exact h9
        rw[hxE] at HJ
        have HLX:Hid (xE.r.l.length<=100000000):=S (by have:=HJ.out.2.1;omega)
        have HFIN:=S HJ.out.1
        obtain⟨-,s1,s2,s3⟩:=HE.out
        rw[hxE]
        clear HF0 HEq hbz c3 hxE HJ
        have hS8:=HFIN.out
        obtain⟨al,capl,c2,hch⟩:=hS8.DI.ja (by have h9:=HLX.out;omega)
        obtain⟨c3,-⟩:=hS8.DI.c
        rw[s2] at c3
        replace c3:wr.cell? ⟨g,3,N⟩=O (I Q 0):=c3
        have HF2:Hid (∀ q:fL wr,Calls Tryz.prog 37 #[I Q k.n,Z al xE.r.l.length capl] q.x fun e w'=>e=.returned (I Q (xE.r.l.length:Nat))/\Below q.x.heap.size q.x w'):=S (fun q=>by
         have h9:=hch q.x q.ok
         rw[s3] at h9
         exact h9)
        have g3:∀ q:fL wr,q.x.cell? ⟨g,3,N⟩=O (I Q 0):=fun q=>q.cell c3
        have g2:∀ q:fL wr,q.x.cell? ⟨g,2,N⟩=O (Z al xE.r.l.length capl):=fun q=>q.cell c2
        have HW:=S hS8.DI.win
        have hgot:((xE.got:Nat):Int)=(k.n:Int)*(calls:Int):=by rw[s1];push_cast;rfl
        obtain⟨P,hP⟩:∃ P:Int,(k.n:Int)*(calls:Int)=P:=⟨_,rfl⟩
        have h9:k.n*calls<=8*12:=Nat.mul_le_mul h8 hcl
        have h10:((k.n*calls:Nat):Int)=P:=by rw[<-hP];exact Int.natCast_mul _ _
        have hp0:0<=P:=by omega
        have hp1:P<=96:=by omega
        clear h9 h10
        rw[hP] at hgot
        rw[hgot]
        clear c2 c3 hch hS8 HFIN s1 s2 s3
        go_upto_region 25 with fail
        refine ap (by kernel_rfl) (by kernel_rfl) ?_
        repeat (go_big_quiet_step ((go_at_call 37;with_reducible exact ao (HF2.out _))))
        refine wpQuiet_nil ?_
        rintro y ⟨q,rfl⟩
        have hfin:=HW.out.aJ ((af q.ok).wide (S':=fun i=>base<=i) (by simp)) (fun i h=>.inl h)
        clear g2 g3 HF2
        go_wp2
        go_ret
        exact⟨rfl,hfin⟩
       | true=>
        cases hbd:(bg k xT k.n).r.bad with
        | true=>
         have hxE:bg k xT k.n=xE:=by
          have h9:=HE.out.1
          rw[HEq.out,HF0.out,if_pos (.inr hbd)] at h9
          exact h9
         rw[hxE] at hbd
         rw[HE.out.2.2.1] at hbd
         cases hbd
        | false=>
         rw[hbd] at c3
         replace c3:wr.cell? ⟨g,3,N⟩=O (I Q 0):=c3
         have HEq2:Hid (fJ k M x0=fJ k (M-(T+1)) (bg k xT k.n)):=S (by rw[HEq.out,HF0.out,if_neg (by rw[hbz,hbd];simp)])
         clear HF0 HEq hbz hbd
         go_wp2
         go_roundw
         case rel=>exact⟨T+1,bg k xT k.n,by go_num,hT2,rfl,S ⟨HJ.out.1,by have:=HJ.out.2.1;omega,by have:=HJ.out.2.2.1;omega,HEq2.out,HJ.out.2.2.2⟩⟩
         case measure=>simp[intOf];omega
    ·obtain rfl:T=M:=by omega
     have hxE:xT=xE:=by
      have h9:=HE.out.1
      rw[HR.out.2.2.2.1,Nat.sub_self,xe] at h9
      exact h9
     subst hxE
     have HLX:Hid (xT.r.l.length<=100000000):=S (by have:=HR.out.2.1;omega)
     have HFIN:=S HR.out.1
     obtain⟨-,s1,s2,s3⟩:=HE.out
     clear HR
     have hS8:=HFIN.out
     obtain⟨al,capl,c2,hch⟩:=hS8.DI.ja (by have h9:=HLX.out;omega)
     obtain⟨c3,-⟩:=hS8.DI.c
     rw[s2] at c3
     replace c3:wr.cell? ⟨g,3,N⟩=O (I Q 0):=c3
     have HF2:Hid (∀ q:fL wr,Calls Tryz.prog 37 #[I Q k.n,Z al xT.r.l.length capl] q.x fun e w'=>e=.returned (I Q (xT.r.l.length:Nat))/\Below q.x.heap.size q.x w'):=S (fun q=>by
      have h9:=hch q.x q.ok
      rw[s3] at h9
      exact h9)
     have g3:∀ q:fL wr,q.x.cell? ⟨g,3,N⟩=O (I Q 0):=fun q=>q.cell c3
     have g2:∀ q:fL wr,q.x.cell? ⟨g,2,N⟩=O (Z al xT.r.l.length capl):=fun q=>q.cell c2
     have HW:=S hS8.DI.win
     have hgot:((xT.got:Nat):Int)=(k.n:Int)*(calls:Int):=by rw[s1];push_cast;rfl
     obtain⟨P,hP⟩:∃ P:Int,(k.n:Int)*(calls:Int)=P:=⟨_,rfl⟩
     have h9:k.n*calls<=8*12:=Nat.mul_le_mul h8 hcl
     have h10:((k.n*calls:Nat):Int)=P:=by rw[<-hP];exact Int.natCast_mul _ _
     have hp0:0<=P:=by omega
     have hp1:P<=96:=by omega
     clear h9 h10
     rw[hP] at hgot
     rw[hgot]
     clear c2 c3 hch hS8 HFIN s1 s2 s3
     go_upto_region 25 with fail
     refine ap (by kernel_rfl) (by kernel_rfl) ?_
     repeat (go_big_quiet_step ((go_at_call 37;with_reducible exact ao (HF2.out _))))
     refine wpQuiet_nil ?_
     rintro y ⟨q,rfl⟩
     have hfin:=HW.out.aJ ((af q.ok).wide (S':=fun i=>base<=i) (by simp)) (fun i h=>.inl h)
     clear g2 g3 HF2
     go_wp2
     go_ret
     exact⟨rfl,hfin⟩
end
