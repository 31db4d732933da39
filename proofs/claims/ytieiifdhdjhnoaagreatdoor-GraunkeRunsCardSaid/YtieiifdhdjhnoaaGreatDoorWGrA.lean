import Derived.Test.YtieiifdhdjhnoaaGreatDoorWAsmM
import Derived.Test.YtieiifdhdjhnoaaGreatDoorWGrN
import Derived.Test.YtieiifdhdjhnoaaGreatDoorWAsmF
import Derived.Test.YtieiifdhdjhnoaaGreatDoorWAsmRb
import Derived.Test.YtieiifdhdjhnoaaGreatDoorWEyB
import Derived.Test.YtieiifdhdjhnoaaGreatDoorWStGr
set_option linter.unusedVariables false
set_option maxHeartbeats 1000000
set_option maxRecDepth 100000
open Go.Value renaming int->I,slice->O
open Go.IntKind renaming i64->Q
namespace Go.Proofs.YtieiifdhdjhnoaaGreatDoor
section
open Go.ChangeShapes Go.WideShapes Go.ChangeAt Go.RowKit
theorem Bn (w:World)(L:Lb w):Calls Tryz.prog 27 #[bs fI] w (zO B7 w):=by
 have h:=we fI re w L
 unfold BT at h
 rw[zo] at h
 exact h
theorem Bm (w:World):Calls Tryz.prog 29 #[bs fI] w (zN B7 w):=by
 have h:=uS fI re w
 unfold zZ at h
 rw[zo] at h
 refine h.mono ?_
 rintro e w' ⟨v,h1,⟨sl,rfl,ho⟩,h3⟩
 exact⟨sl,h1,ho,h3⟩
theorem ut (N:Nat)(h1:1<=N)(h64:N<=64)(w:World)(L:Lb w):
 Calls Tryz.prog 8 #[I Q N] w (DN w (DH N) (zq N) (gT N)):=
 xV N w h1 h64 (fun V hV=>Bn V (L.below hV))
theorem xX (N:Nat)(h1:1<=N)(h64:N<=64)(w:World):
 Calls Tryz.prog 9 #[I Q N] w (Fj w (DH N) (zq N) (gT N)):=
 vA N w h1 h64 (fun V=>Bm V)
theorem EJ (x0:Int)(hn:¬ (1<=x0/\x0<=64)):(∀ V,Calls Tryz.prog 8 #[I Q x0] V (FP V))/\
 (∀ V,Calls Tryz.prog 9 #[I Q x0] V (Fi V)):=
 ⟨fun V=>vz x0 hn V,fun V=>sO x0 hn V⟩
theorem yc (w:World)(L:Lb w):Calls Tryz.prog 12 #[] w fun e w'=>e=.returned (.bool true)/\Below w.heap.size w w':=by
 have HP:=Lib.hid (ut 2 (by decide) (by decide) w L)
 go_enter Tryz.func12,Tryz.ntmps12
 go_wp2_with fail
 refine HP.out.mono ?_
 rintro e x ⟨v,rfl,hsv,hx⟩
 obtain⟨aL,cL,aS,cS,aI,cI,aR,cR,rfl⟩:=BX hsv
 clear hsv
 rw[show (DH 2).l.length=17 from rfl,show (DH 2).lo=0 from rfl,show (DH 2).un=11 from rfl,show (DH 2).zs.length=2 from rfl,kc,show (gT 2).length=2 from rfl,show (DH 2).each=0 from rfl]
 have hb:Below w.heap.size w (x.alloc (.cells #[O aL 17 cL,I Q 0,I Q 11,O aS 2 cS,O aI (2+2) cI,I Q 0,O aR 2 cR] 28)):=hx.alloc hx.size _
 have hK:=Bk.made x 28 #[O aL 17 cL,I Q 0,I Q 11,O aS 2 cS,O aI (2+2) cI,I Q 0,O aR 2 cR]
 clear HP hx
 go_upto_region 2 with fail
 generalize x.heap.size=q at *
 generalize x.alloc (.cells #[O aL 17 cL,I Q 0,I Q 11,O aS 2 cS,O aI (2+2) cI,I Q 0,O aR 2 cR] 28)=y at *
 obtain⟨y0,y6⟩:y.cell? ⟨q,0,none⟩=some (O aL 17 cL)/\y.cell? ⟨q,6,none⟩=some (O aR 2 cR):=⟨hK.cell 0,hK.cell 6⟩
 clear hK
 go_wp2
 go_ret
 exact⟨rfl,hb⟩
end
section
theorem Do:∀ i∈Fu,i.Wf:=by
 intro i hi
 simp only[Fu,List.mem_cons,List.not_mem_nil,or_false] at hi
 rcases hi with rfl|rfl|rfl|rfl|rfl|rfl|rfl|rfl|rfl|rfl|rfl|rfl|rfl|rfl|rfl|rfl|rfl <;> (constructor <;> decide)
theorem zp:Fu.all pU=true:=by decide
theorem Dk {N:Nat}(h1:1<=N)(h64:N<=64):BS (DH N) (zq N) (gT N) pU where
 al:=zp
 st:=Am zp
 e0:=rfl
 wf:=Do
 ok:=EI h1 h64
 iu:=Bo h64
 il:=by rw[kc];exact zm.symm
 rl:=ku N
 ru:=uD N
theorem Dm (x0:Int)(hn:1<=x0/\x0<=64):∃ k init r7,x0=((k:Lk).n:Int)/\BS k init r7 pU/\
 (∀ V,Lb V->Calls Tryz.prog 8 #[I Q x0] V (DN V k init r7))/\
 (∀ V,Calls Tryz.prog 9 #[I Q x0] V (Fj V k init r7)):=by
 obtain⟨h1,h64⟩:=hn
 obtain⟨N,rfl⟩:∃ N:Nat,x0=N:=⟨x0.toNat,by omega⟩
 exact⟨(DH N),(zq N),(gT N),rfl,Dk (by omega) (by omega),fun V L=>ut N (by omega) (by omega) V L,fun V=>xX N (by omega) (by omega) V⟩
end
