import Derived.Test.YtbgaaclplgghcaaGreatDoorQAsmM
import Derived.Test.YtbgaaclplgghcaaGreatDoorQAnD
import Derived.Test.YtbgaaclplgghcaaGreatDoorQAsmF
import Derived.Test.YtbgaaclplgghcaaGreatDoorQAsmRb
import Derived.Test.YtbgaaclplgghcaaGreatDoorQRuB
import Derived.Test.YtbgaaclplgghcaaGreatDoorQEyU
set_option linter.unusedVariables false
set_option maxHeartbeats 1000000
set_option maxRecDepth 100000
open Go.Value renaming int->I,slice->O
open Go.IntKind renaming i64->Q
namespace Go.Proofs.YtbgaaclplgghcaaGreatDoor
section
open Go.ChangeShapes Go.WideShapes Go.ChangeAt Go.RowKit
section
variable {m:Nat}(hs:bC m)
include hs
theorem DN (w:World)(L:Lb w):Calls Tryz.prog 28 #[bs (dP m)] w (B3 (Ec m) w):=by
 have h:=yZ (dP m) (tW m hs) w L
 unfold DY at h
 rw[BO m hs] at h
 exact h
theorem DM (w:World):Calls Tryz.prog 30 #[bs (dP m)] w (B2 (Ec m) w):=by
 have h:=xG (dP m) (tW m hs) w
 unfold Cd at h
 rw[BO m hs] at h
 refine h.mono ?_
 rintro e w' ⟨v,h1,⟨sl,rfl,ho⟩,h3⟩
 exact⟨sl,h1,ho,h3⟩
theorem ro (N:Nat)(st:Int)(h1:1<=N)(hm:N<=m)(h64:N<=64)(h0:0<=st)(h2:st<4294967296)(w:World)(L:Lb w):
 Calls Tryz.prog 8 #[I Q N,I Q m,I .u32 st] w (Aa w (gS N m) (rA m st) (dw N)):=
 Bg N m st w hs h1 hm h64 h0 h2 (fun V hV=>tU m hs V (L.below hV)) (fun V hV=>DN hs V (L.below hV))
theorem tX (N:Nat)(st:Int)(h1:1<=N)(hm:N<=m)(h64:N<=64)(h0:0<=st)(h2:st<4294967296)(w:World):
 Calls Tryz.prog 9 #[I Q N,I Q m,I .u32 st] w (FA w (gS N m) (rA m st) (dw N)):=
 zo N m st w hs h1 hm h64 h0 h2 (fun V=>DM hs V)
end
theorem Gp (x0 x1 x2:Int)(hn:Fu x0 x1)(u:0<=x2/\x2<4294967296):∃ k init r7,x0=((k:Lk).n:Int)/\gG k/\
 (∀ V,Lb V->Calls Tryz.prog 8 #[I Q x0,I Q x1,I .u32 x2] V (Aa V k init r7))/\
 (∀ V,Calls Tryz.prog 9 #[I Q x0,I Q x1,I .u32 x2] V (FA V k init r7))/\∃ sx,
 (∀ V,Lb V->Calls Tryz.prog 13 #[I Q x1] V fun e w'=>e=.returned (.string sx)/\Below V.heap.size V w')/\
 (∀ V,Calls Tryz.prog 14 #[I Q x1] V fun e w'=>e=.returned (.string sx)/\Below V.heap.size V w'):=by
 obtain⟨⟨h1,h64⟩,hm,hz⟩:=hn
 obtain⟨m,rfl,hs⟩:=Bq hz
 obtain⟨N,rfl⟩:∃ N:Nat,x0=N:=⟨x0.toNat,by omega⟩
 exact⟨gS N m,rA m x2,dw N,rfl,D9 hs (by omega) (by omega),fun V L=>ro hs N x2 (by omega) (by omega) (by omega) u.1 u.2 V L,
  fun V=>tX hs N x2 (by omega) (by omega) (by omega) u.1 u.2 V,⟨(dP m).toArray⟩,fun V L=>tU m hs V L,fun V=>tT m hs V⟩
theorem zK (x0 x1 x2:Int)(hn:¬ Fu x0 x1):(∀ V,Calls Tryz.prog 8 #[I Q x0,I Q x1,I .u32 x2] V (GO V))/\
 (∀ V,Calls Tryz.prog 9 #[I Q x0,I Q x1,I .u32 x2] V (Ca V)):=
 ⟨fun V=>zn x0 x1 x2 hn V,fun V=>vG x0 x1 x2 hn V⟩
theorem kV (w:World)(L:Lb w):Calls Tryz.prog 12 #[] w fun e w'=>e=.returned (.bool true)/\Below w.heap.size w w':=by
 have HP:=Lib.hid (ro (m:=4) (by unfold bC;omega) 2 5 (by decide) (by decide) (by decide) (by decide) (by decide) w L)
 go_enter Tryz.func12,Tryz.ntmps12
 go_wp2_with fail
 refine HP.out.mono ?_
 rintro e x ⟨v,rfl,hsv,hx⟩
 obtain⟨aL,cL,aS,cS,aI,cI,aR,cR,rfl⟩:=uh hsv
 clear hsv
 rw[show (gS 2 4).l.length=14 from rfl,show (gS 2 4).lo=0 from rfl,show (gS 2 4).un=8 from rfl,show (gS 2 4).zs.length=2 from rfl,lw,show (dw 2).length=2 from rfl,show (gS 2 4).each=0 from rfl]
 have hb:Below w.heap.size w (x.alloc (.cells #[O aL 14 cL,I Q 0,I Q 8,O aS 2 cS,O aI (4+1) cI,I Q 0,O aR 2 cR] 29)):=hx.alloc hx.size _
 have hK:=Bk.made x 29 #[O aL 14 cL,I Q 0,I Q 8,O aS 2 cS,O aI (4+1) cI,I Q 0,O aR 2 cR]
 clear HP hx
 go_upto_region 2 with fail
 generalize x.heap.size=q at *
 generalize x.alloc (.cells #[O aL 14 cL,I Q 0,I Q 8,O aS 2 cS,O aI (4+1) cI,I Q 0,O aR 2 cR] 29)=y at *
 obtain⟨y0,y6⟩:y.cell? ⟨q,0,none⟩=some (O aL 14 cL)/\y.cell? ⟨q,6,none⟩=some (O aR 2 cR):=⟨hK.cell 0,hK.cell 6⟩
 clear hK
 go_wp2
 go_ret
 exact⟨rfl,hb⟩
end
section
theorem Fq (m:Nat)(hs:bC m):∀ i∈G2 m,i.Wf:=by
 rcases hs with rfl|rfl|rfl|rfl|rfl|rfl|rfl <;>
 ·intro i hi
  simp only[G2,List.mem_cons,List.not_mem_nil,or_false] at hi
  rcases hi with rfl|rfl|rfl|rfl|rfl|rfl|rfl|rfl|rfl|rfl|rfl|rfl|rfl|rfl <;> (constructor <;> decide)
theorem tY (m:Nat)(hs:bC m):(G2 m).all ko=true:=by
 rcases hs with rfl|rfl|rfl|rfl|rfl|rfl|rfl <;> decide
theorem Fn {N m:Nat}{st:Int}(hs:bC m)(h1:1<=N)(h64:N<=64)(h0:0<=st)(h2:st<4294967296):DX (gS N m) (rA m st) (dw N) ko where
 al:=tY m hs
 st:=ur (tY m hs)
 e0:=rfl
 wf:=Fq m hs
 ok:=D9 hs h1 h64
 iu:=DO h0 h2
 il:=by rw[lw];exact(BL hs).symm
 rl:=lE N
 ru:=xd N
theorem Gu {N m:Nat}{st:Int}(hs:bC m)(h1:1<=N)(hm:N<=m)(h64:N<=64)(h0:0<=st)(h2:st<4294967296):GV (gS N m) (rA m st) (dw N) 3 1 ko where
 toDX:=Fn hs h1 h64 h0 h2
 sa:=by decide
 sb:=by decide
 pl:=fun l=>zq hs hm h1 h64 h0 h2 l
 se:=fun calls=>vF hs hm h1 h64 h0 h2 calls
 re:=fun h8 l t ht=>zp hs hm h1 h64 h0 h2 h8 l ht
theorem B0 (x0 x1 x2:Int)(hn:Fu x0 x1)(u:0<=x2/\x2<4294967296):∃ k init r7,x0=((k:Lk).n:Int)/\GV k init r7 3 1 ko/\
 (∀ V,Lb V->Calls Tryz.prog 8 #[I Q x0,I Q x1,I .u32 x2] V (Aa V k init r7))/\
 (∀ V,Calls Tryz.prog 9 #[I Q x0,I Q x1,I .u32 x2] V (FA V k init r7)):=by
 obtain⟨⟨h1,h64⟩,hm,hz⟩:=hn
 obtain⟨m,rfl,hs⟩:=Bq hz
 obtain⟨N,rfl⟩:∃ N:Nat,x0=N:=⟨x0.toNat,by omega⟩
 exact⟨gS N m,rA m x2,dw N,rfl,Gu hs (by omega) (by omega) (by omega) u.1 u.2,fun V L=>ro hs N x2 (by omega) (by omega) (by omega) u.1 u.2 V L,
  fun V=>tX hs N x2 (by omega) (by omega) (by omega) u.1 u.2 V⟩
end
