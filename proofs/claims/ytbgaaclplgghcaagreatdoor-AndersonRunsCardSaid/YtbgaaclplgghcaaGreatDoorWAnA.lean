import Derived.Test.YtbgaaclplgghcaaGreatDoorWAsmM
import Derived.Test.YtbgaaclplgghcaaGreatDoorWAnD
import Derived.Test.YtbgaaclplgghcaaGreatDoorWAsmF
import Derived.Test.YtbgaaclplgghcaaGreatDoorWAsmRb
import Derived.Test.YtbgaaclplgghcaaGreatDoorWEyB
import Derived.Test.YtbgaaclplgghcaaGreatDoorWEyU
set_option linter.unusedVariables false
set_option maxHeartbeats 1000000
set_option maxRecDepth 100000
open Go.Value renaming int->I,slice->O
open Go.IntKind renaming i64->Q
namespace Go.Proofs.YtbgaaclplgghcaaGreatDoor
section
open Go.ChangeShapes Go.WideShapes Go.ChangeAt Go.RowKit
section
variable {m:Nat}(hs:dj m)
include hs
theorem Bj (w:World)(L:Lb w):Calls Tryz.prog 28 #[bs (dN m)] w (zB (BT m) w):=by
 have h:=vL (dN m) (qU m hs) w L
 unfold BE at h
 rw[zh m hs] at h
 exact h
theorem Bi (w:World):Calls Tryz.prog 30 #[bs (dN m)] w (zA (BT m) w):=by
 have h:=uC (dN m) (qU m hs) w
 unfold zL at h
 rw[zh m hs] at h
 refine h.mono ?_
 rintro e w' ⟨v,h1,⟨sl,rfl,ho⟩,h3⟩
 exact⟨sl,h1,ho,h3⟩
theorem uf (N:Nat)(st:Int)(h1:1<=N)(hm:N<=m)(h64:N<=64)(h0:0<=st)(h2:st<4294967296)(w:World)(L:Lb w):
 Calls Tryz.prog 8 #[I Q N,I Q m,I .u32 st] w (Dw w (Do N m) (wG m st) (gp N)):=
 yy N m st w hs h1 hm h64 h0 h2 (fun V hV=>yx m hs V (L.below hV)) (fun V hV=>Bj hs V (L.below hV))
theorem yA (N:Nat)(st:Int)(h1:1<=N)(hm:N<=m)(h64:N<=64)(h0:0<=st)(h2:st<4294967296)(w:World):
 Calls Tryz.prog 9 #[I Q N,I Q m,I .u32 st] w (E1 w (Do N m) (wG m st) (gp N)):=
 vV N m st w hs h1 hm h64 h0 h2 (fun V=>Bi hs V)
end
theorem EE (x0 x1 x2:Int)(hn:¬ Ff x0 x1):(∀ V,Calls Tryz.prog 8 #[I Q x0,I Q x1,I .u32 x2] V (FC V))/\
 (∀ V,Calls Tryz.prog 9 #[I Q x0,I Q x1,I .u32 x2] V (E0 V)):=
 ⟨fun V=>vU x0 x1 x2 hn V,fun V=>sS x0 x1 x2 hn V⟩
theorem yD (w:World)(L:Lb w):Calls Tryz.prog 12 #[] w fun e w'=>e=.returned (.bool true)/\Below w.heap.size w w':=by
 have HP:=Lib.hid (uf (m:=4) (by unfold dj;omega) 2 5 (by decide) (by decide) (by decide) (by decide) (by decide) w L)
 go_enter Tryz.func12,Tryz.ntmps12
 go_wp2_with fail
 refine HP.out.mono ?_
 rintro e x ⟨v,rfl,hsv,hx⟩
 obtain⟨aL,cL,aS,cS,aI,cI,aR,cR,rfl⟩:=BJ hsv
 clear hsv
 rw[show (Do 2 4).l.length=14 from rfl,show (Do 2 4).lo=0 from rfl,show (Do 2 4).un=8 from rfl,show (Do 2 4).zs.length=2 from rfl,jZ,show (gp 2).length=2 from rfl,show (Do 2 4).each=0 from rfl]
 have hb:Below w.heap.size w (x.alloc (.cells #[O aL 14 cL,I Q 0,I Q 8,O aS 2 cS,O aI (4+1) cI,I Q 0,O aR 2 cR] 29)):=hx.alloc hx.size _
 have hK:=Bk.made x 29 #[O aL 14 cL,I Q 0,I Q 8,O aS 2 cS,O aI (4+1) cI,I Q 0,O aR 2 cR]
 clear HP hx
 go_upto_region 2 with fail
 generalize x.heap.size=q at *
 generalize x.alloc (.cells #[O aL 14 cL,I Q 0,I Q 8,O aS 2 cS,O aI (4+1) cI,I Q 0,O aR 2 cR] 29)=y at *
 obtain⟨y0,y6⟩:y.cell? ⟨q,0,none⟩=some (O aL 14 cL)/\y.cell? ⟨q,6,none⟩=some (O aR 2 cR):=⟨hK.cell 0,hK.cell 6⟩
 clear hK
 go_wp2
 go_ret
 exact⟨rfl,hb⟩
end
section
theorem Df (m:Nat)(hs:dj m):∀ i∈Fh m,i.Wf:=by
 rcases hs with rfl|rfl|rfl|rfl|rfl|rfl|rfl <;>
 ·intro i hi
  simp only[Fh,List.mem_cons,List.not_mem_nil,or_false] at hi
  rcases hi with rfl|rfl|rfl|rfl|rfl|rfl|rfl|rfl|rfl|rfl|rfl|rfl|rfl|rfl <;> (constructor <;> decide)
theorem qV (m:Nat)(hs:dj m):(Fh m).all ik=true:=by
 rcases hs with rfl|rfl|rfl|rfl|rfl|rfl|rfl <;> decide
theorem Db {N m:Nat}{st:Int}(hs:dj m)(h1:1<=N)(h64:N<=64)(h0:0<=st)(h2:st<4294967296):BD (Do N m) (wG m st) (gp N) ik where
 al:=qV m hs
 st:=rA (qV m hs)
 e0:=rfl
 wf:=Df m hs
 ok:=ED hs h1 h64
 iu:=Bl h0 h2
 il:=by rw[jZ];exact(ze hs).symm
 rl:=kh N
 ru:=um N
theorem Dd (x0 x1 x2:Int)(hn:Ff x0 x1)(u:0<=x2/\x2<4294967296):∃ k init r7,x0=((k:Lk).n:Int)/\BD k init r7 ik/\
 (∀ V,Lb V->Calls Tryz.prog 8 #[I Q x0,I Q x1,I .u32 x2] V (Dw V k init r7))/\
 (∀ V,Calls Tryz.prog 9 #[I Q x0,I Q x1,I .u32 x2] V (E1 V k init r7)):=by
 obtain⟨⟨h1,h64⟩,hm,hz⟩:=hn
 obtain⟨m,rfl,hs⟩:=Cl hz
 obtain⟨N,rfl⟩:∃ N:Nat,x0=N:=⟨x0.toNat,by omega⟩
 exact⟨Do N m,wG m x2,gp N,rfl,Db hs (by omega) (by omega) u.1 u.2,fun V L=>uf hs N x2 (by omega) (by omega) (by omega) u.1 u.2 V L,
  fun V=>yA hs N x2 (by omega) (by omega) (by omega) u.1 u.2 V⟩
end
