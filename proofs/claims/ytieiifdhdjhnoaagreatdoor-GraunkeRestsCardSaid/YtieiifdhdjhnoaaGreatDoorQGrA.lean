import Derived.Test.YtieiifdhdjhnoaaGreatDoorQAsmM
import Derived.Test.YtieiifdhdjhnoaaGreatDoorQGrN
import Derived.Test.YtieiifdhdjhnoaaGreatDoorQAsmF
import Derived.Test.YtieiifdhdjhnoaaGreatDoorQAsmRb
import Derived.Test.YtieiifdhdjhnoaaGreatDoorQRuB
import Derived.Test.YtieiifdhdjhnoaaGreatDoorQStGr
set_option linter.unusedVariables false
set_option maxHeartbeats 1000000
set_option maxRecDepth 100000
open Go.Value renaming int->I,slice->O
open Go.IntKind renaming i64->Q
namespace Go.Proofs.YtieiifdhdjhnoaaGreatDoor
section
open Go.ChangeShapes Go.WideShapes Go.ChangeAt Go.RowKit
theorem Dg (w:World)(L:Lb w):Calls Tryz.prog 27 #[bs ff] w (BO DX w):=by
 have h:=yT ff tz w L
 unfold DE at h
 rw[Bt] at h
 exact h
theorem Df (w:World):Calls Tryz.prog 29 #[bs ff] w (BN DX w):=by
 have h:=xm ff tz w
 unfold BY at h
 rw[Bt] at h
 refine h.mono ?_
 rintro e w' ⟨v,h1,⟨sl,rfl,ho⟩,h3⟩
 exact⟨sl,h1,ho,h3⟩
theorem qV (N:Nat)(h1:1<=N)(h64:N<=64)(w:World)(L:Lb w):
 Calls Tryz.prog 8 #[I Q N] w (zK w (gQ N) (rP N) (dJ N)):=
 AD N w h1 h64 (fun V hV=>Dg V (L.below hV))
theorem tA (N:Nat)(h1:1<=N)(h64:N<=64)(w:World):
 Calls Tryz.prog 9 #[I Q N] w (Fi w (gQ N) (rP N) (dJ N)):=
 xX N w h1 h64 (fun V=>Df V)
theorem F2 (x0:Int)(hn:1<=x0/\x0<=64):∃ k init r7,x0=((k:Lk).n:Int)/\gH k/\
 (∀ V,Lb V->Calls Tryz.prog 8 #[I Q x0] V (zK V k init r7))/\
 (∀ V,Calls Tryz.prog 9 #[I Q x0] V (Fi V k init r7))/\∃ sx,
 (∀ V,Lb V->Calls Tryz.prog 13 #[] V fun e w'=>e=.returned (.string sx)/\Below V.heap.size V w')/\
 (∀ V,Calls Tryz.prog 14 #[] V fun e w'=>e=.returned (.string sx)/\Below V.heap.size V w'):=by
 obtain⟨h1,h64⟩:=hn
 obtain⟨N,rfl⟩:∃ N:Nat,x0=N:=⟨x0.toNat,by omega⟩
 exact⟨(gQ N),(rP N),(dJ N),rfl,DT (by omega) (by omega),fun V L=>qV N (by omega) (by omega) V L,
  fun V=>tA N (by omega) (by omega) V,⟨ff.toArray⟩,
  fun V L=>(AJ V).mono fun e w' h=>⟨h.1,by rw[<-h.2];exact Below.refl _ _⟩,fun V=>(tB V).mono fun e w' h=>⟨h.1,by rw[<-h.2];exact Below.refl _ _⟩⟩
theorem zv (x0:Int)(hn:¬ (1<=x0/\x0<=64)):(∀ V,Calls Tryz.prog 8 #[I Q x0] V (Gx V))/\
 (∀ V,Calls Tryz.prog 9 #[I Q x0] V (BV V)):=
 ⟨fun V=>xW x0 hn V,fun V=>uV x0 hn V⟩
theorem kO (w:World)(L:Lb w):Calls Tryz.prog 12 #[] w fun e w'=>e=.returned (.bool true)/\Below w.heap.size w w':=by
 have HP:=Lib.hid (qV 2 (by decide) (by decide) w L)
 go_enter Tryz.func12,Tryz.ntmps12
 go_wp2_with fail
 refine HP.out.mono ?_
 rintro e x ⟨v,rfl,hsv,hx⟩
 obtain⟨aL,cL,aS,cS,aI,cI,aR,cR,rfl⟩:=tX hsv
 clear hsv
 rw[show (gQ 2).l.length=17 from rfl,show (gQ 2).lo=0 from rfl,show (gQ 2).un=11 from rfl,show (gQ 2).zs.length=2 from rfl,lj,show (dJ 2).length=2 from rfl,show (gQ 2).each=0 from rfl]
 have hb:Below w.heap.size w (x.alloc (.cells #[O aL 17 cL,I Q 0,I Q 11,O aS 2 cS,O aI (2+2) cI,I Q 0,O aR 2 cR] 28)):=hx.alloc hx.size _
 have hK:=Bk.made x 28 #[O aL 17 cL,I Q 0,I Q 11,O aS 2 cS,O aI (2+2) cI,I Q 0,O aR 2 cR]
 clear HP hx
 go_upto_region 2 with fail
 generalize x.heap.size=q at *
 generalize x.alloc (.cells #[O aL 17 cL,I Q 0,I Q 11,O aS 2 cS,O aI (2+2) cI,I Q 0,O aR 2 cR] 28)=y at *
 obtain⟨y0,y6⟩:y.cell? ⟨q,0,none⟩=some (O aL 17 cL)/\y.cell? ⟨q,6,none⟩=some (O aR 2 cR):=⟨hK.cell 0,hK.cell 6⟩
 clear hK
 go_wp2
 go_ret
 exact⟨rfl,hb⟩
end
section
theorem E0:∀ i∈GK,i.Wf:=by
 intro i hi
 simp only[GK,List.mem_cons,List.not_mem_nil,or_false] at hi
 rcases hi with rfl|rfl|rfl|rfl|rfl|rfl|rfl|rfl|rfl|rfl|rfl|rfl|rfl|rfl|rfl|rfl|rfl <;> (constructor <;> decide)
theorem Bu:GK.all oZ=true:=by decide
theorem EY {N:Nat}(h1:1<=N)(h64:N<=64):DD (gQ N) (rP N) (dJ N) oZ where
 al:=Bu
 st:=B8 Bu
 e0:=rfl
 wf:=E0
 ok:=DT h1 h64
 iu:=Dh h64
 il:=by rw[lj];exact Bq.symm
 rl:=lz N
 ru:=wQ N
theorem F7 {N:Nat}(h1:1<=N)(h64:N<=64):GE (gQ N) (rP N) (dJ N) 3 1 oZ:=
 { EY h1 h64 with
  sa:=by decide
  sb:=by decide
  pl:=fun l=>xZ h1 h64 l
  se:=fun calls=>uU h1 h64 calls
  re:=fun h8 l t ht=>xY h1 h64 h8 l ht }
theorem BI (x0:Int)(hn:1<=x0/\x0<=64):∃ k init r7,x0=((k:Lk).n:Int)/\GE k init r7 3 1 oZ/\
 (∀ V,Lb V->Calls Tryz.prog 8 #[I Q x0] V (zK V k init r7))/\
 (∀ V,Calls Tryz.prog 9 #[I Q x0] V (Fi V k init r7)):=by
 obtain⟨h1,h64⟩:=hn
 obtain⟨N,rfl⟩:∃ N:Nat,x0=N:=⟨x0.toNat,by omega⟩
 exact⟨(gQ N),(rP N),(dJ N),rfl,F7 (by omega) (by omega),fun V L=>qV N (by omega) (by omega) V L,fun V=>tA N (by omega) (by omega) V⟩
end
