import Derived.Test.YthdgehcghklflaaGreatDoorRMem
import Derived.Test.YthdgehcghklflaaGreatDoorRWdA
import Derived.Test.YthdgehcghklflaaGreatDoorProg
import Derived.Lib.Hide
import Derived.WalkKit
import Derived.ProofKit
import Derived.WalkLawsBesides
set_option linter.unusedVariables false
namespace Go.Proofs.YthdgehcghklflaaGreatDoor
open Go.ChangeShapes Go.WideShapes Go.ChangeAt Go.RowKit
def iv (i:Ins):Value:=.agg #[.int .i64 i.op,.int .i64 i.d,.int .i64 i.s,.int .i64 i.t,.int .i64 i.u,.int .i64 i.a,.int .u32 i.k,.int .i64 i.pl]
theorem ret2_str (a b c d:List UInt8)(h1:a=c)(h2:b=d):Ending.returned (.tuple #[.string ⟨a.toArray⟩,.string ⟨b.toArray⟩])=.returned (.tuple #[bs c,bs d]):=by rw[h1,h2];rfl
theorem cMemForm (op:Int)(h:op < 1∨13 < op)(w:World):
 Calls Tryz.prog 146 #[.int .i64 op] w fun e w'=>e=.returned (.tuple #[bs (nmL op),bs (hsL op)])∧w=w':=by
 rcases op_cases op with rfl | rfl | rfl | rfl | rfl | rfl | rfl | rfl | rfl | rfl | rfl | rfl | rfl | rfl | rfl | rfl | rfl | rfl | rfl | rfl | rfl | hn
 rotate_right
 ·obtain⟨n1,n2,n3,n4,n5,n6,n7,n8,n9,n10,n11,n12,n13,n16,n17,n18,n19,n20,n21,n22,n23⟩:=hn
  have en:nmL op=[]:=by unfold nmL;simp[*]
  have eh:hsL op=[]:=by unfold hsL;simp[*]
  have E:=Lib.hid en
  have F:=Lib.hid eh
  clear en eh
  have b16:(op==16)=false:=by simpa using n16
  have b17:(op==17)=false:=by simpa using n17
  have b18:(op==18)=false:=by simpa using n18
  have b19:(op==19)=false:=by simpa using n19
  have b20:(op==20)=false:=by simpa using n20
  have b21:(op==21)=false:=by simpa using n21
  have b22:(op==22)=false:=by simpa using n22
  have b23:(op==23)=false:=by simpa using n23
  clear n1 n2 n3 n4 n5 n6 n7 n8 n9 n10 n11 n12 n13 n16 n17 n18 n19 n20 n21 n22 n23
  go_enter Tryz.func146,Tryz.ntmps146
  go_wp2
  go_ret2
  exact⟨ret2_str _ _ _ _ E.out.symm F.out.symm,rfl⟩
 all_goals first | (exfalso;omega) | skip
 all_goals
  go_enter Tryz.func146,Tryz.ntmps146
  go_wp2
  go_ret2
  exact⟨rfl,rfl⟩
theorem cForm (op:Int)(w:World):
 Calls Tryz.prog 109 #[.int .i64 op] w fun e w'=>e=.returned (.tuple #[bs (nmL op),bs (hsL op)])∧w=w':=by
 by_cases h:op < 1∨13 < op
 ·have hm:=Lib.hid (cMemForm op h w)
  have b1:(op==1)=false:=by simp;omega
  have b2:(op==2)=false:=by simp;omega
  have b3:(op==3)=false:=by simp;omega
  have b4:(op==4)=false:=by simp;omega
  have b5:(op==5)=false:=by simp;omega
  have b6:(op==6)=false:=by simp;omega
  have b7:(op==7)=false:=by simp;omega
  have b8:(op==8)=false:=by simp;omega
  have b9:(op==9)=false:=by simp;omega
  have b10:(op==10)=false:=by simp;omega
  have b11:(op==11)=false:=by simp;omega
  have b12:(op==12)=false:=by simp;omega
  have b13:(op==13)=false:=by simp;omega
  go_enter Tryz.func109,Tryz.ntmps109
  go_wp2_with fail
  refine hm.out.mono ?_
  rintro e w' ⟨rfl,rfl⟩
  go_wp2
  go_ret2
  exact⟨rfl,rfl⟩
 ·rcases op_cases op with rfl | rfl | rfl | rfl | rfl | rfl | rfl | rfl | rfl | rfl | rfl | rfl | rfl | rfl | rfl | rfl | rfl | rfl | rfl | rfl | rfl | hn
  rotate_right
  ·exfalso;omega
  all_goals first | (exfalso;omega) | skip
  all_goals
   go_enter Tryz.func109,Tryz.ntmps109
   go_wp2
   go_ret2
   exact⟨rfl,rfl⟩
theorem cBoundsK (op:Int)(p:Int)(w:World):
 Calls Tryz.prog 147 #[.int .i64 op] w fun e w'=>e=.returned (.tuple #[.int .i64 (lowI op 75),.int .i64 (endI op 75 p)])∧w=w':=by
 by_cases h:op=5∨op=6∨op=12∨op=13∨op=21
 ·rcases h with rfl | rfl | rfl | rfl | rfl
  all_goals
   go_enter Tryz.func147,Tryz.ntmps147
   go_wp2
   go_ret2
   exact⟨rfl,rfl⟩
 ·have b5:(op==5)=false:=by simp;omega
  have b6:(op==6)=false:=by simp;omega
  have b12:(op==12)=false:=by simp;omega
  have b13:(op==13)=false:=by simp;omega
  have b21:(op==21)=false:=by simp;omega
  have E:=Lib.hid (show lowI op 75=0 by unfold lowI;simp;omega)
  have F:=Lib.hid (show endI op 75 p=4294967296 by unfold endI;simp;omega)
  go_enter Tryz.func147,Tryz.ntmps147
  go_wp2
  go_ret2
  exact⟨by rw[E.out,F.out];rfl,rfl⟩
theorem cBounds (op c p:Int)(hc:Ltr c)(w:World):
 Calls Tryz.prog 110 #[.int .i64 op,.int .u8 c,.int .i64 p] w fun e w'=>e=.returned (.tuple #[.int .i64 (lowI op c),.int .i64 (endI op c p)])∧w=w':=by
 rcases hc with rfl | rfl | rfl | rfl | rfl | rfl | rfl
 rotate_right
 ·by_cases h:op=21
  ·subst h
   by_cases hp:p < 0
   ·have E:=Lib.hid (show endI 21 80 p=0 by unfold endI;simp[hp])
    have hq:¬ (0:Int)≤p:=by omega
    go_enter Tryz.func110,Tryz.ntmps110
    go_wp2
    go_ret2
    exact⟨by rw[E.out];first | rfl | (rw[Int.max_eq_right (show p≤0 by omega)];rfl),rfl⟩
   ·have E:=Lib.hid (show endI 21 80 p=p by unfold endI;simp;omega)
    have hq:(0:Int)≤p:=by omega
    go_enter Tryz.func110,Tryz.ntmps110
    go_wp2
    go_ret2
    exact⟨by rw[E.out];first | rfl | (rw[Int.max_eq_left (show 0≤p by omega)];rfl),rfl⟩
  ·have b21:(op==21)=false:=by simpa using h
   have E:=Lib.hid (show endI op 80 p=p by unfold endI;simp[h])
   have F:=Lib.hid (show lowI op 80=0 by unfold lowI;simp[h])
   go_enter Tryz.func110,Tryz.ntmps110
   go_wp2
   go_ret2
   exact⟨by rw[E.out,F.out];rfl,rfl⟩
 rotate_right
 ·have H:=Lib.hid (cBoundsK op p w)
  go_enter Tryz.func110,Tryz.ntmps110
  go_wp2_with fail
  refine H.out.mono ?_
  rintro e w' ⟨rfl,rfl⟩
  go_wp2
  go_ret2
  exact⟨rfl,rfl⟩
 all_goals
  go_enter Tryz.func110,Tryz.ntmps110
  go_wp2
  go_ret2
  exact⟨rfl,rfl⟩
theorem cGet (i:Ins)(c:Int)(hc:Ltr c)(k0:0≤i.k)(k1:i.k < 4294967296)(w:World):
 Calls Tryz.prog 111 #[iv i,.int .u8 c] w fun e w'=>e=.returned (.int .i64 (getI i c))∧Below w.heap.size w w':=by
 obtain⟨op,d,s,t,u,a,k,pl⟩:=i
 simp only at k0 k1
 unfold iv
 rcases hc with rfl | rfl | rfl | rfl | rfl | rfl | rfl
 all_goals
  go_enter Tryz.func111,Tryz.ntmps111
  go_wp2
  go_ret
  exact⟨rfl,(Below.refl _ _).alloc (Nat.le_refl _) _⟩
theorem cSet (i:Ins)(c v:Int)(hc:Ltr c)(w:World):
 Calls Tryz.prog 112 #[iv i,.int .u8 c,.int .i64 v] w fun e w'=>e=.returned (iv (setI i c v))∧Below w.heap.size w w':=by
 obtain⟨op,d,s,t,u,a,k,pl⟩:=i
 unfold iv
 rcases hc with rfl | rfl | rfl | rfl | rfl | rfl | rfl
 ·go_enter Tryz.func112,Tryz.ntmps112
  go_wp2
  refine bodyPost_ret (v:=.agg #[.int .i64 op,.int .i64 v,.int .i64 s,.int .i64 t,.int .i64 u,.int .i64 a,.int .u32 k,.int .i64 pl]) (by simp[results,Tryz.results112,go_sem]) rfl ⟨rfl,?_⟩
  exact((Below.refl _ _).alloc (Nat.le_refl _) _).alloc (by simp) _
 ·go_enter Tryz.func112,Tryz.ntmps112
  go_wp2
  refine bodyPost_ret (v:=.agg #[.int .i64 op,.int .i64 d,.int .i64 v,.int .i64 t,.int .i64 u,.int .i64 a,.int .u32 k,.int .i64 pl]) (by simp[results,Tryz.results112,go_sem]) rfl ⟨rfl,?_⟩
  exact((Below.refl _ _).alloc (Nat.le_refl _) _).alloc (by simp) _
 ·go_enter Tryz.func112,Tryz.ntmps112
  go_wp2
  refine bodyPost_ret (v:=.agg #[.int .i64 op,.int .i64 d,.int .i64 s,.int .i64 v,.int .i64 u,.int .i64 a,.int .u32 k,.int .i64 pl]) (by simp[results,Tryz.results112,go_sem]) rfl ⟨rfl,?_⟩
  exact((Below.refl _ _).alloc (Nat.le_refl _) _).alloc (by simp) _
 ·go_enter Tryz.func112,Tryz.ntmps112
  go_wp2
  refine bodyPost_ret (v:=.agg #[.int .i64 op,.int .i64 d,.int .i64 s,.int .i64 t,.int .i64 v,.int .i64 a,.int .u32 k,.int .i64 pl]) (by simp[results,Tryz.results112,go_sem]) rfl ⟨rfl,?_⟩
  exact((Below.refl _ _).alloc (Nat.le_refl _) _).alloc (by simp) _
 ·go_enter Tryz.func112,Tryz.ntmps112
  go_wp2
  refine bodyPost_ret (v:=.agg #[.int .i64 op,.int .i64 d,.int .i64 s,.int .i64 t,.int .i64 u,.int .i64 v,.int .u32 k,.int .i64 pl]) (by simp[results,Tryz.results112,go_sem]) rfl ⟨rfl,?_⟩
  exact((Below.refl _ _).alloc (Nat.le_refl _) _).alloc (by simp) _
 ·go_enter Tryz.func112,Tryz.ntmps112
  go_wp2
  refine bodyPost_ret (v:=.agg #[.int .i64 op,.int .i64 d,.int .i64 s,.int .i64 t,.int .i64 u,.int .i64 a,.int .u32 (v % 4294967296),.int .i64 pl]) (by simp[results,Tryz.results112,go_sem]) rfl ⟨rfl,?_⟩
  exact((Below.refl _ _).alloc (Nat.le_refl _) _).alloc (by simp) _
 ·go_enter Tryz.func112,Tryz.ntmps112
  go_wp2
  refine bodyPost_ret (v:=.agg #[.int .i64 op,.int .i64 d,.int .i64 s,.int .i64 t,.int .i64 u,.int .i64 a,.int .u32 k,.int .i64 v]) (by simp[results,Tryz.results112,go_sem]) rfl ⟨rfl,?_⟩
  exact((Below.refl _ _).alloc (Nat.le_refl _) _).alloc (by simp) _
def memB (op:Int):Bool:=decide (16≤op) && decide (op≤23)
end Go.Proofs.YthdgehcghklflaaGreatDoor
