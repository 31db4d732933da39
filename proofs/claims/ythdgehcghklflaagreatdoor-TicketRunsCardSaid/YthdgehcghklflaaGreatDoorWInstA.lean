import Derived.Test.YthdgehcghklflaaGreatDoorWMem
import Derived.Test.YthdgehcghklflaaGreatDoorWRecs
import Derived.Test.YthdgehcghklflaaGreatDoorProg
import Derived.Lib.Hide
import Derived.WalkKit
import Derived.ProofKit
import Derived.WalkLawsBesides
set_option linter.unusedVariables false
open Go.Value renaming int->I
open Go.IntKind renaming i64->Q
open Bool renaming false->N
open Go.Lib renaming hid->O
open Go.RowKit.Below renaming refl->Z
open Nat renaming le_refl->V
namespace Go.Proofs.YthdgehcghklflaaGreatDoor
open Go.ChangeShapes Go.WideShapes Go.ChangeAt Go.RowKit
def iv (i:aJ):Value:=.agg #[I Q i.op,I Q i.d,I Q i.s,I Q i.t,I Q i.u,I Q i.a,I .u32 i.k,I Q i.pl]
theorem xo (a b c d:List UInt8)(h1:a=c)(h2:b=d):Ending.returned (.tuple #[.string ⟨a.toArray⟩,.string ⟨b.toArray⟩])=.returned (.tuple #[bs c,bs d]):=by rw[h1,h2];rfl
theorem yx (op:Int)(h:op<1\/13<op)(w:World):
 Calls Tryz.prog 146 #[I Q op] w fun e w'=>e=.returned (.tuple #[bs (bM op),bs (dh op)])/\w=w':=by
 rcases co op with rfl|rfl|rfl|rfl|rfl|rfl|rfl|rfl|rfl|rfl|rfl|rfl|rfl|rfl|rfl|rfl|rfl|rfl|rfl|rfl|rfl | hn
 rotate_right
 ·obtain⟨n1,n2,n3,n4,n5,n6,n7,n8,n9,n10,n11,n12,n13,n16,n17,n18,n19,n20,n21,n22,n23⟩:=hn
  have en:bM op=[]:=by unfold bM;simp[*]
  have eh:dh op=[]:=by unfold dh;simp[*]
  have E:=O en
  have F:=O eh
  clear en eh
  have b16:(op==16)=N:=by simpa using n16
  have b17:(op==17)=N:=by simpa using n17
  have b18:(op==18)=N:=by simpa using n18
  have b19:(op==19)=N:=by simpa using n19
  have b20:(op==20)=N:=by simpa using n20
  have b21:(op==21)=N:=by simpa using n21
  have b22:(op==22)=N:=by simpa using n22
  have b23:(op==23)=N:=by simpa using n23
  clear n1 n2 n3 n4 n5 n6 n7 n8 n9 n10 n11 n12 n13 n16 n17 n18 n19 n20 n21 n22 n23
  go_enter Tryz.func146,Tryz.ntmps146
  go_wp2
  go_ret2
  exact⟨xo _ _ _ _ E.out.symm F.out.symm,rfl⟩
 all_goals first | (exfalso;omega) | skip
 all_goals
  go_enter Tryz.func146,Tryz.ntmps146
  go_wp2
  go_ret2
  exact⟨rfl,rfl⟩
theorem wF (op:Int)(w:World):
 Calls Tryz.prog 109 #[I Q op] w fun e w'=>e=.returned (.tuple #[bs (bM op),bs (dh op)])/\w=w':=by
 by_cases h:op<1\/13<op
 ·have hm:=O (yx op h w)
  have b1:(op==1)=N:=by simp;omega
  have b2:(op==2)=N:=by simp;omega
  have b3:(op==3)=N:=by simp;omega
  have b4:(op==4)=N:=by simp;omega
  have b5:(op==5)=N:=by simp;omega
  have b6:(op==6)=N:=by simp;omega
  have b7:(op==7)=N:=by simp;omega
  have b8:(op==8)=N:=by simp;omega
  have b9:(op==9)=N:=by simp;omega
  have b10:(op==10)=N:=by simp;omega
  have b11:(op==11)=N:=by simp;omega
  have b12:(op==12)=N:=by simp;omega
  have b13:(op==13)=N:=by simp;omega
  go_enter Tryz.func109,Tryz.ntmps109
  go_wp2_with fail
  refine hm.out.mono ?_
  rintro e w' ⟨rfl,rfl⟩
  go_wp2
  go_ret2
  exact⟨rfl,rfl⟩
 ·rcases co op with rfl|rfl|rfl|rfl|rfl|rfl|rfl|rfl|rfl|rfl|rfl|rfl|rfl|rfl|rfl|rfl|rfl|rfl|rfl|rfl|rfl | hn
  rotate_right
  ·exfalso;omega
  all_goals first | (exfalso;omega) | skip
  all_goals
   go_enter Tryz.func109,Tryz.ntmps109
   go_wp2
   go_ret2
   exact⟨rfl,rfl⟩
theorem yz (op:Int)(p:Int)(w:World):
 Calls Tryz.prog 147 #[I Q op] w fun e w'=>e=.returned (.tuple #[I Q (eJ op 75),I Q (dZ op 75 p)])/\w=w':=by
 by_cases h:op=5\/op=6\/op=12\/op=13\/op=21
 ·rcases h with rfl|rfl|rfl|rfl|rfl
  all_goals
   go_enter Tryz.func147,Tryz.ntmps147
   go_wp2
   go_ret2
   exact⟨rfl,rfl⟩
 ·have b5:(op==5)=N:=by simp;omega
  have b6:(op==6)=N:=by simp;omega
  have b12:(op==12)=N:=by simp;omega
  have b13:(op==13)=N:=by simp;omega
  have b21:(op==21)=N:=by simp;omega
  have E:=O (show eJ op 75=0 by unfold eJ;simp;omega)
  have F:=O (show dZ op 75 p=4294967296 by unfold dZ;simp;omega)
  go_enter Tryz.func147,Tryz.ntmps147
  go_wp2
  go_ret2
  exact⟨by rw[E.out,F.out];rfl,rfl⟩
theorem A5 (op c p:Int)(hc:Bo c)(w:World):
 Calls Tryz.prog 110 #[I Q op,I .u8 c,I Q p] w fun e w'=>e=.returned (.tuple #[I Q (eJ op c),I Q (dZ op c p)])/\w=w':=by
 rcases hc with rfl|rfl|rfl|rfl|rfl|rfl|rfl
 rotate_right
 ·by_cases h:op=21
  ·subst h
   by_cases hp:p<0
   ·have E:=O (show dZ 21 80 p=0 by unfold dZ;simp[hp])
    have hq:¬ (0:Int)<=p:=by omega
    go_enter Tryz.func110,Tryz.ntmps110
    go_wp2
    go_ret2
    exact⟨by rw[E.out];first | rfl | (rw[Int.max_eq_right (show p<=0 by omega)];rfl),rfl⟩
   ·have E:=O (show dZ 21 80 p=p by unfold dZ;simp;omega)
    have hq:(0:Int)<=p:=by omega
    go_enter Tryz.func110,Tryz.ntmps110
    go_wp2
    go_ret2
    exact⟨by rw[E.out];first | rfl | (rw[Int.max_eq_left (show 0<=p by omega)];rfl),rfl⟩
  ·have b21:(op==21)=N:=by simpa using h
   have E:=O (show dZ op 80 p=p by unfold dZ;simp[h])
   have F:=O (show eJ op 80=0 by unfold eJ;simp[h])
   go_enter Tryz.func110,Tryz.ntmps110
   go_wp2
   go_ret2
   exact⟨by rw[E.out,F.out];rfl,rfl⟩
 rotate_right
 ·have H:=O (yz op p w)
  go_enter Tryz.func110,Tryz.ntmps110
  go_wp2_with fail
  refine H.out.mono ?_
  rintro e w' ⟨rfl,rfl⟩
  go_wp2
  go_ret2
  exact⟨rfl,rfl⟩
 all_goals
  go_enter Tryz.func110,Tryz.ntmps110
  go_wp2
  go_ret2
  exact⟨rfl,rfl⟩
theorem Ez (i:aJ)(c:Int)(hc:Bo c)(k0:0<=i.k)(k1:i.k<4294967296)(w:World):
 Calls Tryz.prog 111 #[iv i,I .u8 c] w fun e w'=>e=.returned (I Q (bf i c))/\Below w.heap.size w w':=by
 obtain⟨op,d,s,t,u,a,k,pl⟩:=i
 simp only at k0 k1
 unfold iv
 rcases hc with rfl|rfl|rfl|rfl|rfl|rfl|rfl
 all_goals
  go_enter Tryz.func111,Tryz.ntmps111
  go_wp2
  go_ret
  exact⟨rfl,(Z _ _).alloc (V _) _⟩
theorem Ew (i:aJ)(c v:Int)(hc:Bo c)(w:World):
 Calls Tryz.prog 112 #[iv i,I .u8 c,I Q v] w fun e w'=>e=.returned (iv (cJ i c v))/\Below w.heap.size w w':=by
 obtain⟨op,d,s,t,u,a,k,pl⟩:=i
 unfold iv
 rcases hc with rfl|rfl|rfl|rfl|rfl|rfl|rfl
 ·go_enter Tryz.func112,Tryz.ntmps112
  go_wp2
  refine bodyPost_ret (v:=.agg #[I Q op,I Q v,I Q s,I Q t,I Q u,I Q a,I .u32 k,I Q pl]) (by simp[results,Tryz.results112,go_sem]) rfl ⟨rfl,?_⟩
  exact((Z _ _).alloc (V _) _).alloc (by simp) _
 ·go_enter Tryz.func112,Tryz.ntmps112
  go_wp2
  refine bodyPost_ret (v:=.agg #[I Q op,I Q d,I Q v,I Q t,I Q u,I Q a,I .u32 k,I Q pl]) (by simp[results,Tryz.results112,go_sem]) rfl ⟨rfl,?_⟩
  exact((Z _ _).alloc (V _) _).alloc (by simp) _
 ·go_enter Tryz.func112,Tryz.ntmps112
  go_wp2
  refine bodyPost_ret (v:=.agg #[I Q op,I Q d,I Q s,I Q v,I Q u,I Q a,I .u32 k,I Q pl]) (by simp[results,Tryz.results112,go_sem]) rfl ⟨rfl,?_⟩
  exact((Z _ _).alloc (V _) _).alloc (by simp) _
 ·go_enter Tryz.func112,Tryz.ntmps112
  go_wp2
  refine bodyPost_ret (v:=.agg #[I Q op,I Q d,I Q s,I Q t,I Q v,I Q a,I .u32 k,I Q pl]) (by simp[results,Tryz.results112,go_sem]) rfl ⟨rfl,?_⟩
  exact((Z _ _).alloc (V _) _).alloc (by simp) _
 ·go_enter Tryz.func112,Tryz.ntmps112
  go_wp2
  refine bodyPost_ret (v:=.agg #[I Q op,I Q d,I Q s,I Q t,I Q u,I Q v,I .u32 k,I Q pl]) (by simp[results,Tryz.results112,go_sem]) rfl ⟨rfl,?_⟩
  exact((Z _ _).alloc (V _) _).alloc (by simp) _
 ·go_enter Tryz.func112,Tryz.ntmps112
  go_wp2
  refine bodyPost_ret (v:=.agg #[I Q op,I Q d,I Q s,I Q t,I Q u,I Q a,I .u32 (v % 4294967296),I Q pl]) (by simp[results,Tryz.results112,go_sem]) rfl ⟨rfl,?_⟩
  exact((Z _ _).alloc (V _) _).alloc (by simp) _
 ·go_enter Tryz.func112,Tryz.ntmps112
  go_wp2
  refine bodyPost_ret (v:=.agg #[I Q op,I Q d,I Q s,I Q t,I Q u,I Q a,I .u32 k,I Q v]) (by simp[results,Tryz.results112,go_sem]) rfl ⟨rfl,?_⟩
  exact((Z _ _).alloc (V _) _).alloc (by simp) _
def cW (op:Int):Bool:=decide (16<=op) && decide (op<=23)
theorem jM (i:aJ)(w:World):
 Calls Tryz.prog 79 #[iv i] w fun e w'=>e=.returned (.bool (cW i.op))/\Below w.heap.size w w':=by
 obtain⟨op,d,s,t,u,a,k,pl⟩:=i
 unfold iv
 by_cases h:16<=op
 ·by_cases h2:op<=23
  ·have E:=O (show cW op=true by simp[cW,h,h2])
   go_enter Tryz.func79,Tryz.ntmps79
   go_wp2
   go_ret
   exact⟨by rw[E.out];rfl,(Z _ _).alloc (V _) _⟩
  ·have E:=O (show cW op=N by simp[cW,h2])
   have h3:decide (op<=23)=N:=by simp[h2]
   go_enter Tryz.func79,Tryz.ntmps79
   go_wp2
   go_ret
   exact⟨by rw[E.out];rfl,(Z _ _).alloc (V _) _⟩
 ·have E:=O (show cW op=N by simp[cW,h])
  have h3:decide (op>=16)=N:=by simp;omega
  go_enter Tryz.func79,Tryz.ntmps79
  go_wp2
  go_ret
  exact⟨by rw[E.out];rfl,(Z _ _).alloc (V _) _⟩
