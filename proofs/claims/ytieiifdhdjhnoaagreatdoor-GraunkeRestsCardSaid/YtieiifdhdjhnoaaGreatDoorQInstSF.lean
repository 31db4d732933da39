import Derived.Test.YtieiifdhdjhnoaaGreatDoorQInstB
import Derived.Test.YtieiifdhdjhnoaaGreatDoorQMem
import Derived.BigRegion
import Derived.Deep.RegionHeld3
import Derived.Deep.Cut
set_option linter.unusedVariables false
set_option maxHeartbeats 8000000
set_option maxRecDepth 100000
open Go.Lib renaming hid->I
open Nat renaming le_of_lt->Q
namespace Go.Proofs.YtieiifdhdjhnoaaGreatDoor
open Go.ChangeShapes Go.WideShapes Go.ChangeAt Go.RowKit
theorem Cq (op d s t u a k pl p:Int)(hop:op=16\/op=18)(r:zL ⟨op,d,s,t,u,a,k,pl⟩)(k0:0<=k)(k1:k<4294967296)(w:World):
 Calls Tryz.prog 67 #[iv ⟨op,d,s,t,u,a,k,pl⟩,.int .i64 p] w fun e w'=>e=.returned (.bool (au ⟨op,d,s,t,u,a,k,pl⟩ p))/\Below w.heap.size w w':=by
 obtain⟨hd,hs,ht,hu,ha⟩:=r
 simp only at hd hs ht hu ha
 have HN:=I (fun W=>fq op W)
 have hnm:(bE op).isEmpty=false:=by rcases hop with rfl|rfl <;> rfl
 generalize bE op=nm at *
 generalize hrr:au ⟨op,d,s,t,u,a,k,pl⟩ p=rr at *
 have HRR:=I hrr
 clear hrr
 unfold iv
 go_enter Tryz.func67,Tryz.ntmps67
 go_wp2_with fail
 refine(HN.out _).mono ?_
 rintro e x ⟨rfl,hx⟩
 obtain⟨hJ,hb⟩:=fS hx
 clear hx
 have hlt:w.heap.size<x.heap.size:=Bk.lt hJ
 have hne:w.heap.size≠x.heap.size:=Nat.ne_of_lt hlt
 obtain⟨c0,c1,c2,c3,c4,c5,c6,c7⟩:=hJ.cells
 simp only at c0 c1 c2 c3 c4 c5 c6 c7
 unfold bs
 go_upto_region 5 with (go_at_call 106;refine(dz _ (by omega) (by omega) _).mono ?_;rintro e w' ⟨rfl,rfl⟩)
 rcases hop with rfl|rfl
 ·have hq:=cq ⟨16,d,s,0,0,a,0,0⟩ ⟨16,d,s,t,u,a,k,pl⟩
  generalize hB:dg ⟨16,d,s,0,0,a,0,0⟩ ⟨16,d,s,t,u,a,k,pl⟩=B at hq
  have HB:=I hB
  clear hB
  unfold iv at hq
  simp only at hq
  have E:=I (kG d s t u a k pl p hd hs ht hu ha k0 k1)
  cases B
  all_goals
   go_wp2
   go_region
   all_goals go_wp2
   all_goals
    go_ret
    refine⟨bq ?_,by first | exact hb.alloc (Q hlt) _ | exact(hb.alloc (Q hlt) _).drew⟩
    rw[HRR.out.symm,E.out,HB.out] <;> first | rfl | (simp <;> omega) | omega
 ·have hq:=cq ⟨18,d,s,t,0,a,0,0⟩ ⟨18,d,s,t,u,a,k,pl⟩
  generalize hB:dg ⟨18,d,s,t,0,a,0,0⟩ ⟨18,d,s,t,u,a,k,pl⟩=B at hq
  have HB:=I hB
  clear hB
  unfold iv at hq
  simp only at hq
  have E:=I (kE d s t u a k pl p hd hs ht hu ha k0 k1)
  cases B
  all_goals
   go_wp2
   go_region
   all_goals go_wp2
   all_goals
    go_ret
    refine⟨bq ?_,by first | exact hb.alloc (Q hlt) _ | exact(hb.alloc (Q hlt) _).drew⟩
    rw[HRR.out.symm,E.out,HB.out] <;> first | rfl | (simp <;> omega) | omega
