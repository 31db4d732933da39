import Derived.Test.YtieiifdhdjhnoaaGreatDoorQInstC
import Derived.Test.YtieiifdhdjhnoaaGreatDoorQInstB
import Derived.Test.YtieiifdhdjhnoaaGreatDoorQInstSA
import Derived.Test.YtieiifdhdjhnoaaGreatDoorQInstSB
import Derived.Test.YtieiifdhdjhnoaaGreatDoorQInstSC
import Derived.Test.YtieiifdhdjhnoaaGreatDoorQInstSD
import Derived.Test.YtieiifdhdjhnoaaGreatDoorQInstSF
import Derived.Test.YtieiifdhdjhnoaaGreatDoorQInstSG
import Derived.Deep.RegionLaw
import Derived.Laws.IdiomStrings
set_option linter.unusedVariables false
set_option maxHeartbeats 2000000
set_option maxRecDepth 100000
open Bool renaming false->I
open Go.Lib renaming hid->Q
namespace Go.Proofs.YtieiifdhdjhnoaaGreatDoor
open Go.ChangeShapes Go.WideShapes Go.ChangeAt Go.RowKit
def rL (n:Nat):List UInt8:=[32,114]++Lib.decDigits n
theorem rR (n:Nat)(w:World)(hn:n<5000000000):Calls Tryz.prog 166 #[.int .i64 n] w fun e w'=>e=.returned (.string ⟨(rL n).toArray⟩)/\Below w.heap.size w w':=by
 have HI:=Q (vZ n w hn)
 have hl:=cH n hn
 have hcat:=jD [32,114] (Lib.decDigits n) (by simp;omega)
 unfold rL
 generalize Lib.decDigits n=l at *
 go_enter Tryz.func166,Tryz.ntmps166
 go_wp2_with fail
 refine HI.out.mono ?_
 rintro e y ⟨rfl,hy⟩
 unfold bs
 go_wp2
 go_ret
 exact⟨rfl,hy⟩
theorem cY (n:Nat)(h:n<5000000000):(rL n).length<=40:=by
 have:=cH n h
 unfold rL
 simp
 omega
theorem FF (dn sn tn un an kn pn:Nat):ah ⟨1,dn,sn,tn,un,an,kn,pn⟩=bE 1++((rL dn)++(32 :: Lib.decDigits kn)):=by
 simp[ah,cP,az,aN,aW,rL,aB]
theorem FE (dn sn tn un an kn pn:Nat):ah ⟨2,dn,sn,tn,un,an,kn,pn⟩=bE 2++((rL dn)++(rL sn)):=by
 simp[ah,cP,az,aN,aW,rL,aB]
theorem FD (dn sn tn un an kn pn:Nat):ah ⟨3,dn,sn,tn,un,an,kn,pn⟩=bE 3++(((rL dn)++(rL sn))++(32 :: Lib.decDigits kn)):=by
 simp[ah,cP,az,aN,aW,rL,aB]
theorem FC (dn sn tn un an kn pn:Nat):ah ⟨4,dn,sn,tn,un,an,kn,pn⟩=bE 4++(((rL dn)++(rL sn))++(32 :: Lib.decDigits kn)):=by
 simp[ah,cP,az,aN,aW,rL,aB]
theorem FB (dn sn tn un an kn pn:Nat):ah ⟨5,dn,sn,tn,un,an,kn,pn⟩=bE 5++(((rL dn)++(rL sn))++(32 :: Lib.decDigits kn)):=by
 simp[ah,cP,az,aN,aW,rL,aB]
theorem FA (dn sn tn un an kn pn:Nat):ah ⟨6,dn,sn,tn,un,an,kn,pn⟩=bE 6++(((rL dn)++(rL sn))++(32 :: Lib.decDigits kn)):=by
 simp[ah,cP,az,aN,aW,rL,aB]
theorem Fz (dn sn tn un an kn pn:Nat):ah ⟨7,dn,sn,tn,un,an,kn,pn⟩=bE 7++(((rL dn)++(rL sn))++(rL tn)):=by
 simp[ah,cP,az,aN,aW,rL,aB]
theorem Fy (dn sn tn un an kn pn:Nat):ah ⟨8,dn,sn,tn,un,an,kn,pn⟩=bE 8++(((rL sn)++(rL tn))++(32 :: Lib.decDigits pn)):=by
 simp[ah,cP,az,aN,aW,rL,aB]
theorem Fx (dn sn tn un an kn pn:Nat):ah ⟨9,dn,sn,tn,un,an,kn,pn⟩=bE 9++(((rL sn)++(rL tn))++(32 :: Lib.decDigits pn)):=by
 simp[ah,cP,az,aN,aW,rL,aB]
theorem Eh (dn sn tn un an kn pn:Nat):ah ⟨10,dn,sn,tn,un,an,kn,pn⟩=bE 10++(32 :: Lib.decDigits pn):=by
 simp[ah,cP,az,aN,aW,aB]
theorem Eg (dn sn tn un an kn pn:Nat):ah ⟨11,dn,sn,tn,un,an,kn,pn⟩=bE 11++(rL dn):=by
 simp[ah,cP,az,aN,aW,rL,aB]
theorem D8 (dn sn tn un an kn pn:Nat):ah ⟨22,dn,sn,tn,un,an,kn,pn⟩=bE 22++(rL dn):=by
 simp[ah,cP,az,aN,aW,rL,aB]
theorem Ef (dn sn tn un an kn pn:Nat):ah ⟨12,dn,sn,tn,un,an,kn,pn⟩=bE 12++(32 :: Lib.decDigits kn):=by
 simp[ah,cP,az,aN,aW,aB]
theorem Ee (dn sn tn un an kn pn:Nat):ah ⟨13,dn,sn,tn,un,an,kn,pn⟩=bE 13++(32 :: Lib.decDigits kn):=by
 simp[ah,cP,az,aN,aW,aB]
theorem Ed (dn sn tn un an kn pn:Nat):ah ⟨16,dn,sn,tn,un,an,kn,pn⟩=bE 16++(((rL dn)++(32 :: Lib.decDigits an))++(rL sn)):=by
 simp[ah,cP,az,aN,aW,rL,aB]
theorem Ec (dn sn tn un an kn pn:Nat):ah ⟨17,dn,sn,tn,un,an,kn,pn⟩=bE 17++(((32 :: Lib.decDigits an)++(rL sn))++(rL tn)):=by
 simp[ah,cP,az,aN,aW,rL,aB]
theorem Eb (dn sn tn un an kn pn:Nat):ah ⟨18,dn,sn,tn,un,an,kn,pn⟩=bE 18++((((rL dn)++(32 :: Lib.decDigits an))++(rL sn))++(rL tn)):=by
 simp[ah,cP,az,aN,aW,rL,aB]
theorem Ea (dn sn tn un an kn pn:Nat):ah ⟨19,dn,sn,tn,un,an,kn,pn⟩=bE 19++(((((rL dn)++(32 :: Lib.decDigits an))++(rL sn))++(rL tn))++(rL un)):=by
 simp[ah,cP,az,aN,aW,rL,aB]
theorem D9 (dn sn tn un an kn pn:Nat):ah ⟨20,dn,sn,tn,un,an,kn,pn⟩=bE 20++((((rL dn)++(32 :: Lib.decDigits an))++(rL sn))++(32 :: Lib.decDigits kn)):=by
 simp[ah,cP,az,aN,aW,rL,aB]
theorem D7 (dn sn tn un an kn pn:Nat):ah ⟨23,dn,sn,tn,un,an,kn,pn⟩=bE 23++(rL sn):=by
 simp[ah,cP,az,aN,aW,rL,aB]
theorem uo (i:aU)(p:Int)(h:bE i.op=[]):au i p=I:=by
 obtain⟨op,d,s,t,u,a,k,pl⟩:=i
 simp only at h
 rcases cw op with rfl|rfl|rfl|rfl|rfl|rfl|rfl|rfl|rfl|rfl|rfl|rfl|rfl|rfl|rfl|rfl|rfl|rfl|rfl|rfl|rfl | hn
 rotate_right
 ·unfold au
  rw[(dB hn).1]
  rfl
 all_goals (simp[bE] at h)
theorem uv (op d s t u a k pl p:Int)(hnm:bE op=[])(w:World):
 Calls Tryz.prog 67 #[iv ⟨op,d,s,t,u,a,k,pl⟩,.int .i64 p] w fun e w'=>e=.returned (.bool I)/\Below w.heap.size w w':=by
 have HN:=Q (fun W=>fq op W)
 rw[hnm] at HN
 clear hnm
 unfold iv
 go_enter Tryz.func67,Tryz.ntmps67
 go_wp2_with fail
 refine(HN.out _).mono ?_
 rintro e x ⟨rfl,hx⟩
 obtain⟨hJ,hb⟩:=fS hx
 clear hx
 unfold bs
 go_wp2
 go_ret
 exact⟨rfl,hb⟩
theorem uz (op d s t u a k pl p:Int)(hnm:(bE op).isEmpty=I)  (hbad:d<0\/7<d)(w:World):
 Calls Tryz.prog 67 #[iv ⟨op,d,s,t,u,a,k,pl⟩,.int .i64 p] w fun e w'=>e=.returned (.bool I)/\Below w.heap.size w w':=by
 have HN:=Q (fun W=>fq op W)
 generalize bE op=nm at *
 unfold iv
 go_enter Tryz.func67,Tryz.ntmps67
 go_wp2_with fail
 refine(HN.out _).mono ?_
 rintro e x ⟨rfl,hx⟩
 obtain⟨hJ,hb⟩:=fS hx
 clear hx
 have hlt:w.heap.size<x.heap.size:=Bk.lt hJ
 have hne:w.heap.size≠x.heap.size:=Nat.ne_of_lt hlt
 obtain⟨c0,c1,c2,c3,c4,c5,c6,c7⟩:=hJ.cells
 simp only at c0 c1 c2 c3 c4 c5 c6 c7
 unfold bs
 go_wp2_with fail
 refine(oG d hbad _).mono ?_
 rintro e w' ⟨rfl,rfl⟩
 go_wp2
 go_ret
 exact⟨rfl,hb⟩
theorem uy (op d s t u a k pl p:Int)(hnm:(bE op).isEmpty=I)(hd:0<=d/\d<=7)(hbad:s<0\/7<s)(w:World):
 Calls Tryz.prog 67 #[iv ⟨op,d,s,t,u,a,k,pl⟩,.int .i64 p] w fun e w'=>e=.returned (.bool I)/\Below w.heap.size w w':=by
 have HN:=Q (fun W=>fq op W)
 generalize bE op=nm at *
 unfold iv
 go_enter Tryz.func67,Tryz.ntmps67
 go_wp2_with fail
 refine(HN.out _).mono ?_
 rintro e x ⟨rfl,hx⟩
 obtain⟨hJ,hb⟩:=fS hx
 clear hx
 have hlt:w.heap.size<x.heap.size:=Bk.lt hJ
 have hne:w.heap.size≠x.heap.size:=Nat.ne_of_lt hlt
 obtain⟨c0,c1,c2,c3,c4,c5,c6,c7⟩:=hJ.cells
 simp only at c0 c1 c2 c3 c4 c5 c6 c7
 unfold bs
 go_wp2_with fail
 refine(dz d hd.1 hd.2 _).mono ?_
 rintro e w' ⟨rfl,rfl⟩
 go_wp2_with fail
 refine(oG s hbad _).mono ?_
 rintro e w' ⟨rfl,rfl⟩
 go_wp2
 go_ret
 exact⟨rfl,hb⟩
theorem ux (op d s t u a k pl p:Int)(hnm:(bE op).isEmpty=I)(hd:0<=d/\d<=7)(hs:0<=s/\s<=7)(hbad:t<0\/7<t)(w:World):
 Calls Tryz.prog 67 #[iv ⟨op,d,s,t,u,a,k,pl⟩,.int .i64 p] w fun e w'=>e=.returned (.bool I)/\Below w.heap.size w w':=by
 have HN:=Q (fun W=>fq op W)
 generalize bE op=nm at *
 unfold iv
 go_enter Tryz.func67,Tryz.ntmps67
 go_wp2_with fail
 refine(HN.out _).mono ?_
 rintro e x ⟨rfl,hx⟩
 obtain⟨hJ,hb⟩:=fS hx
 clear hx
 have hlt:w.heap.size<x.heap.size:=Bk.lt hJ
 have hne:w.heap.size≠x.heap.size:=Nat.ne_of_lt hlt
 obtain⟨c0,c1,c2,c3,c4,c5,c6,c7⟩:=hJ.cells
 simp only at c0 c1 c2 c3 c4 c5 c6 c7
 unfold bs
 go_wp2_with fail
 refine(dz d hd.1 hd.2 _).mono ?_
 rintro e w' ⟨rfl,rfl⟩
 go_wp2_with fail
 refine(dz s hs.1 hs.2 _).mono ?_
 rintro e w' ⟨rfl,rfl⟩
 go_wp2_with fail
 refine(oG t hbad _).mono ?_
 rintro e w' ⟨rfl,rfl⟩
 go_wp2
 go_ret
 exact⟨rfl,hb⟩
theorem uw (op d s t u a k pl p:Int)(hnm:(bE op).isEmpty=I)(hd:0<=d/\d<=7)(hs:0<=s/\s<=7)(ht:0<=t/\t<=7)(hbad:u<0\/7<u)(w:World):
 Calls Tryz.prog 67 #[iv ⟨op,d,s,t,u,a,k,pl⟩,.int .i64 p] w fun e w'=>e=.returned (.bool I)/\Below w.heap.size w w':=by
 have HN:=Q (fun W=>fq op W)
 generalize bE op=nm at *
 unfold iv
 go_enter Tryz.func67,Tryz.ntmps67
 go_wp2_with fail
 refine(HN.out _).mono ?_
 rintro e x ⟨rfl,hx⟩
 obtain⟨hJ,hb⟩:=fS hx
 clear hx
 have hlt:w.heap.size<x.heap.size:=Bk.lt hJ
 have hne:w.heap.size≠x.heap.size:=Nat.ne_of_lt hlt
 obtain⟨c0,c1,c2,c3,c4,c5,c6,c7⟩:=hJ.cells
 simp only at c0 c1 c2 c3 c4 c5 c6 c7
 unfold bs
 go_wp2_with fail
 refine(dz d hd.1 hd.2 _).mono ?_
 rintro e w' ⟨rfl,rfl⟩
 go_wp2_with fail
 refine(dz s hs.1 hs.2 _).mono ?_
 rintro e w' ⟨rfl,rfl⟩
 go_wp2_with fail
 refine(dz t ht.1 ht.2 _).mono ?_
 rintro e w' ⟨rfl,rfl⟩
 go_wp2_with fail
 refine(oG u hbad _).mono ?_
 rintro e w' ⟨rfl,rfl⟩
 go_wp2
 go_ret
 exact⟨rfl,hb⟩
theorem uA (op d s t u a k pl p:Int)(hnm:(bE op).isEmpty=I)(hd:0<=d/\d<=7)(hs:0<=s/\s<=7)(ht:0<=t/\t<=7)(hu:0<=u/\u<=7)(hbad:a<0\/7<a)(w:World):
 Calls Tryz.prog 67 #[iv ⟨op,d,s,t,u,a,k,pl⟩,.int .i64 p] w fun e w'=>e=.returned (.bool I)/\Below w.heap.size w w':=by
 have HN:=Q (fun W=>fq op W)
 generalize bE op=nm at *
 unfold iv
 go_enter Tryz.func67,Tryz.ntmps67
 go_wp2_with fail
 refine(HN.out _).mono ?_
 rintro e x ⟨rfl,hx⟩
 obtain⟨hJ,hb⟩:=fS hx
 clear hx
 have hlt:w.heap.size<x.heap.size:=Bk.lt hJ
 have hne:w.heap.size≠x.heap.size:=Nat.ne_of_lt hlt
 obtain⟨c0,c1,c2,c3,c4,c5,c6,c7⟩:=hJ.cells
 simp only at c0 c1 c2 c3 c4 c5 c6 c7
 unfold bs
 go_wp2_with fail
 refine(dz d hd.1 hd.2 _).mono ?_
 rintro e w' ⟨rfl,rfl⟩
 go_wp2_with fail
 refine(dz s hs.1 hs.2 _).mono ?_
 rintro e w' ⟨rfl,rfl⟩
 go_wp2_with fail
 refine(dz t ht.1 ht.2 _).mono ?_
 rintro e w' ⟨rfl,rfl⟩
 go_wp2_with fail
 refine(dz u hu.1 hu.2 _).mono ?_
 rintro e w' ⟨rfl,rfl⟩
 go_wp2_with fail
 refine(oG a hbad _).mono ?_
 rintro e w' ⟨rfl,rfl⟩
 go_wp2
 go_ret
 exact⟨rfl,hb⟩
theorem Bd (i:aU)(p:Int)(k0:0<=i.k)(k1:i.k<4294967296)(w:World):
 Calls Tryz.prog 67 #[iv i,.int .i64 p] w fun e w'=>e=.returned (.bool (au i p))/\Below w.heap.size w w':=by
 by_cases hnm:bE i.op=[]
 ·rw[uo i p hnm]
  exact uv i.op i.d i.s i.t i.u i.a i.k i.pl p hnm w
 have hne:(bE i.op).isEmpty=I:=by simpa using hnm
 have no:¬ ((0<=i.d/\i.d<=7)/\(0<=i.s/\i.s<=7)/\(0<=i.t/\i.t<=7)/\(0<=i.u/\i.u<=7)/\(0<=i.a/\i.a<=7))->au i p=I:=by
  intro h
  rw[Bool.eq_false_iff]
  exact fun e=>h (eJ i p e)
 obtain⟨op,d,s,t,u,a,k,pl⟩:=i
 simp only at k0 k1 hnm hne no
 by_cases hd:0<=d/\d<=7
 ·by_cases hs:0<=s/\s<=7
  ·by_cases ht:0<=t/\t<=7
   ·by_cases hu:0<=u/\u<=7
    ·by_cases ha:0<=a/\a<=7
     ·clear no
      by_cases hrRightA:op=1\/op=10\/op=11\/op=22\/op=12\/op=13\/op=23
      ·exact Cv op d s t u a k pl p hrRightA ⟨hd,hs,ht,hu,ha⟩ k0 k1 w
      by_cases hrRightC:op=2\/op=3\/op=4\/op=7
      ·exact Ct op d s t u a k pl p hrRightC ⟨hd,hs,ht,hu,ha⟩ k0 k1 w
      by_cases hrRightD:op=5\/op=6\/op=8\/op=9
      ·exact Cr op d s t u a k pl p hrRightD ⟨hd,hs,ht,hu,ha⟩ k0 k1 w
      by_cases hrRightF:op=16\/op=18
      ·exact Cq op d s t u a k pl p hrRightF ⟨hd,hs,ht,hu,ha⟩ k0 k1 w
      by_cases hrRightG:op=17\/op=19
      ·exact Cp op d s t u a k pl p hrRightG ⟨hd,hs,ht,hu,ha⟩ k0 k1 w
      by_cases hrRightB:op=20\/op=21
      ·exact Cu op d s t u a k pl p hrRightB ⟨hd,hs,ht,hu,ha⟩ k0 k1 w
      exfalso;apply hnm;exact(dB (by omega)).2
     ·rw[no (by omega)];exact uA op d s t u a k pl p hne hd hs ht hu (by omega) w
    ·rw[no (by omega)];exact uw op d s t u a k pl p hne hd hs ht (by omega) w
   ·rw[no (by omega)];exact ux op d s t u a k pl p hne hd hs (by omega) w
  ·rw[no (by omega)];exact uy op d s t u a k pl p hne hd (by omega) w
 ·rw[no (by omega)];exact uz op d s t u a k pl p hne (by omega) w
