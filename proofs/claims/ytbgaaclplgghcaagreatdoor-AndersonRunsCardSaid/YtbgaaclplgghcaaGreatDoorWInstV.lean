import Derived.Test.YtbgaaclplgghcaaGreatDoorWInstC
import Derived.Test.YtbgaaclplgghcaaGreatDoorWFlowK
import Derived.Test.YtbgaaclplgghcaaGreatDoorWInstSA
import Derived.Test.YtbgaaclplgghcaaGreatDoorWInstSB
import Derived.Test.YtbgaaclplgghcaaGreatDoorWInstSC
import Derived.Test.YtbgaaclplgghcaaGreatDoorWInstSD
import Derived.Test.YtbgaaclplgghcaaGreatDoorWInstSF
import Derived.Test.YtbgaaclplgghcaaGreatDoorWInstSG
import Derived.Deep.RegionLaw
import Derived.Laws.IdiomStrings
set_option linter.unusedVariables false
set_option maxHeartbeats 2000000
set_option maxRecDepth 100000
open Bool renaming false->I
open Go.Lib renaming hid->Q
namespace Go.Proofs.YtbgaaclplgghcaaGreatDoor
open Go.ChangeShapes Go.WideShapes Go.ChangeAt Go.RowKit
def rL (n:Nat):List UInt8:=[32,114]++Lib.decDigits n
theorem rR (n:Nat)(w:World)(hn:n<5000000000):Calls Tryz.prog 188 #[.int .i64 n] w fun e w'=>e=.returned (.string ⟨(rL n).toArray⟩)/\Below w.heap.size w w':=by
 have HI:=Q (pf n w hn)
 have hl:=cg n hn
 have hcat:=iT [32,114] (Lib.decDigits n) (by simp;omega)
 unfold rL
 generalize Lib.decDigits n=l at *
 go_enter Tryz.func188,Tryz.ntmps188
 go_wp2_with fail
 refine HI.out.mono ?_
 rintro e y ⟨rfl,hy⟩
 unfold bs
 go_wp2
 go_ret
 exact⟨rfl,hy⟩
theorem cK (n:Nat)(h:n<5000000000):(rL n).length<=40:=by
 have:=cg n h
 unfold rL
 simp
 omega
theorem DX (dn sn tn un an kn pn:Nat):af ⟨1,dn,sn,tn,un,an,kn,pn⟩=bE 1++((rL dn)++(32 :: Lib.decDigits kn)):=by
 simp[af,cX,az,aW,aY,rL,aE]
theorem DW (dn sn tn un an kn pn:Nat):af ⟨2,dn,sn,tn,un,an,kn,pn⟩=bE 2++((rL dn)++(rL sn)):=by
 simp[af,cX,az,aW,aY,rL,aE]
theorem DV (dn sn tn un an kn pn:Nat):af ⟨3,dn,sn,tn,un,an,kn,pn⟩=bE 3++(((rL dn)++(rL sn))++(32 :: Lib.decDigits kn)):=by
 simp[af,cX,az,aW,aY,rL,aE]
theorem DU (dn sn tn un an kn pn:Nat):af ⟨4,dn,sn,tn,un,an,kn,pn⟩=bE 4++(((rL dn)++(rL sn))++(32 :: Lib.decDigits kn)):=by
 simp[af,cX,az,aW,aY,rL,aE]
theorem DT (dn sn tn un an kn pn:Nat):af ⟨5,dn,sn,tn,un,an,kn,pn⟩=bE 5++(((rL dn)++(rL sn))++(32 :: Lib.decDigits kn)):=by
 simp[af,cX,az,aW,aY,rL,aE]
theorem DS (dn sn tn un an kn pn:Nat):af ⟨6,dn,sn,tn,un,an,kn,pn⟩=bE 6++(((rL dn)++(rL sn))++(32 :: Lib.decDigits kn)):=by
 simp[af,cX,az,aW,aY,rL,aE]
theorem DR (dn sn tn un an kn pn:Nat):af ⟨7,dn,sn,tn,un,an,kn,pn⟩=bE 7++(((rL dn)++(rL sn))++(rL tn)):=by
 simp[af,cX,az,aW,aY,rL,aE]
theorem DQ (dn sn tn un an kn pn:Nat):af ⟨8,dn,sn,tn,un,an,kn,pn⟩=bE 8++(((rL sn)++(rL tn))++(32 :: Lib.decDigits pn)):=by
 simp[af,cX,az,aW,aY,rL,aE]
theorem DO (dn sn tn un an kn pn:Nat):af ⟨9,dn,sn,tn,un,an,kn,pn⟩=bE 9++(((rL sn)++(rL tn))++(32 :: Lib.decDigits pn)):=by
 simp[af,cX,az,aW,aY,rL,aE]
theorem Ch (dn sn tn un an kn pn:Nat):af ⟨10,dn,sn,tn,un,an,kn,pn⟩=bE 10++(32 :: Lib.decDigits pn):=by
 simp[af,cX,az,aW,aY,aE]
theorem Cg (dn sn tn un an kn pn:Nat):af ⟨11,dn,sn,tn,un,an,kn,pn⟩=bE 11++(rL dn):=by
 simp[af,cX,az,aW,aY,rL,aE]
theorem B7 (dn sn tn un an kn pn:Nat):af ⟨22,dn,sn,tn,un,an,kn,pn⟩=bE 22++(rL dn):=by
 simp[af,cX,az,aW,aY,rL,aE]
theorem Cf (dn sn tn un an kn pn:Nat):af ⟨12,dn,sn,tn,un,an,kn,pn⟩=bE 12++(32 :: Lib.decDigits kn):=by
 simp[af,cX,az,aW,aY,aE]
theorem Ce (dn sn tn un an kn pn:Nat):af ⟨13,dn,sn,tn,un,an,kn,pn⟩=bE 13++(32 :: Lib.decDigits kn):=by
 simp[af,cX,az,aW,aY,aE]
theorem Cd (dn sn tn un an kn pn:Nat):af ⟨16,dn,sn,tn,un,an,kn,pn⟩=bE 16++(((rL dn)++(32 :: Lib.decDigits an))++(rL sn)):=by
 simp[af,cX,az,aW,aY,rL,aE]
theorem Cc (dn sn tn un an kn pn:Nat):af ⟨17,dn,sn,tn,un,an,kn,pn⟩=bE 17++(((32 :: Lib.decDigits an)++(rL sn))++(rL tn)):=by
 simp[af,cX,az,aW,aY,rL,aE]
theorem Ca (dn sn tn un an kn pn:Nat):af ⟨18,dn,sn,tn,un,an,kn,pn⟩=bE 18++((((rL dn)++(32 :: Lib.decDigits an))++(rL sn))++(rL tn)):=by
 simp[af,cX,az,aW,aY,rL,aE]
theorem B9 (dn sn tn un an kn pn:Nat):af ⟨19,dn,sn,tn,un,an,kn,pn⟩=bE 19++(((((rL dn)++(32 :: Lib.decDigits an))++(rL sn))++(rL tn))++(rL un)):=by
 simp[af,cX,az,aW,aY,rL,aE]
theorem B8 (dn sn tn un an kn pn:Nat):af ⟨20,dn,sn,tn,un,an,kn,pn⟩=bE 20++((((rL dn)++(32 :: Lib.decDigits an))++(rL sn))++(32 :: Lib.decDigits kn)):=by
 simp[af,cX,az,aW,aY,rL,aE]
theorem B6 (dn sn tn un an kn pn:Nat):af ⟨23,dn,sn,tn,un,an,kn,pn⟩=bE 23++(rL sn):=by
 simp[af,cX,az,aW,aY,rL,aE]
theorem rH (i:aM)(p:Int)(h:bE i.op=[]):au i p=I:=by
 obtain⟨op,d,s,t,u,a,k,pl⟩:=i
 simp only at h
 rcases ci op with rfl|rfl|rfl|rfl|rfl|rfl|rfl|rfl|rfl|rfl|rfl|rfl|rfl|rfl|rfl|rfl|rfl|rfl|rfl|rfl|rfl | hn
 rotate_right
 ·unfold au
  rw[(dv hn).1]
  rfl
 all_goals (simp[bE] at h)
theorem rN (op d s t u a k pl p:Int)(hnm:bE op=[])(w:World):
 Calls Tryz.prog 73 #[iv ⟨op,d,s,t,u,a,k,pl⟩,.int .i64 p] w fun e w'=>e=.returned (.bool I)/\Below w.heap.size w w':=by
 have HN:=Q (fun W=>eY op W)
 rw[hnm] at HN
 clear hnm
 unfold iv
 go_enter Tryz.func73,Tryz.ntmps73
 go_wp2_with fail
 refine(HN.out _).mono ?_
 rintro e x ⟨rfl,hx⟩
 obtain⟨hJ,hb⟩:=fG hx
 clear hx
 unfold bs
 go_wp2
 go_ret
 exact⟨rfl,hb⟩
theorem rS (op d s t u a k pl p:Int)(hnm:(bE op).isEmpty=I)  (hbad:d<0\/7<d)(w:World):
 Calls Tryz.prog 73 #[iv ⟨op,d,s,t,u,a,k,pl⟩,.int .i64 p] w fun e w'=>e=.returned (.bool I)/\Below w.heap.size w w':=by
 have HN:=Q (fun W=>eY op W)
 generalize bE op=nm at *
 unfold iv
 go_enter Tryz.func73,Tryz.ntmps73
 go_wp2_with fail
 refine(HN.out _).mono ?_
 rintro e x ⟨rfl,hx⟩
 obtain⟨hJ,hb⟩:=fG hx
 clear hx
 have hlt:w.heap.size<x.heap.size:=Bk.lt hJ
 have hne:w.heap.size≠x.heap.size:=Nat.ne_of_lt hlt
 obtain⟨c0,c1,c2,c3,c4,c5,c6,c7⟩:=hJ.cells
 simp only at c0 c1 c2 c3 c4 c5 c6 c7
 unfold bs
 go_wp2_with fail
 refine(ni d hbad _).mono ?_
 rintro e w' ⟨rfl,rfl⟩
 go_wp2
 go_ret
 exact⟨rfl,hb⟩
theorem rQ (op d s t u a k pl p:Int)(hnm:(bE op).isEmpty=I)(hd:0<=d/\d<=7)(hbad:s<0\/7<s)(w:World):
 Calls Tryz.prog 73 #[iv ⟨op,d,s,t,u,a,k,pl⟩,.int .i64 p] w fun e w'=>e=.returned (.bool I)/\Below w.heap.size w w':=by
 have HN:=Q (fun W=>eY op W)
 generalize bE op=nm at *
 unfold iv
 go_enter Tryz.func73,Tryz.ntmps73
 go_wp2_with fail
 refine(HN.out _).mono ?_
 rintro e x ⟨rfl,hx⟩
 obtain⟨hJ,hb⟩:=fG hx
 clear hx
 have hlt:w.heap.size<x.heap.size:=Bk.lt hJ
 have hne:w.heap.size≠x.heap.size:=Nat.ne_of_lt hlt
 obtain⟨c0,c1,c2,c3,c4,c5,c6,c7⟩:=hJ.cells
 simp only at c0 c1 c2 c3 c4 c5 c6 c7
 unfold bs
 go_wp2_with fail
 refine(dt d hd.1 hd.2 _).mono ?_
 rintro e w' ⟨rfl,rfl⟩
 go_wp2_with fail
 refine(ni s hbad _).mono ?_
 rintro e w' ⟨rfl,rfl⟩
 go_wp2
 go_ret
 exact⟨rfl,hb⟩
theorem rP (op d s t u a k pl p:Int)(hnm:(bE op).isEmpty=I)(hd:0<=d/\d<=7)(hs:0<=s/\s<=7)(hbad:t<0\/7<t)(w:World):
 Calls Tryz.prog 73 #[iv ⟨op,d,s,t,u,a,k,pl⟩,.int .i64 p] w fun e w'=>e=.returned (.bool I)/\Below w.heap.size w w':=by
 have HN:=Q (fun W=>eY op W)
 generalize bE op=nm at *
 unfold iv
 go_enter Tryz.func73,Tryz.ntmps73
 go_wp2_with fail
 refine(HN.out _).mono ?_
 rintro e x ⟨rfl,hx⟩
 obtain⟨hJ,hb⟩:=fG hx
 clear hx
 have hlt:w.heap.size<x.heap.size:=Bk.lt hJ
 have hne:w.heap.size≠x.heap.size:=Nat.ne_of_lt hlt
 obtain⟨c0,c1,c2,c3,c4,c5,c6,c7⟩:=hJ.cells
 simp only at c0 c1 c2 c3 c4 c5 c6 c7
 unfold bs
 go_wp2_with fail
 refine(dt d hd.1 hd.2 _).mono ?_
 rintro e w' ⟨rfl,rfl⟩
 go_wp2_with fail
 refine(dt s hs.1 hs.2 _).mono ?_
 rintro e w' ⟨rfl,rfl⟩
 go_wp2_with fail
 refine(ni t hbad _).mono ?_
 rintro e w' ⟨rfl,rfl⟩
 go_wp2
 go_ret
 exact⟨rfl,hb⟩
theorem rO (op d s t u a k pl p:Int)(hnm:(bE op).isEmpty=I)(hd:0<=d/\d<=7)(hs:0<=s/\s<=7)(ht:0<=t/\t<=7)(hbad:u<0\/7<u)(w:World):
 Calls Tryz.prog 73 #[iv ⟨op,d,s,t,u,a,k,pl⟩,.int .i64 p] w fun e w'=>e=.returned (.bool I)/\Below w.heap.size w w':=by
 have HN:=Q (fun W=>eY op W)
 generalize bE op=nm at *
 unfold iv
 go_enter Tryz.func73,Tryz.ntmps73
 go_wp2_with fail
 refine(HN.out _).mono ?_
 rintro e x ⟨rfl,hx⟩
 obtain⟨hJ,hb⟩:=fG hx
 clear hx
 have hlt:w.heap.size<x.heap.size:=Bk.lt hJ
 have hne:w.heap.size≠x.heap.size:=Nat.ne_of_lt hlt
 obtain⟨c0,c1,c2,c3,c4,c5,c6,c7⟩:=hJ.cells
 simp only at c0 c1 c2 c3 c4 c5 c6 c7
 unfold bs
 go_wp2_with fail
 refine(dt d hd.1 hd.2 _).mono ?_
 rintro e w' ⟨rfl,rfl⟩
 go_wp2_with fail
 refine(dt s hs.1 hs.2 _).mono ?_
 rintro e w' ⟨rfl,rfl⟩
 go_wp2_with fail
 refine(dt t ht.1 ht.2 _).mono ?_
 rintro e w' ⟨rfl,rfl⟩
 go_wp2_with fail
 refine(ni u hbad _).mono ?_
 rintro e w' ⟨rfl,rfl⟩
 go_wp2
 go_ret
 exact⟨rfl,hb⟩
theorem rT (op d s t u a k pl p:Int)(hnm:(bE op).isEmpty=I)(hd:0<=d/\d<=7)(hs:0<=s/\s<=7)(ht:0<=t/\t<=7)(hu:0<=u/\u<=7)(hbad:a<0\/7<a)(w:World):
 Calls Tryz.prog 73 #[iv ⟨op,d,s,t,u,a,k,pl⟩,.int .i64 p] w fun e w'=>e=.returned (.bool I)/\Below w.heap.size w w':=by
 have HN:=Q (fun W=>eY op W)
 generalize bE op=nm at *
 unfold iv
 go_enter Tryz.func73,Tryz.ntmps73
 go_wp2_with fail
 refine(HN.out _).mono ?_
 rintro e x ⟨rfl,hx⟩
 obtain⟨hJ,hb⟩:=fG hx
 clear hx
 have hlt:w.heap.size<x.heap.size:=Bk.lt hJ
 have hne:w.heap.size≠x.heap.size:=Nat.ne_of_lt hlt
 obtain⟨c0,c1,c2,c3,c4,c5,c6,c7⟩:=hJ.cells
 simp only at c0 c1 c2 c3 c4 c5 c6 c7
 unfold bs
 go_wp2_with fail
 refine(dt d hd.1 hd.2 _).mono ?_
 rintro e w' ⟨rfl,rfl⟩
 go_wp2_with fail
 refine(dt s hs.1 hs.2 _).mono ?_
 rintro e w' ⟨rfl,rfl⟩
 go_wp2_with fail
 refine(dt t ht.1 ht.2 _).mono ?_
 rintro e w' ⟨rfl,rfl⟩
 go_wp2_with fail
 refine(dt u hu.1 hu.2 _).mono ?_
 rintro e w' ⟨rfl,rfl⟩
 go_wp2_with fail
 refine(ni a hbad _).mono ?_
 rintro e w' ⟨rfl,rfl⟩
 go_wp2
 go_ret
 exact⟨rfl,hb⟩
theorem Cr (i:aM)(p:Int)(k0:0<=i.k)(k1:i.k<4294967296)(w:World):
 Calls Tryz.prog 73 #[iv i,.int .i64 p] w fun e w'=>e=.returned (.bool (au i p))/\Below w.heap.size w w':=by
 by_cases hnm:bE i.op=[]
 ·rw[rH i p hnm]
  exact rN i.op i.d i.s i.t i.u i.a i.k i.pl p hnm w
 have hne:(bE i.op).isEmpty=I:=by simpa using hnm
 have no:¬ ((0<=i.d/\i.d<=7)/\(0<=i.s/\i.s<=7)/\(0<=i.t/\i.t<=7)/\(0<=i.u/\i.u<=7)/\(0<=i.a/\i.a<=7))->au i p=I:=by
  intro h
  rw[Bool.eq_false_iff]
  exact fun e=>h (eu i p e)
 obtain⟨op,d,s,t,u,a,k,pl⟩:=i
 simp only at k0 k1 hnm hne no
 by_cases hd:0<=d/\d<=7
 ·by_cases hs:0<=s/\s<=7
  ·by_cases ht:0<=t/\t<=7
   ·by_cases hu:0<=u/\u<=7
    ·by_cases ha:0<=a/\a<=7
     ·clear no
      by_cases hrRightA:op=1\/op=10\/op=11\/op=22\/op=12\/op=13\/op=23
      ·exact Aq op d s t u a k pl p hrRightA ⟨hd,hs,ht,hu,ha⟩ k0 k1 w
      by_cases hrRightC:op=2\/op=3\/op=4\/op=7
      ·exact Ao op d s t u a k pl p hrRightC ⟨hd,hs,ht,hu,ha⟩ k0 k1 w
      by_cases hrRightD:op=5\/op=6\/op=8\/op=9
      ·exact An op d s t u a k pl p hrRightD ⟨hd,hs,ht,hu,ha⟩ k0 k1 w
      by_cases hrRightF:op=16\/op=18
      ·exact Am op d s t u a k pl p hrRightF ⟨hd,hs,ht,hu,ha⟩ k0 k1 w
      by_cases hrRightG:op=17\/op=19
      ·exact Al op d s t u a k pl p hrRightG ⟨hd,hs,ht,hu,ha⟩ k0 k1 w
      by_cases hrRightB:op=20\/op=21
      ·exact Ap op d s t u a k pl p hrRightB ⟨hd,hs,ht,hu,ha⟩ k0 k1 w
      exfalso;apply hnm;exact(dv (by omega)).2
     ·rw[no (by omega)];exact rT op d s t u a k pl p hne hd hs ht hu (by omega) w
    ·rw[no (by omega)];exact rO op d s t u a k pl p hne hd hs ht (by omega) w
   ·rw[no (by omega)];exact rP op d s t u a k pl p hne hd hs (by omega) w
  ·rw[no (by omega)];exact rQ op d s t u a k pl p hne hd (by omega) w
 ·rw[no (by omega)];exact rS op d s t u a k pl p hne (by omega) w
