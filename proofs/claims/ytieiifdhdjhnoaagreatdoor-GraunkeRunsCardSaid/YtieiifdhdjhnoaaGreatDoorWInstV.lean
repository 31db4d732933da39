import Derived.Test.YtieiifdhdjhnoaaGreatDoorWInstC
import Derived.Test.YtieiifdhdjhnoaaGreatDoorWWdB
import Derived.Test.YtieiifdhdjhnoaaGreatDoorWInstSA
import Derived.Test.YtieiifdhdjhnoaaGreatDoorWInstSB
import Derived.Test.YtieiifdhdjhnoaaGreatDoorWInstSC
import Derived.Test.YtieiifdhdjhnoaaGreatDoorWInstSD
import Derived.Test.YtieiifdhdjhnoaaGreatDoorWInstSF
import Derived.Test.YtieiifdhdjhnoaaGreatDoorWInstSG
import Derived.Deep.RegionLaw
import Derived.Laws.IdiomStrings
set_option linter.unusedVariables false
set_option maxHeartbeats 2000000
set_option maxRecDepth 100000
open Bool renaming false->I
open Go.Lib renaming hid->Q
namespace Go.Proofs.YtieiifdhdjhnoaaGreatDoor
open Go.ChangeShapes Go.WideShapes Go.ChangeAt Go.RowKit
def rL (n:Nat):List UInt8:=[32,114]++Lib.decDigits n
theorem rR (n:Nat)(w:World)(hn:n<5000000000):Calls Tryz.prog 166 #[.int .i64 n] w fun e w'=>e=.returned (.string ⟨(rL n).toArray⟩)/\Below w.heap.size w w':=by
 have HI:=Q (tX n w hn)
 have hl:=cC n hn
 have hcat:=iZ [32,114] (Lib.decDigits n) (by simp;omega)
 unfold rL
 generalize Lib.decDigits n=l at *
 go_enter Tryz.func166,Tryz.ntmps166
 go_wp2_with fail
 refine HI.out.mono ?_
 rintro e y ⟨rfl,hy⟩
 unfold bs
 go_wp2
 go_ret
 exact⟨rfl,hy⟩
theorem cQ (n:Nat)(h:n<5000000000):(rL n).length<=40:=by
 have:=cC n h
 unfold rL
 simp
 omega
theorem Ed (dn sn tn un an kn pn:Nat):af ⟨1,dn,sn,tn,un,an,kn,pn⟩=bD 1++((rL dn)++(32 :: Lib.decDigits kn)):=by
 simp[af,cM,av,aQ,aZ,rL,aE]
theorem Ec (dn sn tn un an kn pn:Nat):af ⟨2,dn,sn,tn,un,an,kn,pn⟩=bD 2++((rL dn)++(rL sn)):=by
 simp[af,cM,av,aQ,aZ,rL,aE]
theorem Eb (dn sn tn un an kn pn:Nat):af ⟨3,dn,sn,tn,un,an,kn,pn⟩=bD 3++(((rL dn)++(rL sn))++(32 :: Lib.decDigits kn)):=by
 simp[af,cM,av,aQ,aZ,rL,aE]
theorem Ea (dn sn tn un an kn pn:Nat):af ⟨4,dn,sn,tn,un,an,kn,pn⟩=bD 4++(((rL dn)++(rL sn))++(32 :: Lib.decDigits kn)):=by
 simp[af,cM,av,aQ,aZ,rL,aE]
theorem D9 (dn sn tn un an kn pn:Nat):af ⟨5,dn,sn,tn,un,an,kn,pn⟩=bD 5++(((rL dn)++(rL sn))++(32 :: Lib.decDigits kn)):=by
 simp[af,cM,av,aQ,aZ,rL,aE]
theorem D8 (dn sn tn un an kn pn:Nat):af ⟨6,dn,sn,tn,un,an,kn,pn⟩=bD 6++(((rL dn)++(rL sn))++(32 :: Lib.decDigits kn)):=by
 simp[af,cM,av,aQ,aZ,rL,aE]
theorem D7 (dn sn tn un an kn pn:Nat):af ⟨7,dn,sn,tn,un,an,kn,pn⟩=bD 7++(((rL dn)++(rL sn))++(rL tn)):=by
 simp[af,cM,av,aQ,aZ,rL,aE]
theorem D6 (dn sn tn un an kn pn:Nat):af ⟨8,dn,sn,tn,un,an,kn,pn⟩=bD 8++(((rL sn)++(rL tn))++(32 :: Lib.decDigits pn)):=by
 simp[af,cM,av,aQ,aZ,rL,aE]
theorem D5 (dn sn tn un an kn pn:Nat):af ⟨9,dn,sn,tn,un,an,kn,pn⟩=bD 9++(((rL sn)++(rL tn))++(32 :: Lib.decDigits pn)):=by
 simp[af,cM,av,aQ,aZ,rL,aE]
theorem CD (dn sn tn un an kn pn:Nat):af ⟨10,dn,sn,tn,un,an,kn,pn⟩=bD 10++(32 :: Lib.decDigits pn):=by
 simp[af,cM,av,aQ,aZ,aE]
theorem CC (dn sn tn un an kn pn:Nat):af ⟨11,dn,sn,tn,un,an,kn,pn⟩=bD 11++(rL dn):=by
 simp[af,cM,av,aQ,aZ,rL,aE]
theorem Cu (dn sn tn un an kn pn:Nat):af ⟨22,dn,sn,tn,un,an,kn,pn⟩=bD 22++(rL dn):=by
 simp[af,cM,av,aQ,aZ,rL,aE]
theorem CB (dn sn tn un an kn pn:Nat):af ⟨12,dn,sn,tn,un,an,kn,pn⟩=bD 12++(32 :: Lib.decDigits kn):=by
 simp[af,cM,av,aQ,aZ,aE]
theorem CA (dn sn tn un an kn pn:Nat):af ⟨13,dn,sn,tn,un,an,kn,pn⟩=bD 13++(32 :: Lib.decDigits kn):=by
 simp[af,cM,av,aQ,aZ,aE]
theorem Cz (dn sn tn un an kn pn:Nat):af ⟨16,dn,sn,tn,un,an,kn,pn⟩=bD 16++(((rL dn)++(32 :: Lib.decDigits an))++(rL sn)):=by
 simp[af,cM,av,aQ,aZ,rL,aE]
theorem Cy (dn sn tn un an kn pn:Nat):af ⟨17,dn,sn,tn,un,an,kn,pn⟩=bD 17++(((32 :: Lib.decDigits an)++(rL sn))++(rL tn)):=by
 simp[af,cM,av,aQ,aZ,rL,aE]
theorem Cx (dn sn tn un an kn pn:Nat):af ⟨18,dn,sn,tn,un,an,kn,pn⟩=bD 18++((((rL dn)++(32 :: Lib.decDigits an))++(rL sn))++(rL tn)):=by
 simp[af,cM,av,aQ,aZ,rL,aE]
theorem Cw (dn sn tn un an kn pn:Nat):af ⟨19,dn,sn,tn,un,an,kn,pn⟩=bD 19++(((((rL dn)++(32 :: Lib.decDigits an))++(rL sn))++(rL tn))++(rL un)):=by
 simp[af,cM,av,aQ,aZ,rL,aE]
theorem Cv (dn sn tn un an kn pn:Nat):af ⟨20,dn,sn,tn,un,an,kn,pn⟩=bD 20++((((rL dn)++(32 :: Lib.decDigits an))++(rL sn))++(32 :: Lib.decDigits kn)):=by
 simp[af,cM,av,aQ,aZ,rL,aE]
theorem Ct (dn sn tn un an kn pn:Nat):af ⟨23,dn,sn,tn,un,an,kn,pn⟩=bD 23++(rL sn):=by
 simp[af,cM,av,aQ,aZ,rL,aE]
theorem se (i:aN)(p:Int)(h:bD i.op=[]):au i p=I:=by
 obtain⟨op,d,s,t,u,a,k,pl⟩:=i
 simp only at h
 rcases cq op with rfl|rfl|rfl|rfl|rfl|rfl|rfl|rfl|rfl|rfl|rfl|rfl|rfl|rfl|rfl|rfl|rfl|rfl|rfl|rfl|rfl | hn
 rotate_right
 ·unfold au
  rw[(dA hn).1]
  rfl
 all_goals (simp[bD] at h)
theorem so (op d s t u a k pl p:Int)(hnm:bD op=[])(w:World):
 Calls Tryz.prog 67 #[iv ⟨op,d,s,t,u,a,k,pl⟩,.int .i64 p] w fun e w'=>e=.returned (.bool I)/\Below w.heap.size w w':=by
 have HN:=Q (fun W=>eZ op W)
 rw[hnm] at HN
 clear hnm
 unfold iv
 go_enter Tryz.func67,Tryz.ntmps67
 go_wp2_with fail
 refine(HN.out _).mono ?_
 rintro e x ⟨rfl,hx⟩
 obtain⟨hJ,hb⟩:=fJ hx
 clear hx
 unfold bs
 go_wp2
 go_ret
 exact⟨rfl,hb⟩
theorem su (op d s t u a k pl p:Int)(hnm:(bD op).isEmpty=I)  (hbad:d<0\/7<d)(w:World):
 Calls Tryz.prog 67 #[iv ⟨op,d,s,t,u,a,k,pl⟩,.int .i64 p] w fun e w'=>e=.returned (.bool I)/\Below w.heap.size w w':=by
 have HN:=Q (fun W=>eZ op W)
 generalize bD op=nm at *
 unfold iv
 go_enter Tryz.func67,Tryz.ntmps67
 go_wp2_with fail
 refine(HN.out _).mono ?_
 rintro e x ⟨rfl,hx⟩
 obtain⟨hJ,hb⟩:=fJ hx
 clear hx
 have hlt:w.heap.size<x.heap.size:=Bk.lt hJ
 have hne:w.heap.size≠x.heap.size:=Nat.ne_of_lt hlt
 obtain⟨c0,c1,c2,c3,c4,c5,c6,c7⟩:=hJ.cells
 simp only at c0 c1 c2 c3 c4 c5 c6 c7
 unfold bs
 go_wp2_with fail
 refine(ny d hbad _).mono ?_
 rintro e w' ⟨rfl,rfl⟩
 go_wp2
 go_ret
 exact⟨rfl,hb⟩
theorem ss (op d s t u a k pl p:Int)(hnm:(bD op).isEmpty=I)(hd:0<=d/\d<=7)(hbad:s<0\/7<s)(w:World):
 Calls Tryz.prog 67 #[iv ⟨op,d,s,t,u,a,k,pl⟩,.int .i64 p] w fun e w'=>e=.returned (.bool I)/\Below w.heap.size w w':=by
 have HN:=Q (fun W=>eZ op W)
 generalize bD op=nm at *
 unfold iv
 go_enter Tryz.func67,Tryz.ntmps67
 go_wp2_with fail
 refine(HN.out _).mono ?_
 rintro e x ⟨rfl,hx⟩
 obtain⟨hJ,hb⟩:=fJ hx
 clear hx
 have hlt:w.heap.size<x.heap.size:=Bk.lt hJ
 have hne:w.heap.size≠x.heap.size:=Nat.ne_of_lt hlt
 obtain⟨c0,c1,c2,c3,c4,c5,c6,c7⟩:=hJ.cells
 simp only at c0 c1 c2 c3 c4 c5 c6 c7
 unfold bs
 go_wp2_with fail
 refine(dx d hd.1 hd.2 _).mono ?_
 rintro e w' ⟨rfl,rfl⟩
 go_wp2_with fail
 refine(ny s hbad _).mono ?_
 rintro e w' ⟨rfl,rfl⟩
 go_wp2
 go_ret
 exact⟨rfl,hb⟩
theorem sr (op d s t u a k pl p:Int)(hnm:(bD op).isEmpty=I)(hd:0<=d/\d<=7)(hs:0<=s/\s<=7)(hbad:t<0\/7<t)(w:World):
 Calls Tryz.prog 67 #[iv ⟨op,d,s,t,u,a,k,pl⟩,.int .i64 p] w fun e w'=>e=.returned (.bool I)/\Below w.heap.size w w':=by
 have HN:=Q (fun W=>eZ op W)
 generalize bD op=nm at *
 unfold iv
 go_enter Tryz.func67,Tryz.ntmps67
 go_wp2_with fail
 refine(HN.out _).mono ?_
 rintro e x ⟨rfl,hx⟩
 obtain⟨hJ,hb⟩:=fJ hx
 clear hx
 have hlt:w.heap.size<x.heap.size:=Bk.lt hJ
 have hne:w.heap.size≠x.heap.size:=Nat.ne_of_lt hlt
 obtain⟨c0,c1,c2,c3,c4,c5,c6,c7⟩:=hJ.cells
 simp only at c0 c1 c2 c3 c4 c5 c6 c7
 unfold bs
 go_wp2_with fail
 refine(dx d hd.1 hd.2 _).mono ?_
 rintro e w' ⟨rfl,rfl⟩
 go_wp2_with fail
 refine(dx s hs.1 hs.2 _).mono ?_
 rintro e w' ⟨rfl,rfl⟩
 go_wp2_with fail
 refine(ny t hbad _).mono ?_
 rintro e w' ⟨rfl,rfl⟩
 go_wp2
 go_ret
 exact⟨rfl,hb⟩
theorem sq (op d s t u a k pl p:Int)(hnm:(bD op).isEmpty=I)(hd:0<=d/\d<=7)(hs:0<=s/\s<=7)(ht:0<=t/\t<=7)(hbad:u<0\/7<u)(w:World):
 Calls Tryz.prog 67 #[iv ⟨op,d,s,t,u,a,k,pl⟩,.int .i64 p] w fun e w'=>e=.returned (.bool I)/\Below w.heap.size w w':=by
 have HN:=Q (fun W=>eZ op W)
 generalize bD op=nm at *
 unfold iv
 go_enter Tryz.func67,Tryz.ntmps67
 go_wp2_with fail
 refine(HN.out _).mono ?_
 rintro e x ⟨rfl,hx⟩
 obtain⟨hJ,hb⟩:=fJ hx
 clear hx
 have hlt:w.heap.size<x.heap.size:=Bk.lt hJ
 have hne:w.heap.size≠x.heap.size:=Nat.ne_of_lt hlt
 obtain⟨c0,c1,c2,c3,c4,c5,c6,c7⟩:=hJ.cells
 simp only at c0 c1 c2 c3 c4 c5 c6 c7
 unfold bs
 go_wp2_with fail
 refine(dx d hd.1 hd.2 _).mono ?_
 rintro e w' ⟨rfl,rfl⟩
 go_wp2_with fail
 refine(dx s hs.1 hs.2 _).mono ?_
 rintro e w' ⟨rfl,rfl⟩
 go_wp2_with fail
 refine(dx t ht.1 ht.2 _).mono ?_
 rintro e w' ⟨rfl,rfl⟩
 go_wp2_with fail
 refine(ny u hbad _).mono ?_
 rintro e w' ⟨rfl,rfl⟩
 go_wp2
 go_ret
 exact⟨rfl,hb⟩
theorem sw (op d s t u a k pl p:Int)(hnm:(bD op).isEmpty=I)(hd:0<=d/\d<=7)(hs:0<=s/\s<=7)(ht:0<=t/\t<=7)(hu:0<=u/\u<=7)(hbad:a<0\/7<a)(w:World):
 Calls Tryz.prog 67 #[iv ⟨op,d,s,t,u,a,k,pl⟩,.int .i64 p] w fun e w'=>e=.returned (.bool I)/\Below w.heap.size w w':=by
 have HN:=Q (fun W=>eZ op W)
 generalize bD op=nm at *
 unfold iv
 go_enter Tryz.func67,Tryz.ntmps67
 go_wp2_with fail
 refine(HN.out _).mono ?_
 rintro e x ⟨rfl,hx⟩
 obtain⟨hJ,hb⟩:=fJ hx
 clear hx
 have hlt:w.heap.size<x.heap.size:=Bk.lt hJ
 have hne:w.heap.size≠x.heap.size:=Nat.ne_of_lt hlt
 obtain⟨c0,c1,c2,c3,c4,c5,c6,c7⟩:=hJ.cells
 simp only at c0 c1 c2 c3 c4 c5 c6 c7
 unfold bs
 go_wp2_with fail
 refine(dx d hd.1 hd.2 _).mono ?_
 rintro e w' ⟨rfl,rfl⟩
 go_wp2_with fail
 refine(dx s hs.1 hs.2 _).mono ?_
 rintro e w' ⟨rfl,rfl⟩
 go_wp2_with fail
 refine(dx t ht.1 ht.2 _).mono ?_
 rintro e w' ⟨rfl,rfl⟩
 go_wp2_with fail
 refine(dx u hu.1 hu.2 _).mono ?_
 rintro e w' ⟨rfl,rfl⟩
 go_wp2_with fail
 refine(ny a hbad _).mono ?_
 rintro e w' ⟨rfl,rfl⟩
 go_wp2
 go_ret
 exact⟨rfl,hb⟩
theorem CL (i:aN)(p:Int)(k0:0<=i.k)(k1:i.k<4294967296)(w:World):
 Calls Tryz.prog 67 #[iv i,.int .i64 p] w fun e w'=>e=.returned (.bool (au i p))/\Below w.heap.size w w':=by
 by_cases hnm:bD i.op=[]
 ·rw[se i p hnm]
  exact so i.op i.d i.s i.t i.u i.a i.k i.pl p hnm w
 have hne:(bD i.op).isEmpty=I:=by simpa using hnm
 have no:¬ ((0<=i.d/\i.d<=7)/\(0<=i.s/\i.s<=7)/\(0<=i.t/\i.t<=7)/\(0<=i.u/\i.u<=7)/\(0<=i.a/\i.a<=7))->au i p=I:=by
  intro h
  rw[Bool.eq_false_iff]
  exact fun e=>h (eB i p e)
 obtain⟨op,d,s,t,u,a,k,pl⟩:=i
 simp only at k0 k1 hnm hne no
 by_cases hd:0<=d/\d<=7
 ·by_cases hs:0<=s/\s<=7
  ·by_cases ht:0<=t/\t<=7
   ·by_cases hu:0<=u/\u<=7
    ·by_cases ha:0<=a/\a<=7
     ·clear no
      by_cases hrRightA:op=1\/op=10\/op=11\/op=22\/op=12\/op=13\/op=23
      ·exact AH op d s t u a k pl p hrRightA ⟨hd,hs,ht,hu,ha⟩ k0 k1 w
      by_cases hrRightC:op=2\/op=3\/op=4\/op=7
      ·exact AF op d s t u a k pl p hrRightC ⟨hd,hs,ht,hu,ha⟩ k0 k1 w
      by_cases hrRightD:op=5\/op=6\/op=8\/op=9
      ·exact AE op d s t u a k pl p hrRightD ⟨hd,hs,ht,hu,ha⟩ k0 k1 w
      by_cases hrRightF:op=16\/op=18
      ·exact AC op d s t u a k pl p hrRightF ⟨hd,hs,ht,hu,ha⟩ k0 k1 w
      by_cases hrRightG:op=17\/op=19
      ·exact AB op d s t u a k pl p hrRightG ⟨hd,hs,ht,hu,ha⟩ k0 k1 w
      by_cases hrRightB:op=20\/op=21
      ·exact AG op d s t u a k pl p hrRightB ⟨hd,hs,ht,hu,ha⟩ k0 k1 w
      exfalso;apply hnm;exact(dA (by omega)).2
     ·rw[no (by omega)];exact sw op d s t u a k pl p hne hd hs ht hu (by omega) w
    ·rw[no (by omega)];exact sq op d s t u a k pl p hne hd hs ht (by omega) w
   ·rw[no (by omega)];exact sr op d s t u a k pl p hne hd hs (by omega) w
  ·rw[no (by omega)];exact ss op d s t u a k pl p hne hd (by omega) w
 ·rw[no (by omega)];exact su op d s t u a k pl p hne (by omega) w
