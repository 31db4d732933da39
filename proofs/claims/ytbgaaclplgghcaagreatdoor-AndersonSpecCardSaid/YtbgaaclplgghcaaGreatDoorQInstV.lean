import Derived.Test.YtbgaaclplgghcaaGreatDoorQInstC
import Derived.Test.YtbgaaclplgghcaaGreatDoorQInstB
import Derived.Test.YtbgaaclplgghcaaGreatDoorQInstSA
import Derived.Test.YtbgaaclplgghcaaGreatDoorQInstSB
import Derived.Test.YtbgaaclplgghcaaGreatDoorQInstSC
import Derived.Test.YtbgaaclplgghcaaGreatDoorQInstSD
import Derived.Test.YtbgaaclplgghcaaGreatDoorQInstSF
import Derived.Test.YtbgaaclplgghcaaGreatDoorQInstSG
import Derived.Deep.RegionLaw
import Derived.Laws.IdiomStrings
set_option linter.unusedVariables false
set_option maxHeartbeats 2000000
set_option maxRecDepth 100000
open Bool renaming false->I
open Go.Lib renaming hid->Q
namespace Go.Proofs.YtbgaaclplgghcaaGreatDoor
open Go.ChangeShapes Go.WideShapes Go.ChangeAt Go.RowKit
def rL (n:Nat):List UInt8:=[32,114]++Lib.decDigits n
theorem rR (n:Nat)(w:World)(hn:n<5000000000):Calls Tryz.prog 188 #[.int .i64 n] w fun e w'=>e=.returned (.string ⟨(rL n).toArray⟩)/\Below w.heap.size w w':=by
 have HI:=Q (qW n w hn)
 have hl:=cC n hn
 have hcat:=jJ [32,114] (Lib.decDigits n) (by simp;omega)
 unfold rL
 generalize Lib.decDigits n=l at *
 go_enter Tryz.func188,Tryz.ntmps188
 go_wp2_with fail
 refine HI.out.mono ?_
 rintro e y ⟨rfl,hy⟩
 unfold bs
 go_wp2
 go_ret
 exact⟨rfl,hy⟩
theorem cX (n:Nat)(h:n<5000000000):(rL n).length<=40:=by
 have:=cC n h
 unfold rL
 simp
 omega
theorem FY (dn sn tn un an kn pn:Nat):aj ⟨1,dn,sn,tn,un,an,kn,pn⟩=bG 1++((rL dn)++(32 :: Lib.decDigits kn)):=by
 simp[aj,dj,ay,aN,aZ,rL,aA]
theorem FX (dn sn tn un an kn pn:Nat):aj ⟨2,dn,sn,tn,un,an,kn,pn⟩=bG 2++((rL dn)++(rL sn)):=by
 simp[aj,dj,ay,aN,aZ,rL,aA]
theorem FW (dn sn tn un an kn pn:Nat):aj ⟨3,dn,sn,tn,un,an,kn,pn⟩=bG 3++(((rL dn)++(rL sn))++(32 :: Lib.decDigits kn)):=by
 simp[aj,dj,ay,aN,aZ,rL,aA]
theorem FV (dn sn tn un an kn pn:Nat):aj ⟨4,dn,sn,tn,un,an,kn,pn⟩=bG 4++(((rL dn)++(rL sn))++(32 :: Lib.decDigits kn)):=by
 simp[aj,dj,ay,aN,aZ,rL,aA]
theorem FT (dn sn tn un an kn pn:Nat):aj ⟨5,dn,sn,tn,un,an,kn,pn⟩=bG 5++(((rL dn)++(rL sn))++(32 :: Lib.decDigits kn)):=by
 simp[aj,dj,ay,aN,aZ,rL,aA]
theorem FS (dn sn tn un an kn pn:Nat):aj ⟨6,dn,sn,tn,un,an,kn,pn⟩=bG 6++(((rL dn)++(rL sn))++(32 :: Lib.decDigits kn)):=by
 simp[aj,dj,ay,aN,aZ,rL,aA]
theorem FR (dn sn tn un an kn pn:Nat):aj ⟨7,dn,sn,tn,un,an,kn,pn⟩=bG 7++(((rL dn)++(rL sn))++(rL tn)):=by
 simp[aj,dj,ay,aN,aZ,rL,aA]
theorem FQ (dn sn tn un an kn pn:Nat):aj ⟨8,dn,sn,tn,un,an,kn,pn⟩=bG 8++(((rL sn)++(rL tn))++(32 :: Lib.decDigits pn)):=by
 simp[aj,dj,ay,aN,aZ,rL,aA]
theorem FP (dn sn tn un an kn pn:Nat):aj ⟨9,dn,sn,tn,un,an,kn,pn⟩=bG 9++(((rL sn)++(rL tn))++(32 :: Lib.decDigits pn)):=by
 simp[aj,dj,ay,aN,aZ,rL,aA]
theorem Ew (dn sn tn un an kn pn:Nat):aj ⟨10,dn,sn,tn,un,an,kn,pn⟩=bG 10++(32 :: Lib.decDigits pn):=by
 simp[aj,dj,ay,aN,aZ,aA]
theorem Ev (dn sn tn un an kn pn:Nat):aj ⟨11,dn,sn,tn,un,an,kn,pn⟩=bG 11++(rL dn):=by
 simp[aj,dj,ay,aN,aZ,rL,aA]
theorem El (dn sn tn un an kn pn:Nat):aj ⟨22,dn,sn,tn,un,an,kn,pn⟩=bG 22++(rL dn):=by
 simp[aj,dj,ay,aN,aZ,rL,aA]
theorem Eu (dn sn tn un an kn pn:Nat):aj ⟨12,dn,sn,tn,un,an,kn,pn⟩=bG 12++(32 :: Lib.decDigits kn):=by
 simp[aj,dj,ay,aN,aZ,aA]
theorem Et (dn sn tn un an kn pn:Nat):aj ⟨13,dn,sn,tn,un,an,kn,pn⟩=bG 13++(32 :: Lib.decDigits kn):=by
 simp[aj,dj,ay,aN,aZ,aA]
theorem Es (dn sn tn un an kn pn:Nat):aj ⟨16,dn,sn,tn,un,an,kn,pn⟩=bG 16++(((rL dn)++(32 :: Lib.decDigits an))++(rL sn)):=by
 simp[aj,dj,ay,aN,aZ,rL,aA]
theorem Er (dn sn tn un an kn pn:Nat):aj ⟨17,dn,sn,tn,un,an,kn,pn⟩=bG 17++(((32 :: Lib.decDigits an)++(rL sn))++(rL tn)):=by
 simp[aj,dj,ay,aN,aZ,rL,aA]
theorem Ep (dn sn tn un an kn pn:Nat):aj ⟨18,dn,sn,tn,un,an,kn,pn⟩=bG 18++((((rL dn)++(32 :: Lib.decDigits an))++(rL sn))++(rL tn)):=by
 simp[aj,dj,ay,aN,aZ,rL,aA]
theorem Eo (dn sn tn un an kn pn:Nat):aj ⟨19,dn,sn,tn,un,an,kn,pn⟩=bG 19++(((((rL dn)++(32 :: Lib.decDigits an))++(rL sn))++(rL tn))++(rL un)):=by
 simp[aj,dj,ay,aN,aZ,rL,aA]
theorem Em (dn sn tn un an kn pn:Nat):aj ⟨20,dn,sn,tn,un,an,kn,pn⟩=bG 20++((((rL dn)++(32 :: Lib.decDigits an))++(rL sn))++(32 :: Lib.decDigits kn)):=by
 simp[aj,dj,ay,aN,aZ,rL,aA]
theorem Ek (dn sn tn un an kn pn:Nat):aj ⟨23,dn,sn,tn,un,an,kn,pn⟩=bG 23++(rL sn):=by
 simp[aj,dj,ay,aN,aZ,rL,aA]
theorem uz (i:aP)(p:Int)(h:bG i.op=[]):au i p=I:=by
 obtain⟨op,d,s,t,u,a,k,pl⟩:=i
 simp only at h
 rcases cE op with rfl|rfl|rfl|rfl|rfl|rfl|rfl|rfl|rfl|rfl|rfl|rfl|rfl|rfl|rfl|rfl|rfl|rfl|rfl|rfl|rfl | hn
 rotate_right
 ·unfold au
  rw[(dE hn).1]
  rfl
 all_goals (simp[bG] at h)
theorem uE (op d s t u a k pl p:Int)(hnm:bG op=[])(w:World):
 Calls Tryz.prog 73 #[iv ⟨op,d,s,t,u,a,k,pl⟩,.int .i64 p] w fun e w'=>e=.returned (.bool I)/\Below w.heap.size w w':=by
 have HN:=Q (fun W=>fx op W)
 rw[hnm] at HN
 clear hnm
 unfold iv
 go_enter Tryz.func73,Tryz.ntmps73
 go_wp2_with fail
 refine(HN.out _).mono ?_
 rintro e x ⟨rfl,hx⟩
 obtain⟨hJ,hb⟩:=fV hx
 clear hx
 unfold bs
 go_wp2
 go_ret
 exact⟨rfl,hb⟩
theorem uI (op d s t u a k pl p:Int)(hnm:(bG op).isEmpty=I)  (hbad:d<0\/7<d)(w:World):
 Calls Tryz.prog 73 #[iv ⟨op,d,s,t,u,a,k,pl⟩,.int .i64 p] w fun e w'=>e=.returned (.bool I)/\Below w.heap.size w w':=by
 have HN:=Q (fun W=>fx op W)
 generalize bG op=nm at *
 unfold iv
 go_enter Tryz.func73,Tryz.ntmps73
 go_wp2_with fail
 refine(HN.out _).mono ?_
 rintro e x ⟨rfl,hx⟩
 obtain⟨hJ,hb⟩:=fV hx
 clear hx
 have hlt:w.heap.size<x.heap.size:=Bk.lt hJ
 have hne:w.heap.size≠x.heap.size:=Nat.ne_of_lt hlt
 obtain⟨c0,c1,c2,c3,c4,c5,c6,c7⟩:=hJ.cells
 simp only at c0 c1 c2 c3 c4 c5 c6 c7
 unfold bs
 go_wp2_with fail
 refine(oN d hbad _).mono ?_
 rintro e w' ⟨rfl,rfl⟩
 go_wp2
 go_ret
 exact⟨rfl,hb⟩
theorem uH (op d s t u a k pl p:Int)(hnm:(bG op).isEmpty=I)(hd:0<=d/\d<=7)(hbad:s<0\/7<s)(w:World):
 Calls Tryz.prog 73 #[iv ⟨op,d,s,t,u,a,k,pl⟩,.int .i64 p] w fun e w'=>e=.returned (.bool I)/\Below w.heap.size w w':=by
 have HN:=Q (fun W=>fx op W)
 generalize bG op=nm at *
 unfold iv
 go_enter Tryz.func73,Tryz.ntmps73
 go_wp2_with fail
 refine(HN.out _).mono ?_
 rintro e x ⟨rfl,hx⟩
 obtain⟨hJ,hb⟩:=fV hx
 clear hx
 have hlt:w.heap.size<x.heap.size:=Bk.lt hJ
 have hne:w.heap.size≠x.heap.size:=Nat.ne_of_lt hlt
 obtain⟨c0,c1,c2,c3,c4,c5,c6,c7⟩:=hJ.cells
 simp only at c0 c1 c2 c3 c4 c5 c6 c7
 unfold bs
 go_wp2_with fail
 refine(dC d hd.1 hd.2 _).mono ?_
 rintro e w' ⟨rfl,rfl⟩
 go_wp2_with fail
 refine(oN s hbad _).mono ?_
 rintro e w' ⟨rfl,rfl⟩
 go_wp2
 go_ret
 exact⟨rfl,hb⟩
theorem uG (op d s t u a k pl p:Int)(hnm:(bG op).isEmpty=I)(hd:0<=d/\d<=7)(hs:0<=s/\s<=7)(hbad:t<0\/7<t)(w:World):
 Calls Tryz.prog 73 #[iv ⟨op,d,s,t,u,a,k,pl⟩,.int .i64 p] w fun e w'=>e=.returned (.bool I)/\Below w.heap.size w w':=by
 have HN:=Q (fun W=>fx op W)
 generalize bG op=nm at *
 unfold iv
 go_enter Tryz.func73,Tryz.ntmps73
 go_wp2_with fail
 refine(HN.out _).mono ?_
 rintro e x ⟨rfl,hx⟩
 obtain⟨hJ,hb⟩:=fV hx
 clear hx
 have hlt:w.heap.size<x.heap.size:=Bk.lt hJ
 have hne:w.heap.size≠x.heap.size:=Nat.ne_of_lt hlt
 obtain⟨c0,c1,c2,c3,c4,c5,c6,c7⟩:=hJ.cells
 simp only at c0 c1 c2 c3 c4 c5 c6 c7
 unfold bs
 go_wp2_with fail
 refine(dC d hd.1 hd.2 _).mono ?_
 rintro e w' ⟨rfl,rfl⟩
 go_wp2_with fail
 refine(dC s hs.1 hs.2 _).mono ?_
 rintro e w' ⟨rfl,rfl⟩
 go_wp2_with fail
 refine(oN t hbad _).mono ?_
 rintro e w' ⟨rfl,rfl⟩
 go_wp2
 go_ret
 exact⟨rfl,hb⟩
theorem uF (op d s t u a k pl p:Int)(hnm:(bG op).isEmpty=I)(hd:0<=d/\d<=7)(hs:0<=s/\s<=7)(ht:0<=t/\t<=7)(hbad:u<0\/7<u)(w:World):
 Calls Tryz.prog 73 #[iv ⟨op,d,s,t,u,a,k,pl⟩,.int .i64 p] w fun e w'=>e=.returned (.bool I)/\Below w.heap.size w w':=by
 have HN:=Q (fun W=>fx op W)
 generalize bG op=nm at *
 unfold iv
 go_enter Tryz.func73,Tryz.ntmps73
 go_wp2_with fail
 refine(HN.out _).mono ?_
 rintro e x ⟨rfl,hx⟩
 obtain⟨hJ,hb⟩:=fV hx
 clear hx
 have hlt:w.heap.size<x.heap.size:=Bk.lt hJ
 have hne:w.heap.size≠x.heap.size:=Nat.ne_of_lt hlt
 obtain⟨c0,c1,c2,c3,c4,c5,c6,c7⟩:=hJ.cells
 simp only at c0 c1 c2 c3 c4 c5 c6 c7
 unfold bs
 go_wp2_with fail
 refine(dC d hd.1 hd.2 _).mono ?_
 rintro e w' ⟨rfl,rfl⟩
 go_wp2_with fail
 refine(dC s hs.1 hs.2 _).mono ?_
 rintro e w' ⟨rfl,rfl⟩
 go_wp2_with fail
 refine(dC t ht.1 ht.2 _).mono ?_
 rintro e w' ⟨rfl,rfl⟩
 go_wp2_with fail
 refine(oN u hbad _).mono ?_
 rintro e w' ⟨rfl,rfl⟩
 go_wp2
 go_ret
 exact⟨rfl,hb⟩
theorem uJ (op d s t u a k pl p:Int)(hnm:(bG op).isEmpty=I)(hd:0<=d/\d<=7)(hs:0<=s/\s<=7)(ht:0<=t/\t<=7)(hu:0<=u/\u<=7)(hbad:a<0\/7<a)(w:World):
 Calls Tryz.prog 73 #[iv ⟨op,d,s,t,u,a,k,pl⟩,.int .i64 p] w fun e w'=>e=.returned (.bool I)/\Below w.heap.size w w':=by
 have HN:=Q (fun W=>fx op W)
 generalize bG op=nm at *
 unfold iv
 go_enter Tryz.func73,Tryz.ntmps73
 go_wp2_with fail
 refine(HN.out _).mono ?_
 rintro e x ⟨rfl,hx⟩
 obtain⟨hJ,hb⟩:=fV hx
 clear hx
 have hlt:w.heap.size<x.heap.size:=Bk.lt hJ
 have hne:w.heap.size≠x.heap.size:=Nat.ne_of_lt hlt
 obtain⟨c0,c1,c2,c3,c4,c5,c6,c7⟩:=hJ.cells
 simp only at c0 c1 c2 c3 c4 c5 c6 c7
 unfold bs
 go_wp2_with fail
 refine(dC d hd.1 hd.2 _).mono ?_
 rintro e w' ⟨rfl,rfl⟩
 go_wp2_with fail
 refine(dC s hs.1 hs.2 _).mono ?_
 rintro e w' ⟨rfl,rfl⟩
 go_wp2_with fail
 refine(dC t ht.1 ht.2 _).mono ?_
 rintro e w' ⟨rfl,rfl⟩
 go_wp2_with fail
 refine(dC u hu.1 hu.2 _).mono ?_
 rintro e w' ⟨rfl,rfl⟩
 go_wp2_with fail
 refine(oN a hbad _).mono ?_
 rintro e w' ⟨rfl,rfl⟩
 go_wp2
 go_ret
 exact⟨rfl,hb⟩
theorem Bs (i:aP)(p:Int)(k0:0<=i.k)(k1:i.k<4294967296)(w:World):
 Calls Tryz.prog 73 #[iv i,.int .i64 p] w fun e w'=>e=.returned (.bool (au i p))/\Below w.heap.size w w':=by
 by_cases hnm:bG i.op=[]
 ·rw[uz i p hnm]
  exact uE i.op i.d i.s i.t i.u i.a i.k i.pl p hnm w
 have hne:(bG i.op).isEmpty=I:=by simpa using hnm
 have no:¬ ((0<=i.d/\i.d<=7)/\(0<=i.s/\i.s<=7)/\(0<=i.t/\i.t<=7)/\(0<=i.u/\i.u<=7)/\(0<=i.a/\i.a<=7))->au i p=I:=by
  intro h
  rw[Bool.eq_false_iff]
  exact fun e=>h (eJ i p e)
 obtain⟨op,d,s,t,u,a,k,pl⟩:=i
 simp only at k0 k1 hnm hne no
 by_cases hd:0<=d/\d<=7
 ·by_cases hs:0<=s/\s<=7
  ·by_cases ht:0<=t/\t<=7
   ·by_cases hu:0<=u/\u<=7
    ·by_cases ha:0<=a/\a<=7
     ·clear no
      by_cases hrRightA:op=1\/op=10\/op=11\/op=22\/op=12\/op=13\/op=23
      ·exact CK op d s t u a k pl p hrRightA ⟨hd,hs,ht,hu,ha⟩ k0 k1 w
      by_cases hrRightC:op=2\/op=3\/op=4\/op=7
      ·exact CI op d s t u a k pl p hrRightC ⟨hd,hs,ht,hu,ha⟩ k0 k1 w
      by_cases hrRightD:op=5\/op=6\/op=8\/op=9
      ·exact CH op d s t u a k pl p hrRightD ⟨hd,hs,ht,hu,ha⟩ k0 k1 w
      by_cases hrRightF:op=16\/op=18
      ·exact CG op d s t u a k pl p hrRightF ⟨hd,hs,ht,hu,ha⟩ k0 k1 w
      by_cases hrRightG:op=17\/op=19
      ·exact CF op d s t u a k pl p hrRightG ⟨hd,hs,ht,hu,ha⟩ k0 k1 w
      by_cases hrRightB:op=20\/op=21
      ·exact CJ op d s t u a k pl p hrRightB ⟨hd,hs,ht,hu,ha⟩ k0 k1 w
      exfalso;apply hnm;exact(dE (by omega)).2
     ·rw[no (by omega)];exact uJ op d s t u a k pl p hne hd hs ht hu (by omega) w
    ·rw[no (by omega)];exact uF op d s t u a k pl p hne hd hs ht (by omega) w
   ·rw[no (by omega)];exact uG op d s t u a k pl p hne hd hs (by omega) w
  ·rw[no (by omega)];exact uH op d s t u a k pl p hne hd (by omega) w
 ·rw[no (by omega)];exact uI op d s t u a k pl p hne (by omega) w
