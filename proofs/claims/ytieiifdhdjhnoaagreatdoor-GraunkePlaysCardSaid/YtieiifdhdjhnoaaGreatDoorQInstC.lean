import Derived.Test.YtieiifdhdjhnoaaGreatDoorQInstB
import Derived.Test.YtieiifdhdjhnoaaGreatDoorQWdA
import Derived.Lib.AtoiAllCases
set_option linter.unusedVariables false
set_option maxHeartbeats 1000000
open Go.Value renaming int->I
open Go.IntKind renaming i64->Q,u32->N
open Option renaming none->O
open Bool renaming false->Z
open Go.Obj renaming cells->V
open Go.Lib renaming hid->P
open Go.RowKit.Below renaming refl->S
open Nat renaming le_refl->T,le_of_lt->R
namespace Go.Proofs.YtieiifdhdjhnoaaGreatDoor
open Go.ChangeShapes Go.WideShapes Go.ChangeAt Go.RowKit
def kL (i:aU)(l:List UInt8):List UInt8:=if i.op=21 then (if i.k=0 then [32,101,113] else [32,110,101]) else 32 :: l
def rB (i:aU)(l:List UInt8):List UInt8:=if i.op=21 then (if i.pl=-1 then [] else [32,101,108,115,101,32]++l) else 32 :: l
theorem E7 (i:aU)(l:List UInt8)(hl:l.length<100000)(w:World):
 Calls Tryz.prog 183 #[iv i,bs l] w fun e w'=>e=.returned (bs (kL i l))/\Below w.heap.size w w':=by
 obtain⟨op,d,s,t,u,a,k,pl⟩:=i
 unfold iv bs
 have E:kL ⟨op,d,s,t,u,a,k,pl⟩ l=(if op=21 then (if k=0 then [32,101,113] else [32,110,101]) else 32 :: l):=rfl
 by_cases h:op=21
 ·subst h
  by_cases hk:k=0
  ·subst hk
   have HE:=P E
   clear E
   go_enter Tryz.func183,Tryz.ntmps183
   go_wp2
   go_ret
   exact⟨bW HE.out.symm,(S _ _).alloc (T _) _⟩
  ·have hk2:(k==0)=Z:=by simpa using hk
   rw[if_pos rfl,if_neg hk] at E
   have HE:=P E
   clear E hk
   go_enter Tryz.func183,Tryz.ntmps183
   go_wp2
   go_ret
   exact⟨bW HE.out.symm,(S _ _).alloc (T _) _⟩
 ·have h1:(op != 21)=true:=by simpa using h
  have h2:(op==21)=Z:=by simpa using h
  rw[if_neg h] at E
  have HE:=P E
  have hc:=jD [32] l (by simp;omega)
  clear E h
  go_enter Tryz.func183,Tryz.ntmps183
  go_wp2
  go_ret
  exact⟨bW HE.out.symm,(S _ _).alloc (T _) _⟩
theorem vu (i:aU)(l:List UInt8)(hl:l.length<100000)(w:World):
 Calls Tryz.prog 184 #[iv i,bs l] w fun e w'=>e=.returned (bs (rB i l))/\Below w.heap.size w w':=by
 obtain⟨op,d,s,t,u,a,k,pl⟩:=i
 unfold iv bs
 have E:rB ⟨op,d,s,t,u,a,k,pl⟩ l=(if op=21 then (if pl=-1 then [] else [32,101,108,115,101,32]++l) else 32 :: l):=rfl
 by_cases h:op=21
 ·subst h
  by_cases hk:pl=-1
  ·subst hk
   have HE:=P E
   clear E
   go_enter Tryz.func184,Tryz.ntmps184
   go_wp2
   go_ret
   exact⟨bW HE.out.symm,(S _ _).alloc (T _) _⟩
  ·have hk2:(pl==-1)=Z:=by simpa using hk
   rw[if_pos rfl,if_neg hk] at E
   have HE:=P E
   have hc:=jD [32,101,108,115,101,32] l (by simp;omega)
   clear E hk
   go_enter Tryz.func184,Tryz.ntmps184
   go_wp2
   go_ret
   exact⟨bW HE.out.symm,(S _ _).alloc (T _) _⟩
 ·have h1:(op != 21)=true:=by simpa using h
  have h2:(op==21)=Z:=by simpa using h
  rw[if_neg h] at E
  have HE:=P E
  have hc:=jD [32] l (by simp;omega)
  clear E h
  go_enter Tryz.func184,Tryz.ntmps184
  go_wp2
  go_ret
  exact⟨bW HE.out.symm,(S _ _).alloc (T _) _⟩
theorem wg (i:aU)(c:Int)(hc:Dy c):aN i c=(if c=65 then 32 :: Lib.itoa (aW i c) else if c=75 then kL i (Lib.itoa (aW i c)) else if c=80 then rB i (Lib.itoa (aW i c)) else [32,114]++Lib.itoa (aW i c)):=by
 rcases hc with rfl|rfl|rfl|rfl|rfl|rfl|rfl <;> rfl
theorem tD (i:aU)(h:i.Wf)(c:Int):-9223372036854775808<=aW i c/\aW i c<=9223372036854775807:=by
 obtain⟨h1,h2,h3,h4,h5,h6,h7,h8,h9,h10,h11,h12,h13,h14,h15,h16⟩:=h
 unfold aW
 repeat' split
 all_goals omega
theorem F9 (i:aU)(h:i.Wf)(c:Int)(hc:Dy c)(w:World)(L:Lb w):
 Calls Tryz.prog 176 #[iv i,I .u8 c] w fun e w'=>e=.returned (bs (aN i c))/\Below w.heap.size w w':=by
 obtain⟨g0,g1⟩:=tD i h c
 have HG:=P (fun W=>Gu i c hc h.k0 h.k1 W)
 have hil:=oq _ g0 g1
 have HI:=P (fun W LW=>F0 (aW i c) g0 g1 W LW)
 have E:=wg i c hc
 have HK:=P (fun W=>E7 i (Lib.itoa (aW i c)) (by omega) W)
 have HP:=P (fun W=>vu i (Lib.itoa (aW i c)) (by omega) W)
 generalize Lib.itoa (aW i c)=l at *
 generalize aW i c=v at *
 have c1:=jD [32] l (by simp;omega)
 have c2:=jD [32,114] l (by simp;omega)
 have HE:=P E
 clear E
 generalize aN i c=pp at *
 obtain⟨op,d,s,t,u,a,k,pl⟩:=i
 unfold iv
 rcases hc with rfl|rfl|rfl|rfl|rfl|rfl|rfl
 all_goals
  go_enter Tryz.func176,Tryz.ntmps176
  go_wp2_with fail
  refine(HG.out _).mono ?_
  rintro e x ⟨rfl,hx⟩
  obtain⟨hIb,hb⟩:=BL hx
  have hlt:w.heap.size<x.heap.size:=Bk.lt hIb
  clear hx
  go_wp2_with fail
  refine(HI.out _ (L.below hb)).mono ?_
  rintro e y ⟨rfl,hy⟩
  replace hIb:=hIb.below hy
  replace hb:=hb.trans (hy.mono (R hlt))
  clear hy hlt
  obtain⟨c0,c1,c2,c3,c4,c5,c6,c7⟩:=hIb.cells
  simp only at c0 c1 c2 c3 c4 c5 c6 c7
  unfold bs
  first
   | (
    go_wp2_with fail
    refine(HK.out _).mono ?_
    rintro e z ⟨rfl,hz⟩
    go_wp2
    go_ret
    exact⟨by rw[HE.out];rfl,hb.trans (hz.mono hb.size)⟩)
   | (
    go_wp2_with fail
    refine(HP.out _).mono ?_
    rintro e z ⟨rfl,hz⟩
    go_wp2
    go_ret
    exact⟨by rw[HE.out];rfl,hb.trans (hz.mono hb.size)⟩)
   | (
    go_wp2
    go_ret
    exact⟨by rw[HE.out];rfl,hb⟩)
theorem pE (i:aU)(h:i.Wf)(c:Int)(hc:Dy c):(aN i c).length<=40:=by
 obtain⟨g0,g1⟩:=tD i h c
 have hl:=oq _ g0 g1
 rw[wg i c hc]
 generalize Lib.itoa (aW i c)=l at *
 unfold kL rB
 repeat' split
 all_goals (simp;try omega)
theorem kc (op:Int):(bE op).length<=5:=by
 rcases cw op with rfl|rfl|rfl|rfl|rfl|rfl|rfl|rfl|rfl|rfl|rfl|rfl|rfl|rfl|rfl|rfl|rfl|rfl|rfl|rfl|rfl | hn
 all_goals first | decide | (rw[(dB hn).2];decide)
theorem uD (i:aU)(l:List UInt8)(n:Nat)(h:n<l.length):az i (l.take (n+1))=az i (l.take n)++aN i (l.getD n 0).toNat:=by
 unfold az
 rw[List.take_succ_eq_append_getElem h,List.flatMap_append]
 simp[h]
theorem xv (i:aU)(h:i.Wf)(l:List UInt8)(hl:∀ c∈l,Dy c.toNat):(az i l).length<=40*l.length:=by
 induction l with
 | nil=>simp[az]
 | cons c l ih=>
  have h1:=ih fun c hc=>hl c (List.mem_cons_of_mem _ hc)
  have h2:=pE i h c.toNat (hl c List.mem_cons_self)
  unfold az at *
  simp only[List.flatMap_cons,List.length_append,List.length_cons]
  omega
def zh (i:aU):Value:=if au i 1073741824=true then .tuple #[bs (ah i),I Q 0] else .tuple #[bs [],I Q 1]
theorem F8 (i:aU)(h:i.Wf)(w:World)(L:Lb w):
 Calls Tryz.prog 164 #[iv i] w fun e w'=>e=.returned (zh i)/\Below w.heap.size w w':=by
 have HR:=P (fun W=>E3 i 1073741824 h.k0 h.k1 W)
 have HF:=P (zw i.op)
 have hL:=vL i.op
 have h6:=vM i.op
 have h5:=kc i.op
 have E:zh i=if au i 1073741824=true then .tuple #[bs (bE i.op++az i (cP i.op)),I Q 0] else .tuple #[bs [],I Q 1]:=rfl
 have HP:=P (fun c hc W LW=>F9 i h c hc W LW)
 have HPL:=P (fun l hl=>xv i h l hl)
 have HQL:=P (fun c hc=>pE i h c hc)
 generalize zh i=tv at *
 generalize cP i.op=hs at *
 generalize bE i.op=nm at *
 have HL:=P hL
 clear hL
 obtain⟨op,d,s,t,u,a,k,pl⟩:=i
 cases hr:au ⟨op,d,s,t,u,a,k,pl⟩ 1073741824 with
 | false=>
  rw[hr] at E HR
  have HE:=P E
  clear E hr
  unfold iv
  go_enter Tryz.func164,Tryz.ntmps164
  go_wp2_with fail
  refine(HR.out _).mono ?_
  rintro e x ⟨rfl,hx⟩
  obtain⟨hIb,hb⟩:=BL hx
  go_wp2
  go_ret2
  exact⟨by rw[HE.out];rfl,hb⟩
 | true=>
  rw[hr] at E HR
  have HE:=P E
  clear E hr
  unfold iv
  go_enter Tryz.func164,Tryz.ntmps164
  go_wp2_with fail
  refine(HR.out _).mono ?_
  rintro e x ⟨rfl,hx⟩
  obtain⟨hIb,hb⟩:=BL hx
  clear hx
  obtain⟨c0,-⟩:=hIb.cells
  simp only at c0
  go_wp2_with fail
  refine(HF.out _).mono ?_
  rintro e w' ⟨rfl,rfl⟩
  unfold bs
  go_wp2
  go_loopw [4,18] (fun tx v x=>∃ n:Nat,n<=hs.length/\v=I Q n/\tx=bs (nm++az ⟨op,d,s,t,u,a,k,pl⟩ (hs.take n))/\Below w.heap.size w x/\Ib x w.heap.size ⟨op,d,s,t,u,a,k,pl⟩) (fun _ v _=>hs.length-(intOf v).toNat)
  case atStart=>exact⟨0,Nat.zero_le _,rfl,by simp[az,bs],hb,hIb⟩
  case round=>
   clear c0
   clear hb hIb
   obtain⟨n,hn,rfl,rfl,hb,hIb⟩:=hrel
   have hlt1:w.heap.size<wr.heap.size:=Bk.lt hIb
   by_cases hlt:n<hs.length
   ·have hidx:=eO hs n hlt
    have hc:Dy ((hs.getD n 0).toNat:Int):=HL.out _ (by simp[hlt])
    have hsn:=uD ⟨op,d,s,t,u,a,k,pl⟩ hs n hlt
    have hpl:=HPL.out (hs.take n) (fun c hc=>HL.out c (List.mem_of_mem_take hc))
    have hpl2:(hs.take n).length<=6:=by simp;omega
    generalize ((hs.getD n 0).toNat:Int)=c at hidx hc hsn
    have hql:=HQL.out c hc
    generalize az ⟨op,d,s,t,u,a,k,pl⟩ (hs.take n)=ps at *
    generalize hpp:aN ⟨op,d,s,t,u,a,k,pl⟩ c=pp at *
    have hsz:¬ 9223372036854775807<(nm++ps).length+pp.length:=by simp;omega
    have hcat:=cZ (nm++ps) pp
    generalize htp:nm++ps++pp=tp at hcat
    have HTP:=P htp
    clear htp
    generalize htx:nm++ps=tx at *
    have HTX:=P htx
    clear htx
    have HPP:=P hpp
    have HSN:=P hsn
    clear hpp hsn hpl hpl2 hql
    have HP2:=P (show ∀ g:fL wr,Calls Tryz.prog 176 #[iv ⟨op,d,s,t,u,a,k,pl⟩,I .u8 c] g.x fun e w'=>e=.returned (.string ⟨pp.toArray⟩)/\Below g.x.heap.size g.x w' from fun g=>by
     have hp:=HP.out c hc g.x ((L.below hb).zG g)
     rw[HPP.out] at hp
     exact hp)
    obtain⟨g0,g1,g2,g3,g4,g5,g6,g7⟩:=hIb.zG
    simp only at g0 g1 g2 g3 g4 g5 g6 g7
    unfold bs
    go_wp2_with fail
    refine ap (by kernel_rfl) (by kernel_rfl) ?_
    repeat (go_big_quiet_step ((go_at_call 176;exact ao (HP2.out _))))
    refine wpQuiet_nil ?_
    rintro y ⟨⟨_,hy⟩,rfl⟩
    replace hb:=hb.trans (hy.mono (R hlt1))
    replace hIb:=hIb.below hy
    clear g0 g1 g2 g3 g4 g5 g6 g7 hy hidx hcat hsz HP2
    have hn1:(n:Int)+1<=6:=by omega
    go_wp2
    go_roundw
    case rel=>exact⟨n+1,by omega,by go_num,by rw[HSN.out,<-List.append_assoc,HTX.out,HTP.out],hb,hIb⟩
    case measure=>simp[intOf];omega
   ·obtain rfl:n=hs.length:=by omega
    rw[List.take_length]
    go_wp2
    go_ret2
    exact⟨by rw[HE.out];rfl,hb⟩
theorem sm (w:List UInt8)(n:Nat)(k:Int):gE w (n+1) k=if (cP k).isEmpty=Z/\bE k=w then k else gE w n (k+1):=rfl
theorem A1 (s:List UInt8)(w:World):
 Calls Tryz.prog 173 #[bs s] w fun e w'=>e=.returned (I Q (oJ s))/\w=w':=by
 have HE:=P (show oJ s=gE s 23 1 from rfl)
 generalize oJ s=r at *
 unfold bs
 go_enter Tryz.func173,Tryz.ntmps173
 go_wp2
 go_loop [3] (fun v=>∃ k:Nat,1<=k/\k<=24/\v=I Q k/\r=gE s (24-k) k) (fun v=>24-(intOf v).toNat)
 case atStart=>exact⟨1,by omega,by omega,rfl,HE.out⟩
 case round=>
  obtain⟨k,h1,h24,rfl,hr⟩:=hrel
  by_cases hk:k<=23
  ·have e1:24-k=(24-(k+1))+1:=by omega
   rw[e1,sm] at hr
   have HF:=P (zw k w)
   have hk2:(k:Int)<=23:=by omega
   have HR:=P hr
   clear hr e1
   generalize cP k=hs at *
   generalize bE k=nm at *
   go_wp2_with fail
   refine HF.out.mono ?_
   rintro e w' ⟨rfl,rfl⟩
   unfold bs
   by_cases he:hs=[]
   ·subst he
    rw[if_neg (by simp)] at HR
    go_wp2
    go_round
    case rel=>exact⟨k+1,by omega,by omega,by go_num,by rw[HR.out];rfl⟩
    case measure=>simp[intOf];omega
   have he1:hs.isEmpty=Z:=by simpa using he
   by_cases hq:nm=s
   ·subst hq
    rw[if_pos ⟨he1,rfl⟩] at HR
    have hq1:(nm==nm)=true:=by simp
    go_wp2
    go_ret
    exact⟨cr HR.out.symm,rfl⟩
   ·have hq1:(nm==s)=Z:=by simpa using hq
    rw[if_neg (fun h=>hq h.2)] at HR
    go_wp2
    go_round
    case rel=>exact⟨k+1,by omega,by omega,by go_num,by rw[HR.out];rfl⟩
    case measure=>simp[intOf];omega
  ·obtain rfl:k=24:=by omega
   go_wp2
   go_ret
   exact⟨cr rfl,rfl⟩
theorem A0 (v:Value)(ws:List (List UInt8))(n:Nat)(hn:n<100)(hw:∀ l∈ws,l.length<4294967281)(w:World)(hs:zB w v ws)(L:Lb w):
 Calls Tryz.prog 174 #[v,I Q n] w fun e w'=>e=.returned (I Q (bZ ws n))/\Below w.heap.size w w':=by
 obtain⟨g,cap,rfl,hc1,hc2,hg,hcell⟩:=hs
 by_cases hlt:n<ws.length
 ·have hx:=hcell n hlt
  have hmem:ws.getD n []∈ws:=by simp[hlt]
  have E:bZ ws n=lq (ws.getD n []):=by unfold bZ;rw[if_pos hlt]
  have hl:=hw _ hmem
  generalize ws.getD n []=l at *
  clear hmem hcell
  generalize bZ ws n=r at *
  have HT:=P (fun W=>FX l [114] W)
  have htl:(Lib.trimPrefix l [114]).length<=4294967281:=by
   unfold Lib.trimPrefix
   split
   ·simp;omega
   ·omega
  unfold bs at hx
  by_cases h1:l=[101,113]
  ·subst h1
   have HE:=P (E.trans (show lq [101,113]=0 from rfl))
   clear E
   go_enter Tryz.func174,Tryz.ntmps174
   go_wp2
   go_ret
   exact⟨cr HE.out.symm,S _ _⟩
  by_cases h2:l=[110,101]
  ·subst h2
   have HE:=P (E.trans (show lq [110,101]=1 from rfl))
   clear E
   go_enter Tryz.func174,Tryz.ntmps174
   go_wp2
   go_ret
   exact⟨cr HE.out.symm,S _ _⟩
  have b1:(l==[101,113])=Z:=by simpa using h1
  have b2:(l==[110,101])=Z:=by simpa using h2
  unfold lq at E
  rw[if_neg h1,if_neg h2] at E
  clear h1 h2
  generalize Lib.trimPrefix l [114]=tl at *
  cases ha:Lib.atoiAll tl with
  | ok x=>
   rw[ha] at E
   have HE:=P E
   have HA:=P (fun W=>CL tl (by omega) x ha W)
   clear E ha
   go_enter Tryz.func174,Tryz.ntmps174
   go_wp2_with fail
   refine(HT.out _).mono ?_
   rintro e w' ⟨rfl,rfl⟩
   go_wp2_with fail
   refine(HA.out _).mono ?_
   rintro e y ⟨rfl,hy⟩
   go_wp2
   go_ret
   exact⟨cr HE.out.symm,hy⟩
  | _=>
   rw[ha] at E
   have HE:=P E
   have HA:=P (fun W LW=>CM tl (by omega) (by rw[ha];intro v h;cases h) W LW)
   clear E ha
   go_enter Tryz.func174,Tryz.ntmps174
   go_wp2_with fail
   refine(HT.out _).mono ?_
   rintro e w' ⟨rfl,rfl⟩
   go_wp2_with fail
   refine(HA.out _ L).mono ?_
   rintro e y ⟨x,b,rfl,hy⟩
   go_wp2
   go_ret
   exact⟨cr HE.out.symm,hy⟩
 ·have E:bZ ws n=-1:=by unfold bZ;rw[if_neg hlt]
  have HE:=P E
  clear E hcell
  generalize bZ ws n=r at *
  generalize ws.length=m at *
  go_enter Tryz.func174,Tryz.ntmps174
  go_wp2
  go_ret
  exact⟨cr HE.out.symm,S _ _⟩
theorem pW (ws:List (List UInt8)):∀ (l:List UInt8) (m:Nat) (i:aU) (n:Nat),n<l.length->cf ws (l.take (n+1)) m i=cO (cf ws (l.take n) m i) (l.getD n 0).toNat (bZ ws (m+n+1))
 | [],_,_,n,h=>by simp at h
 | c :: l,m,i,0,_=>by simp[cf]
 | c :: l,m,i,n+1,h=>by
  have:=pW ws l (m+1) (cO i c.toNat (bZ ws (m+1))) n (by simpa using h)
  simp only[List.take_succ_cons,cf,List.getD_cons_succ]
  rw[this]
  congr 2
  omega
theorem wJ (ws:List (List UInt8)):∀ (l:List UInt8) (m:Nat) (i:aU),(cf ws l m i).op=i.op
 | [],_,_=>rfl
 | c :: l,m,i=>by
  rw[cf,wJ ws l]
  unfold cO
  simp only[apply_ite aU.op]
  repeat' split
  all_goals rfl
theorem E8 (v:Value)(ws:List (List UInt8))(h0:0<ws.length)(hw:∀ l∈ws,l.length<4294967281)(w:World)(hs:zB w v ws)(L:Lb w):
 Calls Tryz.prog 162 #[v] w fun e w'=>e=.returned (iv (bY ws))/\Below w.heap.size w w':=by
 have HD:=P (show bY ws=dr ws (cf ws (cP (oJ (ws.getD 0 []))) 0 { aU.zero with op:=oJ (ws.getD 0 []) }) from rfl)
 generalize bY ws=res at *
 have HV:=P (fun n hn W hS LW=>A0 v ws n hn hw W hS LW)
 have HS:=P hs
 obtain⟨g,cap,rfl,hc1,hc2,hg,hcell⟩:=hs
 have hx:=hcell 0 h0
 have HO:=P (fun W=>A1 (ws.getD 0 []) W)
 have HX:=P (show bs (ws.getD 0 [])=bs (ws.getD 0 []) from rfl)
 unfold bs at hx
 have HO2:=P (show ∀ W,Calls Tryz.prog 173 #[.string ⟨(ws.getD 0 []).toArray⟩] W fun e w'=>e=.returned (I Q (oJ (ws.getD 0 [])))/\W=w' from HO.out)
 clear HO HX
 generalize oJ (ws.getD 0 [])=op at *
 generalize (ws.getD 0 [])=w0 at *
 clear hcell
 have HF:=P (zw op)
 have hL:=vL op
 have h6:=vM op
 generalize cP op=hs at *
 generalize bE op=nm at *
 have HL:=P hL
 clear hL
 have hlen:(0:Int)<(ws.length:Int):=by omega
 go_enter Tryz.func162,Tryz.ntmps162
 go_wp2_with fail
 refine(HO2.out _).mono ?_
 rintro e w' ⟨rfl,rfl⟩
 go_wp2_with fail
 refine(HF.out _).mono ?_
 rintro e w' ⟨rfl,rfl⟩
 unfold bs
 go_wp2
 go_loopw [20] (fun v x=>∃ n:Nat,n<=hs.length/\v=I Q n/\Below w.heap.size w x/\Bk x w.heap.size 117 #[I Q 0,I Q 0,I Q 0,I Q 0,I Q 0,I Q 0,I N 0,I Q 0]/\Ib x (w.heap.size+1) (cf ws (hs.take n) 0 { aU.zero with op:=op })) (fun v _=>hs.length-(intOf v).toNat)
 case atStart=>
  refine⟨0,Nat.zero_le _,rfl,?_,?_,?_⟩
  ·exact(((S _ _).alloc (T _) _).alloc (by simp) _)
  ·exact(Bk.made _ _ _).alloc _
  ·have:=Ib.made (w.alloc (V #[I Q 0,I Q 0,I Q 0,I Q 0,I Q 0,I Q 0,I N 0,I Q 0] 117)) op 0 0 0 0 0 0 0
   rw[show (w.alloc (V #[I Q 0,I Q 0,I Q 0,I Q 0,I Q 0,I Q 0,I N 0,I Q 0] 117)).heap.size=w.heap.size+1 by simp] at this
   exact this
 case round=>
  obtain⟨n,hn,rfl,hb,hR,hZ⟩:=hrel
  generalize wr=x at *
  have hlt1:w.heap.size<x.heap.size:=Bk.lt hR
  have hlt2:w.heap.size+1<x.heap.size:=Bk.lt hZ
  by_cases hlt:n<hs.length
  ·have hidx:=eO hs n hlt
   have hc:Dy ((hs.getD n 0).toNat:Int):=HL.out _ (by simp[hlt])
   have hsn:=pW ws hs 0 { aU.zero with op:=op } n hlt
   rw[Nat.zero_add] at hsn
   generalize ((hs.getD n 0).toNat:Int)=c at hidx hc hsn
   generalize cf ws (hs.take n) 0 { aU.zero with op:=op }=z at hZ hsn
   have HSN:=P hsn
   clear hsn
   obtain⟨zop,zd,zs,zt,zu,za,zk,zpl⟩:=z
   have HV2:=P (show ∀ W,Below x.heap.size x W->Calls Tryz.prog 174 #[.slice (some ⟨g,0,O⟩) ws.length cap,I Q ((n:Int)+1)] W fun e w'=>e=.returned (I Q (bZ ws (n+1)))/\Below W.heap.size W w' from fun W hW=>by
    have hbw:=hb.trans (hW.mono (R hlt1))
    exact HV.out (n+1) (by omega) W (HS.out.below hbw) (L.below hbw))
   generalize bZ ws (n+1)=vv at *
   obtain⟨c0,c1,c2,c3,c4,c5,c6,c7⟩:=hZ.cells
   simp only at c0 c1 c2 c3 c4 c5 c6 c7
   have hw1:IntKind.i64.wrap ((n:Int)+1)=(n:Int)+1:=IntWalk.i64_in _ (by omega)
   go_wp2_with fail
   go_region_law (first | (go_simp;go_at_call 174;refine(HV2.out _ (S _ _).drew).mono ?_;rintro e y1 ⟨rfl,hy1⟩;replace hy1:=ez hy1;obtain⟨d0,d1,d2,d3,d4,d5,d6,d7⟩:=(hZ.below hy1).cells) | (go_simp;go_at_call 113;refine(Gt ⟨zop,zd,zs,zt,zu,za,zk,zpl⟩ _ vv hc _).mono ?_;rintro e y ⟨rfl,hy⟩;replace hy:=hy1.trans (hy.mono hy1.size);obtain⟨e0,e1,e2,e3,e4,e5,e6,e7⟩:=(hZ.below hy).cells;have hf:=Bk.free (hZ.below hy);generalize hz2:cO ⟨zop,zd,zs,zt,zu,za,zk,zpl⟩ c vv=z2;have HZ2:=P hz2;clear hz2;obtain⟨yop,yd,ys,yt,yu,ya,yk,ypl⟩:=z2;unfold iv))
   all_goals
    generalize hv:((((((((y.setCell ⟨w.heap.size+1,0,O⟩ (I Q yop)).setCell ⟨w.heap.size+1,1,O⟩ (I Q yd)).setCell ⟨w.heap.size+1,2,O⟩ (I Q ys)).setCell ⟨w.heap.size+1,3,O⟩ (I Q yt)).setCell ⟨w.heap.size+1,4,O⟩ (I Q yu)).setCell ⟨w.heap.size+1,5,O⟩ (I Q ya)).setCell ⟨w.heap.size+1,6,O⟩ (I N yk)).setCell ⟨w.heap.size+1,7,O⟩ (I Q ypl))=v
    have hv2:fN y (w.heap.size+1) ⟨yop,yd,ys,yt,yu,ya,yk,ypl⟩=v:=hv
    clear hv
    have hA:=em (i:=⟨yop,yd,ys,yt,yu,ya,yk,ypl⟩) (hZ.below hy)
    have hB:=kJ (i:=⟨yop,yd,ys,yt,yu,ya,yk,ypl⟩) ((hy.block w.heap.size hlt1).trans hR:Bk y w.heap.size 117 _) (show w.heap.size≠w.heap.size+1 by omega)
    have hC:=aZ (i:=⟨yop,yd,ys,yt,yu,ya,yk,ypl⟩) (hb.trans (hy.mono (R hlt1))) (show w.heap.size<=w.heap.size+1 by omega)
    rw[hv2] at hA hB hC
    clear hv2 d0 d1 d2 d3 d4 d5 d6 d7 e0 e1 e2 e3 e4 e5 e6 e7 hf c0 c1 c2 c3 c4 c5 c6 c7 hidx hw1
    have hn1:(n:Int)+1<=6:=by omega
    go_wp2
    go_roundw
    case rel=>exact⟨n+1,by omega,by go_num,hC,hB,by rw[HSN.out,HZ2.out];exact hA⟩
    case measure=>simp[intOf];omega
  ·obtain rfl:n=hs.length:=by omega
   rw[List.take_length] at hZ
   have hop:=wJ ws hs 0 { aU.zero with op:=op }
   have HD2:=P HD.out
   generalize cf ws hs 0 { aU.zero with op:=op }=z at hZ hop HD2
   obtain⟨zop,zd,zs,zt,zu,za,zk,zpl⟩:=z
   simp only at hop
   obtain⟨c0,c1,c2,c3,c4,c5,c6,c7⟩:=hZ.cells
   simp only at c0 c1 c2 c3 c4 c5 c6 c7
   subst hop
   by_cases h21:zop=21
   ·subst h21
    have HV2:=P (HV.out 7 (by omega) x (HS.out.below hb) (L.below hb))
    generalize hvv:bZ ws 7=vv at *
    have E2:=P (HD2.out.trans (show dr ws ⟨21,zd,zs,zt,zu,za,zk,zpl⟩=⟨21,zd,zs,zt,zu,za,zk,vv⟩ by unfold dr;simp[hvv]))
    clear hvv
    go_wp2_with fail
    refine HV2.out.mono ?_
    rintro e y ⟨rfl,hy⟩
    obtain⟨d0,d1,d2,d3,d4,d5,d6,d7⟩:=(hZ.below hy).cells
    have hf:=Bk.free (hZ.below hy)
    have hRy:Ib y w.heap.size aU.zero:=(hy.block w.heap.size hlt1).trans hR
    obtain⟨r0,r1,r2,r3,r4,r5,r6,r7⟩:=hRy.cells
    have hfR:=Bk.free hRy
    go_wp2
    generalize hv:(((((((((y.setCell ⟨w.heap.size+1,7,O⟩ (I Q vv)).setCell ⟨w.heap.size,0,O⟩ (I Q 21)).setCell ⟨w.heap.size,1,O⟩ (I Q zd)).setCell ⟨w.heap.size,2,O⟩ (I Q zs)).setCell ⟨w.heap.size,3,O⟩ (I Q zt)).setCell ⟨w.heap.size,4,O⟩ (I Q zu)).setCell ⟨w.heap.size,5,O⟩ (I Q za)).setCell ⟨w.heap.size,6,O⟩ (I N zk)).setCell ⟨w.heap.size,7,O⟩ (I Q vv))=v
    have hv2:fN (y.setCell ⟨w.heap.size+1,7,O⟩ (I Q vv)) w.heap.size ⟨21,zd,zs,zt,zu,za,zk,vv⟩=v:=hv
    clear hv
    have hA:=em (i:=⟨21,zd,zs,zt,zu,za,zk,vv⟩) (show Ib (y.setCell ⟨w.heap.size+1,7,O⟩ (I Q vv)) w.heap.size aU.zero from Bk.off hRy (show w.heap.size≠w.heap.size+1 by omega) _)
    have hC:=aZ (i:=⟨21,zd,zs,zt,zu,za,zk,vv⟩) ((hb.trans (hy.mono (R hlt1))).setCell (p:=⟨w.heap.size+1,7,O⟩) (show w.heap.size<=w.heap.size+1 by omega) (I Q vv)) (T _)
    rw[hv2] at hA hC
    clear hv2
    obtain⟨q0,q1,q2,q3,q4,q5,q6,q7⟩:=hA.cells
    simp only at q0 q1 q2 q3 q4 q5 q6 q7
    refine bodyPost_ret (v:=.agg #[I Q 21,I Q zd,I Q zs,I Q zt,I Q zu,I Q za,I N zk,I Q vv]) (by simp[results,Tryz.results162,go_sem,q0,q1,q2,q3,q4,q5,q6,q7]) rfl ⟨by rw[E2.out];rfl,hC⟩
   ·have b21:(zop==21)=Z:=by simpa using h21
    have E2:=P (HD2.out.trans (show dr ws ⟨zop,zd,zs,zt,zu,za,zk,zpl⟩=⟨zop,zd,zs,zt,zu,za,zk,zpl⟩ by unfold dr;rw[if_neg h21]))
    have hRy:Ib x w.heap.size aU.zero:=hR
    obtain⟨r0,r1,r2,r3,r4,r5,r6,r7⟩:=hRy.cells
    have hfR:=Bk.free hRy
    clear h21
    go_wp2
    generalize hv:((((((((x.setCell ⟨w.heap.size,0,O⟩ (I Q zop)).setCell ⟨w.heap.size,1,O⟩ (I Q zd)).setCell ⟨w.heap.size,2,O⟩ (I Q zs)).setCell ⟨w.heap.size,3,O⟩ (I Q zt)).setCell ⟨w.heap.size,4,O⟩ (I Q zu)).setCell ⟨w.heap.size,5,O⟩ (I Q za)).setCell ⟨w.heap.size,6,O⟩ (I N zk)).setCell ⟨w.heap.size,7,O⟩ (I Q zpl))=v
    have hv2:fN x w.heap.size ⟨zop,zd,zs,zt,zu,za,zk,zpl⟩=v:=hv
    clear hv
    have hA:=em (i:=⟨zop,zd,zs,zt,zu,za,zk,zpl⟩) hRy
    have hC:=aZ (i:=⟨zop,zd,zs,zt,zu,za,zk,zpl⟩) hb (T _)
    rw[hv2] at hA hC
    clear hv2
    obtain⟨q0,q1,q2,q3,q4,q5,q6,q7⟩:=hA.cells
    simp only at q0 q1 q2 q3 q4 q5 q6 q7
    refine bodyPost_ret (v:=.agg #[I Q zop,I Q zd,I Q zs,I Q zt,I Q zu,I Q za,I N zk,I Q zpl]) (by simp[results,Tryz.results162,go_sem,q0,q1,q2,q3,q4,q5,q6,q7]) rfl ⟨by rw[E2.out];rfl,hC⟩
theorem ug (sep:List UInt8):∀ (k:Nat) (s:List UInt8),0<(Lib.splitK sep 0 k s).length
 | 0,_=>by simp[Lib.splitK]
 | k+1,s=>by unfold Lib.splitK;split <;> simp
theorem pt (sep:List UInt8):∀ (k:Nat) (s:List UInt8),∀ l∈Lib.splitK sep 0 k s,l.length<=s.length
 | 0,s,l,h=>by simp[Lib.splitK] at h;subst h;exact T _
 | k+1,s,l,h=>by
  unfold Lib.splitK at h
  split at h
  ·simp at h;subst h;exact T _
  ·rcases List.mem_cons.1 h with rfl | h
   ·simp;omega
   ·have:=pt sep k _ l h
    simp at this
    omega
theorem B2 (l:List UInt8):-9223372036854775808<=lq l/\lq l<=9223372036854775807:=by
 unfold lq
 split
 ·omega
 split
 ·omega
 split
 ·rename_i v h;exact Lib.atoiAll_bounds h
 ·omega
theorem nT (ws:List (List UInt8))(n:Nat):-9223372036854775808<=bZ ws n/\bZ ws n<=9223372036854775807:=by
 unfold bZ
 split
 ·exact B2 _
 ·omega
theorem Ek (i:aU)(h:i.Wf)(c v:Int)(h0:-9223372036854775808<=v)(h1:v<=9223372036854775807):(cO i c v).Wf:=by
 obtain⟨a1,a2,a3,a4,a5,a6,a7,a8,a9,a10,a11,a12,a13,a14,a15,a16⟩:=h
 have hm0:0<=v % 4294967296:=by omega
 have hm1:v % 4294967296<4294967296:=by omega
 unfold cO
 by_cases c1:c=68
 ·rw[if_pos c1];constructor <;> assumption
 rw[if_neg c1]
 by_cases c2:c=83
 ·rw[if_pos c2];constructor <;> assumption
 rw[if_neg c2]
 by_cases c3:c=84
 ·rw[if_pos c3];constructor <;> assumption
 rw[if_neg c3]
 by_cases c4:c=85
 ·rw[if_pos c4];constructor <;> assumption
 rw[if_neg c4]
 by_cases c5:c=65
 ·rw[if_pos c5];constructor <;> assumption
 rw[if_neg c5]
 by_cases c6:c=75
 ·rw[if_pos c6];constructor <;> assumption
 rw[if_neg c6]
 by_cases c7:c=80
 ·rw[if_pos c7];constructor <;> assumption
 rw[if_neg c7];constructor <;> assumption
theorem wI (ws:List (List UInt8)):∀ (l:List UInt8) (m:Nat) (i:aU),i.Wf->(cf ws l m i).Wf
 | [],_,_,h=>h
 | c :: l,m,i,h=>by
  rw[cf]
  exact wI ws l _ _ (Ek i h _ _ (nT ws _).1 (nT ws _).2)
theorem pH (s:List UInt8):∀ (n:Nat) (k:Int),0<=k->0<=gE s n k/\gE s n k<=k+n
 | 0,k,h=>by unfold gE;omega
 | n+1,k,h=>by
  unfold gE
  split
  ·omega
  ·have:=pH s n (k+1) (by omega)
   omega
theorem tI (ws:List (List UInt8)):(bY ws).Wf:=by
 unfold bY dr
 have h1:=pH (ws.getD 0 []) 23 1 (by omega)
 have h2:oJ (ws.getD 0 [])=gE (ws.getD 0 []) 23 1:=rfl
 generalize oJ (ws.getD 0 [])=op at *
 have hw:(cf ws (cP op) 0 { aU.zero with op:=op }).Wf:=wI ws _ _ _ (by unfold aU.zero;constructor <;> simp <;> omega)
 generalize cf ws (cP op) 0 { aU.zero with op:=op }=i at *
 split
 ·obtain⟨a1,a2,a3,a4,a5,a6,a7,a8,a9,a10,a11,a12,a13,a14,a15,a16⟩:=hw
  have hv:=nT ws 7
  obtain⟨v0,v1⟩:=hv
  constructor <;> assumption
 ·exact hw
def aA (s:List UInt8):aU:=bY (fE s)
def j9 (s:List UInt8):Bool:=au (aA s) 1073741824 && decide (ah (aA s)=s)
def oI (s:List UInt8):Value:=if j9 s=true then .tuple #[iv (aA s),I Q 0] else .tuple #[iv aU.zero,I Q 8]
theorem Bz (s:List UInt8)(hl:s.length<4294967281)(w:World)(L:Lb w):
 Calls Tryz.prog 141 #[bs s] w fun e w'=>e=.returned (oI s)/\Below w.heap.size w w':=by
 have HS:=P (fun W LW=>EG s hl W LW)
 have h0:0<(fE s).length:=ug _ _ _
 have hw:∀ l∈fE s,l.length<4294967281:=fun l h=>Nat.lt_of_le_of_lt (pt _ _ _ l h) hl
 have HD:=P (fun v W hS LW=>E8 v (fE s) h0 hw W hS LW)
 have HT:=P (fun W LW=>F8 (aA s) (tI _) W LW)
 have E:oI s=if (au (aA s) 1073741824 && decide (ah (aA s)=s))=true then .tuple #[iv (aA s),I Q 0] else .tuple #[iv aU.zero,I Q 8]:=rfl
 have HD2:=P (show ∀ v W,zB W v (fE s)->Lb W->Calls Tryz.prog 162 #[v] W fun e w'=>e=.returned (iv (aA s))/\Below W.heap.size W w' from HD.out)
 clear HD h0 hw
 generalize oI s=res at *
 generalize aA s=i at *
 have HE:=P E
 clear E
 obtain⟨op,d,s',t,u,a,k,pl⟩:=i
 unfold bs
 go_enter Tryz.func141,Tryz.ntmps141
 go_wp2_with fail
 have b1:Below w.heap.size w (w.alloc (V #[I Q 0,I Q 0,I Q 0,I Q 0,I Q 0,I Q 0,I N 0,I Q 0] 117)):=(S _ _).alloc (T _) _
 have m1:Ib (w.alloc (V #[I Q 0,I Q 0,I Q 0,I Q 0,I Q 0,I Q 0,I N 0,I Q 0] 117)) w.heap.size aU.zero:=Bk.made _ _ _
 generalize w.alloc (V #[I Q 0,I Q 0,I Q 0,I Q 0,I Q 0,I Q 0,I N 0,I Q 0] 117)=x1 at *
 refine(HS.out x1 (L.below b1)).mono ?_
 rintro e x2 ⟨v,rfl,hS,b2⟩
 replace m1:=m1.below b2
 replace b2:=b1.trans (b2.mono b1.size)
 clear b1
 go_wp2_with fail
 refine(HD2.out v _ hS (L.below b2)).mono ?_
 rintro e x3 ⟨rfl,b3⟩
 replace m1:=m1.below b3
 replace b3:=b2.trans (b3.mono b2.size)
 clear b2 hS x2 x1
 unfold iv
 go_wp2_with fail
 have b4:Below w.heap.size w (x3.alloc (V #[I Q op,I Q d,I Q s',I Q t,I Q u,I Q a,I N k,I Q pl] 117)):=b3.alloc b3.size _
 have m2:=Ib.made x3 op d s' t u a k pl
 have m3:Ib (x3.alloc (V #[I Q op,I Q d,I Q s',I Q t,I Q u,I Q a,I N k,I Q pl] 117)) w.heap.size aU.zero:=Bk.alloc m1 _
 have hne:w.heap.size≠x3.heap.size:=Nat.ne_of_lt (Bk.lt m1)
 clear m1 b3
 generalize x3.heap.size=g at *
 generalize x3.alloc (V #[I Q op,I Q d,I Q s',I Q t,I Q u,I Q a,I N k,I Q pl] 117)=x4 at *
 refine(HT.out x4 (L.below b4)).mono ?_
 rintro e y ⟨rfl,hy⟩
 replace m2:=m2.below hy
 replace m3:=m3.below hy
 replace b4:=b4.trans (hy.mono b4.size)
 clear hy x4 HT HD2 HS
 obtain⟨c0,c1,c2,c3,c4,c5,c6,c7⟩:=m2.cells
 obtain⟨r0,r1,r2,r3,r4,r5,r6,r7⟩:=m3.cells
 have hfR:=Bk.free m3
 simp only at c0 c1 c2 c3 c4 c5 c6 c7
 unfold aU.zero at r0 r1 r2 r3 r4 r5 r6 r7
 simp only at r0 r1 r2 r3 r4 r5 r6 r7
 unfold zh
 cases hr:au ⟨op,d,s',t,u,a,k,pl⟩ 1073741824 with
 | false=>
  rw[hr] at HE
  clear hr
  rw[if_neg (by decide)]
  unfold bs
  go_wp2
  generalize hv:((((((((y.setCell ⟨w.heap.size,0,O⟩ (I Q 0)).setCell ⟨w.heap.size,1,O⟩ (I Q 0)).setCell ⟨w.heap.size,2,O⟩ (I Q 0)).setCell ⟨w.heap.size,3,O⟩ (I Q 0)).setCell ⟨w.heap.size,4,O⟩ (I Q 0)).setCell ⟨w.heap.size,5,O⟩ (I Q 0)).setCell ⟨w.heap.size,6,O⟩ (I N 0)).setCell ⟨w.heap.size,7,O⟩ (I Q 0))=v9
  have hv2:fN y w.heap.size ⟨0,0,0,0,0,0,0,0⟩=v9:=hv
  clear hv
  have hA:=em (i:=⟨0,0,0,0,0,0,0,0⟩) m3
  have hC:=aZ (i:=⟨0,0,0,0,0,0,0,0⟩) b4 (T _)
  rw[hv2] at hA hC
  clear hv2
  obtain⟨q0,q1,q2,q3,q4,q5,q6,q7⟩:=hA.cells
  simp only at q0 q1 q2 q3 q4 q5 q6 q7
  refine bodyPost_ret (v:=.tuple #[.agg #[I Q 0,I Q 0,I Q 0,I Q 0,I Q 0,I Q 0,I N 0,I Q 0],I Q 8]) (by simp[results,Tryz.results141,go_sem,q0,q1,q2,q3,q4,q5,q6,q7]) rfl ⟨?_,hC⟩
  rw[HE.out];rfl
 | true=>
  rw[hr] at HE
  clear hr
  rw[if_pos rfl]
  generalize ah ⟨op,d,s',t,u,a,k,pl⟩=tx at *
  unfold bs
  by_cases hq:tx=s
  ·subst hq
   have hq1:(tx==tx)=true:=by simp
   have HE2:=P (HE.out.trans (if_pos (by simp)))
   clear HE
   go_wp2
   generalize hv:((((((((y.setCell ⟨w.heap.size,0,O⟩ (I Q op)).setCell ⟨w.heap.size,1,O⟩ (I Q d)).setCell ⟨w.heap.size,2,O⟩ (I Q s')).setCell ⟨w.heap.size,3,O⟩ (I Q t)).setCell ⟨w.heap.size,4,O⟩ (I Q u)).setCell ⟨w.heap.size,5,O⟩ (I Q a)).setCell ⟨w.heap.size,6,O⟩ (I N k)).setCell ⟨w.heap.size,7,O⟩ (I Q pl))=v9
   have hv2:fN y w.heap.size ⟨op,d,s',t,u,a,k,pl⟩=v9:=hv
   clear hv
   have hA:=em (i:=⟨op,d,s',t,u,a,k,pl⟩) m3
   have hC:=aZ (i:=⟨op,d,s',t,u,a,k,pl⟩) b4 (T _)
   rw[hv2] at hA hC
   clear hv2
   obtain⟨q0,q1,q2,q3,q4,q5,q6,q7⟩:=hA.cells
   simp only at q0 q1 q2 q3 q4 q5 q6 q7
   refine bodyPost_ret (v:=.tuple #[.agg #[I Q op,I Q d,I Q s',I Q t,I Q u,I Q a,I N k,I Q pl],I Q 0]) (by simp[results,Tryz.results141,go_sem,q0,q1,q2,q3,q4,q5,q6,q7]) rfl ⟨?_,hC⟩
   rw[HE2.out];rfl
  ·have hq1:(tx==s)=Z:=by simpa using hq
   have HE2:=P (HE.out.trans (if_neg (by simp[hq])))
   clear HE hq
   go_wp2
   generalize hv:((((((((y.setCell ⟨w.heap.size,0,O⟩ (I Q 0)).setCell ⟨w.heap.size,1,O⟩ (I Q 0)).setCell ⟨w.heap.size,2,O⟩ (I Q 0)).setCell ⟨w.heap.size,3,O⟩ (I Q 0)).setCell ⟨w.heap.size,4,O⟩ (I Q 0)).setCell ⟨w.heap.size,5,O⟩ (I Q 0)).setCell ⟨w.heap.size,6,O⟩ (I N 0)).setCell ⟨w.heap.size,7,O⟩ (I Q 0))=v9
   have hv2:fN y w.heap.size ⟨0,0,0,0,0,0,0,0⟩=v9:=hv
   clear hv
   have hA:=em (i:=⟨0,0,0,0,0,0,0,0⟩) m3
   have hC:=aZ (i:=⟨0,0,0,0,0,0,0,0⟩) b4 (T _)
   rw[hv2] at hA hC
   clear hv2
   obtain⟨q0,q1,q2,q3,q4,q5,q6,q7⟩:=hA.cells
   simp only at q0 q1 q2 q3 q4 q5 q6 q7
   refine bodyPost_ret (v:=.tuple #[.agg #[I Q 0,I Q 0,I Q 0,I Q 0,I Q 0,I Q 0,I N 0,I Q 0],I Q 8]) (by simp[results,Tryz.results141,go_sem,q0,q1,q2,q3,q4,q5,q6,q7]) rfl ⟨?_,hC⟩
   rw[HE2.out];rfl
