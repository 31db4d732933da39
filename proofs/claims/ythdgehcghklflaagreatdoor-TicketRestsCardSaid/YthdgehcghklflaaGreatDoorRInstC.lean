import Derived.Test.YthdgehcghklflaaGreatDoorRPrgM
import Derived.Test.YthdgehcghklflaaGreatDoorRWdA
import Derived.Lib.AtoiAllCases
set_option linter.unusedVariables false
namespace Go.Proofs.YthdgehcghklflaaGreatDoor
open Go.ChangeShapes Go.WideShapes Go.ChangeAt Go.RowKit
def kL (i:Ins)(l:List UInt8):List UInt8:=if i.op=21 then (if i.k=0 then [32,101,113] else [32,110,101]) else 32 :: l
def placeS (i:Ins)(l:List UInt8):List UInt8:=if i.op=21 then (if i.pl=-1 then [] else [32,101,108,115,101,32]++l) else 32 :: l
theorem cPartK (i:Ins)(l:List UInt8)(hl:l.length < 100000)(w:World):
 Calls Tryz.prog 182 #[iv i,bs l] w fun e w'=>e=.returned (bs (kL i l))∧Below w.heap.size w w':=by
 obtain⟨op,d,s,t,u,a,k,pl⟩:=i
 unfold iv bs
 have E:kL ⟨op,d,s,t,u,a,k,pl⟩ l=(if op=21 then (if k=0 then [32,101,113] else [32,110,101]) else 32 :: l):=rfl
 by_cases h:op=21
 ·subst h
  by_cases hk:k=0
  ·subst hk
   have HE:=Lib.hid E
   clear E
   go_enter Tryz.func182,Tryz.ntmps182
   go_wp2
   go_ret
   exact⟨ret_bs HE.out.symm,(Below.refl _ _).alloc (Nat.le_refl _) _⟩
  ·have hk2:(k==0)=false:=by simpa using hk
   rw[if_pos rfl,if_neg hk] at E
   have HE:=Lib.hid E
   clear E hk
   go_enter Tryz.func182,Tryz.ntmps182
   go_wp2
   go_ret
   exact⟨ret_bs HE.out.symm,(Below.refl _ _).alloc (Nat.le_refl _) _⟩
 ·have h1:(op != 21)=true:=by simpa using h
  have h2:(op==21)=false:=by simpa using h
  rw[if_neg h] at E
  have HE:=Lib.hid E
  have hc:=run_cat [32] l (by simp;omega)
  clear E h
  go_enter Tryz.func182,Tryz.ntmps182
  go_wp2
  go_ret
  exact⟨ret_bs HE.out.symm,(Below.refl _ _).alloc (Nat.le_refl _) _⟩
theorem cPartPlace (i:Ins)(l:List UInt8)(hl:l.length < 100000)(w:World):
 Calls Tryz.prog 183 #[iv i,bs l] w fun e w'=>e=.returned (bs (placeS i l))∧Below w.heap.size w w':=by
 obtain⟨op,d,s,t,u,a,k,pl⟩:=i
 unfold iv bs
 have E:placeS ⟨op,d,s,t,u,a,k,pl⟩ l=(if op=21 then (if pl=-1 then [] else [32,101,108,115,101,32]++l) else 32 :: l):=rfl
 by_cases h:op=21
 ·subst h
  by_cases hk:pl=-1
  ·subst hk
   have HE:=Lib.hid E
   clear E
   go_enter Tryz.func183,Tryz.ntmps183
   go_wp2
   go_ret
   exact⟨ret_bs HE.out.symm,(Below.refl _ _).alloc (Nat.le_refl _) _⟩
  ·have hk2:(pl==-1)=false:=by simpa using hk
   rw[if_pos rfl,if_neg hk] at E
   have HE:=Lib.hid E
   have hc:=run_cat [32,101,108,115,101,32] l (by simp;omega)
   clear E hk
   go_enter Tryz.func183,Tryz.ntmps183
   go_wp2
   go_ret
   exact⟨ret_bs HE.out.symm,(Below.refl _ _).alloc (Nat.le_refl _) _⟩
 ·have h1:(op != 21)=true:=by simpa using h
  have h2:(op==21)=false:=by simpa using h
  rw[if_neg h] at E
  have HE:=Lib.hid E
  have hc:=run_cat [32] l (by simp;omega)
  clear E h
  go_enter Tryz.func183,Tryz.ntmps183
  go_wp2
  go_ret
  exact⟨ret_bs HE.out.symm,(Below.refl _ _).alloc (Nat.le_refl _) _⟩
theorem part_eq (i:Ins)(c:Int)(hc:Ltr c):partL i c=(if c=65 then 32 :: Lib.itoa (getI i c) else if c=75 then kL i (Lib.itoa (getI i c)) else if c=80 then placeS i (Lib.itoa (getI i c)) else [32,114]++Lib.itoa (getI i c)):=by
 rcases hc with rfl | rfl | rfl | rfl | rfl | rfl | rfl <;> rfl
theorem get_fits (i:Ins)(h:i.Wf)(c:Int):-9223372036854775808≤getI i c∧getI i c≤9223372036854775807:=by
 obtain⟨h1,h2,h3,h4,h5,h6,h7,h8,h9,h10,h11,h12,h13,h14,h15,h16⟩:=h
 unfold getI
 repeat' split
 all_goals omega
theorem cPart (i:Ins)(h:i.Wf)(c:Int)(hc:Ltr c)(w:World)(L:Lb w):
 Calls Tryz.prog 175 #[iv i,.int .u8 c] w fun e w'=>e=.returned (bs (partL i c))∧Below w.heap.size w w':=by
 obtain⟨g0,g1⟩:=get_fits i h c
 have HG:=Lib.hid (fun W=>cGet i c hc h.k0 h.k1 W)
 have hil:=itoa_len _ g0 g1
 have HI:=Lib.hid (fun W LW=>lItoa (getI i c) g0 g1 W LW)
 have E:=part_eq i c hc
 have HK:=Lib.hid (fun W=>cPartK i (Lib.itoa (getI i c)) (by omega) W)
 have HP:=Lib.hid (fun W=>cPartPlace i (Lib.itoa (getI i c)) (by omega) W)
 generalize Lib.itoa (getI i c)=l at *
 generalize getI i c=v at *
 have c1:=run_cat [32] l (by simp;omega)
 have c2:=run_cat [32,114] l (by simp;omega)
 have HE:=Lib.hid E
 clear E
 generalize partL i c=pp at *
 obtain⟨op,d,s,t,u,a,k,pl⟩:=i
 unfold iv
 rcases hc with rfl | rfl | rfl | rfl | rfl | rfl | rfl
 all_goals
  go_enter Tryz.func175,Tryz.ntmps175
  go_wp2_with fail
  refine(HG.out _).mono ?_
  rintro e x ⟨rfl,hx⟩
  obtain⟨hIb,hb⟩:=boxed hx
  have hlt:w.heap.size < x.heap.size:=Bk.lt hIb
  clear hx
  go_wp2_with fail
  refine(HI.out _ (L.below hb)).mono ?_
  rintro e y ⟨rfl,hy⟩
  replace hIb:=hIb.below hy
  replace hb:=hb.trans (hy.mono (Nat.le_of_lt hlt))
  clear hy hlt
  obtain⟨c0,c1,c2,c3,c4,c5,c6,c7⟩:=hIb.cells
  simp only at c0 c1 c2 c3 c4 c5 c6 c7
  unfold bs
  first
   | (
    go_wp2_with fail
    refine(HK.out _).mono ?_
    rintro e z ⟨rfl,hz⟩
    go_wp2
    go_ret
    exact⟨by rw[HE.out];rfl,hb.trans (hz.mono hb.size)⟩)
   | (
    go_wp2_with fail
    refine(HP.out _).mono ?_
    rintro e z ⟨rfl,hz⟩
    go_wp2
    go_ret
    exact⟨by rw[HE.out];rfl,hb.trans (hz.mono hb.size)⟩)
   | (
    go_wp2
    go_ret
    exact⟨by rw[HE.out];rfl,hb⟩)
theorem partS_len (i:Ins)(h:i.Wf)(c:Int)(hc:Ltr c):(partL i c).length≤40:=by
 obtain⟨g0,g1⟩:=get_fits i h c
 have hl:=itoa_len _ g0 g1
 rw[part_eq i c hc]
 generalize Lib.itoa (getI i c)=l at *
 unfold kL placeS
 repeat' split
 all_goals (simp;try omega)
theorem nm_len (op:Int):(nmL op).length≤5:=by
 rcases op_cases op with rfl | rfl | rfl | rfl | rfl | rfl | rfl | rfl | rfl | rfl | rfl | rfl | rfl | rfl | rfl | rfl | rfl | rfl | rfl | rfl | rfl | hn
 all_goals first | decide | (rw[(hs_none hn).2];decide)
theorem parts_snoc (i:Ins)(l:List UInt8)(n:Nat)(h:n < l.length):partsL i (l.take (n+1))=partsL i (l.take n)++partL i (l.getD n 0).toNat:=by
 unfold partsL
 rw[List.take_succ_eq_append_getElem h,List.flatMap_append]
 simp[h]
theorem parts_len (i:Ins)(h:i.Wf)(l:List UInt8)(hl:∀ c∈l,Ltr c.toNat):(partsL i l).length≤40 * l.length:=by
 induction l with
 | nil=>simp[partsL]
 | cons c l ih=>
  have h1:=ih fun c hc=>hl c (List.mem_cons_of_mem _ hc)
  have h2:=partS_len i h c.toNat (hl c List.mem_cons_self)
  unfold partsL at *
  simp only[List.flatMap_cons,List.length_append,List.length_cons]
  omega
def textV (i:Ins):Value:=if rightB i 1073741824=true then .tuple #[bs (textL i),.int .i64 0] else .tuple #[bs [],.int .i64 1]
set_option maxHeartbeats 1000000 in
theorem cText (i:Ins)(h:i.Wf)(w:World)(L:Lb w):
 Calls Tryz.prog 163 #[iv i] w fun e w'=>e=.returned (textV i)∧Below w.heap.size w w':=by
 have HR:=Lib.hid (fun W=>cRight i 1073741824 h.k0 h.k1 W)
 have HF:=Lib.hid (cForm i.op)
 have hL:=hs_ltr i.op
 have h6:=hs_len i.op
 have h5:=nm_len i.op
 have E:textV i=if rightB i 1073741824=true then .tuple #[bs (nmL i.op++partsL i (hsL i.op)),.int .i64 0] else .tuple #[bs [],.int .i64 1]:=rfl
 have HP:=Lib.hid (fun c hc W LW=>cPart i h c hc W LW)
 have HPL:=Lib.hid (fun l hl=>parts_len i h l hl)
 have HQL:=Lib.hid (fun c hc=>partS_len i h c hc)
 generalize textV i=tv at *
 generalize hsL i.op=hs at *
 generalize nmL i.op=nm at *
 have HL:=Lib.hid hL
 clear hL
 obtain⟨op,d,s,t,u,a,k,pl⟩:=i
 cases hr:rightB ⟨op,d,s,t,u,a,k,pl⟩ 1073741824 with
 | false=>
  rw[hr] at E HR
  have HE:=Lib.hid E
  clear E hr
  unfold iv
  go_enter Tryz.func163,Tryz.ntmps163
  go_wp2_with fail
  refine(HR.out _).mono ?_
  rintro e x ⟨rfl,hx⟩
  obtain⟨hIb,hb⟩:=boxed hx
  go_wp2
  go_ret2
  exact⟨by rw[HE.out];rfl,hb⟩
 | true=>
  rw[hr] at E HR
  have HE:=Lib.hid E
  clear E hr
  unfold iv
  go_enter Tryz.func163,Tryz.ntmps163
  go_wp2_with fail
  refine(HR.out _).mono ?_
  rintro e x ⟨rfl,hx⟩
  obtain⟨hIb,hb⟩:=boxed hx
  clear hx
  obtain⟨c0,-⟩:=hIb.cells
  simp only at c0
  go_wp2_with fail
  refine(HF.out _).mono ?_
  rintro e w' ⟨rfl,rfl⟩
  unfold bs
  go_wp2
  go_loopw [4,18] (fun tx v x=>∃ n:Nat,n≤hs.length∧v=.int .i64 n∧tx=bs (nm++partsL ⟨op,d,s,t,u,a,k,pl⟩ (hs.take n))∧Below w.heap.size w x∧Ib x w.heap.size ⟨op,d,s,t,u,a,k,pl⟩) (fun _ v _=>hs.length - (intOf v).toNat)
  case atStart=>exact⟨0,Nat.zero_le _,rfl,by simp[partsL,bs],hb,hIb⟩
  case round=>
   clear c0
   clear hb hIb
   obtain⟨n,hn,rfl,rfl,hb,hIb⟩:=hrel
   have hlt1:w.heap.size < wr.heap.size:=Bk.lt hIb
   by_cases hlt:n < hs.length
   ·have hidx:=run_ltr hs n hlt
    have hc:Ltr ((hs.getD n 0).toNat:Int):=HL.out _ (by simp[hlt])
    have hsn:=parts_snoc ⟨op,d,s,t,u,a,k,pl⟩ hs n hlt
    have hpl:=HPL.out (hs.take n) (fun c hc=>HL.out c (List.mem_of_mem_take hc))
    have hpl2:(hs.take n).length≤6:=by simp;omega
    generalize ((hs.getD n 0).toNat:Int)=c at hidx hc hsn
    have hql:=HQL.out c hc
    generalize partsL ⟨op,d,s,t,u,a,k,pl⟩ (hs.take n)=ps at *
    generalize hpp:partL ⟨op,d,s,t,u,a,k,pl⟩ c=pp at *
    have hsz:¬ 9223372036854775807 < (nm++ps).length+pp.length:=by simp;omega
    have hcat:=cat_bs (nm++ps) pp
    generalize htp:nm++ps++pp=tp at hcat
    have HTP:=Lib.hid htp
    clear htp
    generalize htx:nm++ps=tx at *
    have HTX:=Lib.hid htx
    clear htx
    have HPP:=Lib.hid hpp
    have HSN:=Lib.hid hsn
    clear hpp hsn hpl hpl2 hql
    have HP2:=Lib.hid (show ∀ g:Grw wr,Calls Tryz.prog 175 #[iv ⟨op,d,s,t,u,a,k,pl⟩,.int .u8 c] g.x fun e w'=>e=.returned (.string ⟨pp.toArray⟩)∧Below g.x.heap.size g.x w' from fun g=>by
     have hp:=HP.out c hc g.x ((L.below hb).grw g)
     rw[HPP.out] at hp
     exact hp)
    obtain⟨g0,g1,g2,g3,g4,g5,g6,g7⟩:=hIb.grw
    simp only at g0 g1 g2 g3 g4 g5 g6 g7
    unfold bs
    go_wp2_with fail
    refine wp_region_grow (by kernel_rfl) (by kernel_rfl) ?_
    repeat (go_big_quiet_step ((go_at_call 175;exact grw_call (HP2.out _))))
    refine wpQuiet_nil ?_
    rintro y ⟨⟨_,hy⟩,rfl⟩
    replace hb:=hb.trans (hy.mono (Nat.le_of_lt hlt1))
    replace hIb:=hIb.below hy
    clear g0 g1 g2 g3 g4 g5 g6 g7 hy hidx hcat hsz HP2
    have hn1:(n:Int)+1≤6:=by omega
    go_wp2
    go_roundw
    case rel=>exact⟨n+1,by omega,by go_num,by rw[HSN.out,←List.append_assoc,HTX.out,HTP.out],hb,hIb⟩
    case measure=>simp[intOf];omega
   ·obtain rfl:n=hs.length:=by omega
    rw[List.take_length]
    go_wp2
    go_ret2
    exact⟨by rw[HE.out];rfl,hb⟩
theorem opFrom_succ (w:List UInt8)(n:Nat)(k:Int):opFrom w (n+1) k=if (hsL k).isEmpty=false∧nmL k=w then k else opFrom w n (k+1):=rfl
theorem cOpNamed (s:List UInt8)(w:World):
 Calls Tryz.prog 172 #[bs s] w fun e w'=>e=.returned (.int .i64 (opN s))∧w=w':=by
 have HE:=Lib.hid (show opN s=opFrom s 23 1 from rfl)
 generalize opN s=r at *
 unfold bs
 go_enter Tryz.func172,Tryz.ntmps172
 go_wp2
 go_loop [3] (fun v=>∃ k:Nat,1≤k∧k≤24∧v=.int .i64 k∧r=opFrom s (24 - k) k) (fun v=>24 - (intOf v).toNat)
 case atStart=>exact⟨1,by omega,by omega,rfl,HE.out⟩
 case round=>
  obtain⟨k,h1,h24,rfl,hr⟩:=hrel
  by_cases hk:k≤23
  ·have e1:24 - k=(24 - (k+1))+1:=by omega
   rw[e1,opFrom_succ] at hr
   have HF:=Lib.hid (cForm k w)
   have hk2:(k:Int)≤23:=by omega
   have HR:=Lib.hid hr
   clear hr e1
   generalize hsL k=hs at *
   generalize nmL k=nm at *
   go_wp2_with fail
   refine HF.out.mono ?_
   rintro e w' ⟨rfl,rfl⟩
   unfold bs
   by_cases he:hs=[]
   ·subst he
    rw[if_neg (by simp)] at HR
    go_wp2
    go_round
    case rel=>exact⟨k+1,by omega,by omega,by go_num,by rw[HR.out];rfl⟩
    case measure=>simp[intOf];omega
   have he1:hs.isEmpty=false:=by simpa using he
   by_cases hq:nm=s
   ·subst hq
    rw[if_pos ⟨he1,rfl⟩] at HR
    have hq1:(nm==nm)=true:=by simp
    go_wp2
    go_ret
    exact⟨ret_int HR.out.symm,rfl⟩
   ·have hq1:(nm==s)=false:=by simpa using hq
    rw[if_neg (fun h=>hq h.2)] at HR
    go_wp2
    go_round
    case rel=>exact⟨k+1,by omega,by omega,by go_num,by rw[HR.out];rfl⟩
    case measure=>simp[intOf];omega
  ·obtain rfl:k=24:=by omega
   go_wp2
   go_ret
   exact⟨ret_int rfl,rfl⟩
theorem cValueAt (v:Value)(ws:List (List UInt8))(n:Nat)(hn:n < 100)(hw:∀ l∈ws,l.length < 4294967281)(w:World)(hs:Strs w v ws)(L:Lb w):
 Calls Tryz.prog 173 #[v,.int .i64 n] w fun e w'=>e=.returned (.int .i64 (valAt ws n))∧Below w.heap.size w w':=by
 obtain⟨g,cap,rfl,hc1,hc2,hg,hcell⟩:=hs
 by_cases hlt:n < ws.length
 ·have hx:=hcell n hlt
  have hmem:ws.getD n []∈ws:=by simp[hlt]
  have E:valAt ws n=valL (ws.getD n []):=by unfold valAt;rw[if_pos hlt]
  have hl:=hw _ hmem
  generalize ws.getD n []=l at *
  clear hmem hcell
  generalize valAt ws n=r at *
  have HT:=Lib.hid (fun W=>lTrim l [114] W)
  have htl:(Lib.trimPrefix l [114]).length≤4294967281:=by
   unfold Lib.trimPrefix
   split
   ·simp;omega
   ·omega
  unfold bs at hx
  by_cases h1:l=[101,113]
  ·subst h1
   have HE:=Lib.hid (E.trans (show valL [101,113]=0 from rfl))
   clear E
   go_enter Tryz.func173,Tryz.ntmps173
   go_wp2
   go_ret
   exact⟨ret_int HE.out.symm,Below.refl _ _⟩
  by_cases h2:l=[110,101]
  ·subst h2
   have HE:=Lib.hid (E.trans (show valL [110,101]=1 from rfl))
   clear E
   go_enter Tryz.func173,Tryz.ntmps173
   go_wp2
   go_ret
   exact⟨ret_int HE.out.symm,Below.refl _ _⟩
  have b1:(l==[101,113])=false:=by simpa using h1
  have b2:(l==[110,101])=false:=by simpa using h2
  unfold valL at E
  rw[if_neg h1,if_neg h2] at E
  clear h1 h2
  generalize Lib.trimPrefix l [114]=tl at *
  cases ha:Lib.atoiAll tl with
  | ok x=>
   rw[ha] at E
   have HE:=Lib.hid E
   have HA:=Lib.hid (fun W=>lAtoiOk tl (by omega) x ha W)
   clear E ha
   go_enter Tryz.func173,Tryz.ntmps173
   go_wp2_with fail
   refine(HT.out _).mono ?_
   rintro e w' ⟨rfl,rfl⟩
   go_wp2_with fail
   refine(HA.out _).mono ?_
   rintro e y ⟨rfl,hy⟩
   go_wp2
   go_ret
   exact⟨ret_int HE.out.symm,hy⟩
  | _=>
   rw[ha] at E
   have HE:=Lib.hid E
   have HA:=Lib.hid (fun W LW=>lAtoiNo tl (by omega) (by rw[ha];intro v h;cases h) W LW)
   clear E ha
   go_enter Tryz.func173,Tryz.ntmps173
   go_wp2_with fail
   refine(HT.out _).mono ?_
   rintro e w' ⟨rfl,rfl⟩
   go_wp2_with fail
   refine(HA.out _ L).mono ?_
   rintro e y ⟨x,b,rfl,hy⟩
   go_wp2
   go_ret
   exact⟨ret_int HE.out.symm,hy⟩
 ·have E:valAt ws n=-1:=by unfold valAt;rw[if_neg hlt]
  have HE:=Lib.hid E
  clear E hcell
  generalize valAt ws n=r at *
  generalize ws.length=m at *
  go_enter Tryz.func173,Tryz.ntmps173
  go_wp2
  go_ret
  exact⟨ret_int HE.out.symm,Below.refl _ _⟩
theorem fill_snoc (ws:List (List UInt8)):∀ (l:List UInt8) (m:Nat) (i:Ins) (n:Nat),n < l.length→fillI ws (l.take (n+1)) m i=setI (fillI ws (l.take n) m i) (l.getD n 0).toNat (valAt ws (m+n+1))
 | [],_,_,n,h=>by simp at h
 | c :: l,m,i,0,_=>by simp[fillI]
 | c :: l,m,i,n+1,h=>by
  have:=fill_snoc ws l (m+1) (setI i c.toNat (valAt ws (m+1))) n (by simpa using h)
  simp only[List.take_succ_cons,fillI,List.getD_cons_succ]
  rw[this]
  congr 2
  omega
theorem fill_op (ws:List (List UInt8)):∀ (l:List UInt8) (m:Nat) (i:Ins),(fillI ws l m i).op=i.op
 | [],_,_=>rfl
 | c :: l,m,i=>by
  rw[fillI,fill_op ws l]
  unfold setI
  simp only[apply_ite Ins.op]
  repeat' split
  all_goals rfl
set_option maxHeartbeats 1000000 in
theorem cDraft (v:Value)(ws:List (List UInt8))(h0:0 < ws.length)(hw:∀ l∈ws,l.length < 4294967281)(w:World)(hs:Strs w v ws)(L:Lb w):
 Calls Tryz.prog 161 #[v] w fun e w'=>e=.returned (iv (draftI ws))∧Below w.heap.size w w':=by
 have HD:=Lib.hid (show draftI ws=lastI ws (fillI ws (hsL (opN (ws.getD 0 []))) 0 { Ins.zero with op:=opN (ws.getD 0 []) }) from rfl)
 generalize draftI ws=res at *
 have HV:=Lib.hid (fun n hn W hS LW=>cValueAt v ws n hn hw W hS LW)
 have HS:=Lib.hid hs
 obtain⟨g,cap,rfl,hc1,hc2,hg,hcell⟩:=hs
 have hx:=hcell 0 h0
 have HO:=Lib.hid (fun W=>cOpNamed (ws.getD 0 []) W)
 have HX:=Lib.hid (show bs (ws.getD 0 [])=bs (ws.getD 0 []) from rfl)
 unfold bs at hx
 have HO2:=Lib.hid (show ∀ W,Calls Tryz.prog 172 #[.string ⟨(ws.getD 0 []).toArray⟩] W fun e w'=>e=.returned (.int .i64 (opN (ws.getD 0 [])))∧W=w' from HO.out)
 clear HO HX
 generalize opN (ws.getD 0 [])=op at *
 generalize (ws.getD 0 [])=w0 at *
 clear hcell
 have HF:=Lib.hid (cForm op)
 have hL:=hs_ltr op
 have h6:=hs_len op
 generalize hsL op=hs at *
 generalize nmL op=nm at *
 have HL:=Lib.hid hL
 clear hL
 have hlen:(0:Int) < (ws.length:Int):=by omega
 go_enter Tryz.func161,Tryz.ntmps161
 go_wp2_with fail
 refine(HO2.out _).mono ?_
 rintro e w' ⟨rfl,rfl⟩
 go_wp2_with fail
 refine(HF.out _).mono ?_
 rintro e w' ⟨rfl,rfl⟩
 unfold bs
 go_wp2
 go_loopw [20] (fun v x=>∃ n:Nat,n≤hs.length∧v=.int .i64 n∧Below w.heap.size w x∧Bk x w.heap.size 119 #[.int .i64 0,.int .i64 0,.int .i64 0,.int .i64 0,.int .i64 0,.int .i64 0,.int .u32 0,.int .i64 0]∧Ib x (w.heap.size+1) (fillI ws (hs.take n) 0 { Ins.zero with op:=op })) (fun v _=>hs.length - (intOf v).toNat)
 case atStart=>
  refine⟨0,Nat.zero_le _,rfl,?_,?_,?_⟩
  ·exact(((Below.refl _ _).alloc (Nat.le_refl _) _).alloc (by simp) _)
  ·exact(Bk.made _ _ _).alloc _
  ·have:=Ib.made (w.alloc (.cells #[.int .i64 0,.int .i64 0,.int .i64 0,.int .i64 0,.int .i64 0,.int .i64 0,.int .u32 0,.int .i64 0] 119)) op 0 0 0 0 0 0 0
   rw[show (w.alloc (.cells #[.int .i64 0,.int .i64 0,.int .i64 0,.int .i64 0,.int .i64 0,.int .i64 0,.int .u32 0,.int .i64 0] 119)).heap.size=w.heap.size+1 by simp] at this
   exact this
 case round=>
  obtain⟨n,hn,rfl,hb,hR,hZ⟩:=hrel
  generalize wr=x at *
  have hlt1:w.heap.size < x.heap.size:=Bk.lt hR
  have hlt2:w.heap.size+1 < x.heap.size:=Bk.lt hZ
  by_cases hlt:n < hs.length
  ·have hidx:=run_ltr hs n hlt
   have hc:Ltr ((hs.getD n 0).toNat:Int):=HL.out _ (by simp[hlt])
   have hsn:=fill_snoc ws hs 0 { Ins.zero with op:=op } n hlt
   rw[Nat.zero_add] at hsn
   generalize ((hs.getD n 0).toNat:Int)=c at hidx hc hsn
   generalize fillI ws (hs.take n) 0 { Ins.zero with op:=op }=z at hZ hsn
   have HSN:=Lib.hid hsn
   clear hsn
   obtain⟨zop,zd,zs,zt,zu,za,zk,zpl⟩:=z
   have HV2:=Lib.hid (show ∀ W,Below x.heap.size x W→Calls Tryz.prog 173 #[.slice (some ⟨g,0,none⟩) ws.length cap,.int .i64 ((n:Int)+1)] W fun e w'=>e=.returned (.int .i64 (valAt ws (n+1)))∧Below W.heap.size W w' from fun W hW=>by
    have hbw:=hb.trans (hW.mono (Nat.le_of_lt hlt1))
    exact HV.out (n+1) (by omega) W (HS.out.below hbw) (L.below hbw))
   generalize valAt ws (n+1)=vv at *
   obtain⟨c0,c1,c2,c3,c4,c5,c6,c7⟩:=hZ.cells
   simp only at c0 c1 c2 c3 c4 c5 c6 c7
   have hw1:IntKind.i64.wrap ((n:Int)+1)=(n:Int)+1:=IntWalk.i64_in _ (by omega)
   go_wp2_with fail
   go_region_law (first | (go_simp;go_at_call 173;refine(HV2.out _ (Below.refl _ _).drew).mono ?_;rintro e y1 ⟨rfl,hy1⟩;replace hy1:=below_of_drew hy1;obtain⟨d0,d1,d2,d3,d4,d5,d6,d7⟩:=(hZ.below hy1).cells) | (go_simp;go_at_call 112;refine(cSet ⟨zop,zd,zs,zt,zu,za,zk,zpl⟩ _ vv hc _).mono ?_;rintro e y ⟨rfl,hy⟩;replace hy:=hy1.trans (hy.mono hy1.size);obtain⟨e0,e1,e2,e3,e4,e5,e6,e7⟩:=(hZ.below hy).cells;have hf:=Bk.free (hZ.below hy);generalize hz2:setI ⟨zop,zd,zs,zt,zu,za,zk,zpl⟩ c vv=z2;have HZ2:=Lib.hid hz2;clear hz2;obtain⟨yop,yd,ys,yt,yu,ya,yk,ypl⟩:=z2;unfold iv))
   all_goals
    generalize hv:((((((((y.setCell ⟨w.heap.size+1,0,none⟩ (.int .i64 yop)).setCell ⟨w.heap.size+1,1,none⟩ (.int .i64 yd)).setCell ⟨w.heap.size+1,2,none⟩ (.int .i64 ys)).setCell ⟨w.heap.size+1,3,none⟩ (.int .i64 yt)).setCell ⟨w.heap.size+1,4,none⟩ (.int .i64 yu)).setCell ⟨w.heap.size+1,5,none⟩ (.int .i64 ya)).setCell ⟨w.heap.size+1,6,none⟩ (.int .u32 yk)).setCell ⟨w.heap.size+1,7,none⟩ (.int .i64 ypl))=v
    have hv2:put8 y (w.heap.size+1) ⟨yop,yd,ys,yt,yu,ya,yk,ypl⟩=v:=hv
    clear hv
    have hA:=put8_ib (i:=⟨yop,yd,ys,yt,yu,ya,yk,ypl⟩) (hZ.below hy)
    have hB:=put8_off (i:=⟨yop,yd,ys,yt,yu,ya,yk,ypl⟩) ((hy.block w.heap.size hlt1).trans hR:Bk y w.heap.size 119 _) (show w.heap.size≠w.heap.size+1 by omega)
    have hC:=put8_below (i:=⟨yop,yd,ys,yt,yu,ya,yk,ypl⟩) (hb.trans (hy.mono (Nat.le_of_lt hlt1))) (show w.heap.size≤w.heap.size+1 by omega)
    rw[hv2] at hA hB hC
    clear hv2 d0 d1 d2 d3 d4 d5 d6 d7 e0 e1 e2 e3 e4 e5 e6 e7 hf c0 c1 c2 c3 c4 c5 c6 c7 hidx hw1
    have hn1:(n:Int)+1≤6:=by omega
    go_wp2
    go_roundw
    case rel=>exact⟨n+1,by omega,by go_num,hC,hB,by rw[HSN.out,HZ2.out];exact hA⟩
    case measure=>simp[intOf];omega
  ·obtain rfl:n=hs.length:=by omega
   rw[List.take_length] at hZ
   have hop:=fill_op ws hs 0 { Ins.zero with op:=op }
   have HD2:=Lib.hid HD.out
   generalize fillI ws hs 0 { Ins.zero with op:=op }=z at hZ hop HD2
   obtain⟨zop,zd,zs,zt,zu,za,zk,zpl⟩:=z
   simp only at hop
   obtain⟨c0,c1,c2,c3,c4,c5,c6,c7⟩:=hZ.cells
   simp only at c0 c1 c2 c3 c4 c5 c6 c7
   subst hop
   by_cases h21:zop=21
   ·subst h21
    have HV2:=Lib.hid (HV.out 7 (by omega) x (HS.out.below hb) (L.below hb))
    generalize hvv:valAt ws 7=vv at *
    have E2:=Lib.hid (HD2.out.trans (show lastI ws ⟨21,zd,zs,zt,zu,za,zk,zpl⟩=⟨21,zd,zs,zt,zu,za,zk,vv⟩ by unfold lastI;simp[hvv]))
    clear hvv
    go_wp2_with fail
    refine HV2.out.mono ?_
    rintro e y ⟨rfl,hy⟩
    obtain⟨d0,d1,d2,d3,d4,d5,d6,d7⟩:=(hZ.below hy).cells
    have hf:=Bk.free (hZ.below hy)
    have hRy:Ib y w.heap.size Ins.zero:=(hy.block w.heap.size hlt1).trans hR
    obtain⟨r0,r1,r2,r3,r4,r5,r6,r7⟩:=hRy.cells
    have hfR:=Bk.free hRy
    go_wp2
    generalize hv:(((((((((y.setCell ⟨w.heap.size+1,7,none⟩ (.int .i64 vv)).setCell ⟨w.heap.size,0,none⟩ (.int .i64 21)).setCell ⟨w.heap.size,1,none⟩ (.int .i64 zd)).setCell ⟨w.heap.size,2,none⟩ (.int .i64 zs)).setCell ⟨w.heap.size,3,none⟩ (.int .i64 zt)).setCell ⟨w.heap.size,4,none⟩ (.int .i64 zu)).setCell ⟨w.heap.size,5,none⟩ (.int .i64 za)).setCell ⟨w.heap.size,6,none⟩ (.int .u32 zk)).setCell ⟨w.heap.size,7,none⟩ (.int .i64 vv))=v
    have hv2:put8 (y.setCell ⟨w.heap.size+1,7,none⟩ (.int .i64 vv)) w.heap.size ⟨21,zd,zs,zt,zu,za,zk,vv⟩=v:=hv
    clear hv
    have hA:=put8_ib (i:=⟨21,zd,zs,zt,zu,za,zk,vv⟩) (show Ib (y.setCell ⟨w.heap.size+1,7,none⟩ (.int .i64 vv)) w.heap.size Ins.zero from Bk.off hRy (show w.heap.size≠w.heap.size+1 by omega) _)
    have hC:=put8_below (i:=⟨21,zd,zs,zt,zu,za,zk,vv⟩) ((hb.trans (hy.mono (Nat.le_of_lt hlt1))).setCell (p:=⟨w.heap.size+1,7,none⟩) (show w.heap.size≤w.heap.size+1 by omega) (.int .i64 vv)) (Nat.le_refl _)
    rw[hv2] at hA hC
    clear hv2
    obtain⟨q0,q1,q2,q3,q4,q5,q6,q7⟩:=hA.cells
    simp only at q0 q1 q2 q3 q4 q5 q6 q7
    refine bodyPost_ret (v:=.agg #[.int .i64 21,.int .i64 zd,.int .i64 zs,.int .i64 zt,.int .i64 zu,.int .i64 za,.int .u32 zk,.int .i64 vv]) (by simp[results,Tryz.results161,go_sem,q0,q1,q2,q3,q4,q5,q6,q7]) rfl ⟨by rw[E2.out];rfl,hC⟩
   ·have b21:(zop==21)=false:=by simpa using h21
    have E2:=Lib.hid (HD2.out.trans (show lastI ws ⟨zop,zd,zs,zt,zu,za,zk,zpl⟩=⟨zop,zd,zs,zt,zu,za,zk,zpl⟩ by unfold lastI;rw[if_neg h21]))
    have hRy:Ib x w.heap.size Ins.zero:=hR
    obtain⟨r0,r1,r2,r3,r4,r5,r6,r7⟩:=hRy.cells
    have hfR:=Bk.free hRy
    clear h21
    go_wp2
    generalize hv:((((((((x.setCell ⟨w.heap.size,0,none⟩ (.int .i64 zop)).setCell ⟨w.heap.size,1,none⟩ (.int .i64 zd)).setCell ⟨w.heap.size,2,none⟩ (.int .i64 zs)).setCell ⟨w.heap.size,3,none⟩ (.int .i64 zt)).setCell ⟨w.heap.size,4,none⟩ (.int .i64 zu)).setCell ⟨w.heap.size,5,none⟩ (.int .i64 za)).setCell ⟨w.heap.size,6,none⟩ (.int .u32 zk)).setCell ⟨w.heap.size,7,none⟩ (.int .i64 zpl))=v
    have hv2:put8 x w.heap.size ⟨zop,zd,zs,zt,zu,za,zk,zpl⟩=v:=hv
    clear hv
    have hA:=put8_ib (i:=⟨zop,zd,zs,zt,zu,za,zk,zpl⟩) hRy
    have hC:=put8_below (i:=⟨zop,zd,zs,zt,zu,za,zk,zpl⟩) hb (Nat.le_refl _)
    rw[hv2] at hA hC
    clear hv2
    obtain⟨q0,q1,q2,q3,q4,q5,q6,q7⟩:=hA.cells
    simp only at q0 q1 q2 q3 q4 q5 q6 q7
    refine bodyPost_ret (v:=.agg #[.int .i64 zop,.int .i64 zd,.int .i64 zs,.int .i64 zt,.int .i64 zu,.int .i64 za,.int .u32 zk,.int .i64 zpl]) (by simp[results,Tryz.results161,go_sem,q0,q1,q2,q3,q4,q5,q6,q7]) rfl ⟨by rw[E2.out];rfl,hC⟩
theorem splitK_pos (sep:List UInt8):∀ (k:Nat) (s:List UInt8),0 < (Lib.splitK sep 0 k s).length
 | 0,_=>by simp[Lib.splitK]
 | k+1,s=>by unfold Lib.splitK;split <;> simp
theorem splitK_le (sep:List UInt8):∀ (k:Nat) (s:List UInt8),∀ l∈Lib.splitK sep 0 k s,l.length≤s.length
 | 0,s,l,h=>by simp[Lib.splitK] at h;subst h;exact Nat.le_refl _
 | k+1,s,l,h=>by
  unfold Lib.splitK at h
  split at h
  ·simp at h;subst h;exact Nat.le_refl _
  ·rcases List.mem_cons.1 h with rfl | h
   ·simp;omega
   ·have:=splitK_le sep k _ l h
    simp at this
    omega
theorem valL_in (l:List UInt8):-9223372036854775808≤valL l∧valL l≤9223372036854775807:=by
 unfold valL
 split
 ·omega
 split
 ·omega
 split
 ·rename_i v h;exact Lib.atoiAll_bounds h
 ·omega
theorem valAt_in (ws:List (List UInt8))(n:Nat):-9223372036854775808≤valAt ws n∧valAt ws n≤9223372036854775807:=by
 unfold valAt
 split
 ·exact valL_in _
 ·omega
theorem set_wf (i:Ins)(h:i.Wf)(c v:Int)(h0:-9223372036854775808≤v)(h1:v≤9223372036854775807):(setI i c v).Wf:=by
 obtain⟨a1,a2,a3,a4,a5,a6,a7,a8,a9,a10,a11,a12,a13,a14,a15,a16⟩:=h
 have hm0:0≤v % 4294967296:=by omega
 have hm1:v % 4294967296 < 4294967296:=by omega
 unfold setI
 by_cases c1:c=68
 ·rw[if_pos c1];constructor <;> assumption
 rw[if_neg c1]
 by_cases c2:c=83
 ·rw[if_pos c2];constructor <;> assumption
 rw[if_neg c2]
 by_cases c3:c=84
 ·rw[if_pos c3];constructor <;> assumption
 rw[if_neg c3]
 by_cases c4:c=85
 ·rw[if_pos c4];constructor <;> assumption
 rw[if_neg c4]
 by_cases c5:c=65
 ·rw[if_pos c5];constructor <;> assumption
 rw[if_neg c5]
 by_cases c6:c=75
 ·rw[if_pos c6];constructor <;> assumption
 rw[if_neg c6]
 by_cases c7:c=80
 ·rw[if_pos c7];constructor <;> assumption
 rw[if_neg c7];constructor <;> assumption
theorem fill_wf (ws:List (List UInt8)):∀ (l:List UInt8) (m:Nat) (i:Ins),i.Wf→(fillI ws l m i).Wf
 | [],_,_,h=>h
 | c :: l,m,i,h=>by
  rw[fillI]
  exact fill_wf ws l _ _ (set_wf i h _ _ (valAt_in ws _).1 (valAt_in ws _).2)
theorem opFrom_in (s:List UInt8):∀ (n:Nat) (k:Int),0≤k→0≤opFrom s n k∧opFrom s n k≤k+n
 | 0,k,h=>by unfold opFrom;omega
 | n+1,k,h=>by
  unfold opFrom
  split
  ·omega
  ·have:=opFrom_in s n (k+1) (by omega)
   omega
theorem draft_wf (ws:List (List UInt8)):(draftI ws).Wf:=by
 unfold draftI lastI
 have h1:=opFrom_in (ws.getD 0 []) 23 1 (by omega)
 have h2:opN (ws.getD 0 [])=opFrom (ws.getD 0 []) 23 1:=rfl
 generalize opN (ws.getD 0 [])=op at *
 have hw:(fillI ws (hsL op) 0 { Ins.zero with op:=op }).Wf:=fill_wf ws _ _ _ (by unfold Ins.zero;constructor <;> simp <;> omega)
 generalize fillI ws (hsL op) 0 { Ins.zero with op:=op }=i at *
 split
 ·obtain⟨a1,a2,a3,a4,a5,a6,a7,a8,a9,a10,a11,a12,a13,a14,a15,a16⟩:=hw
  have hv:=valAt_in ws 7
  obtain⟨v0,v1⟩:=hv
  constructor <;> assumption
 ·exact hw
def parsedI (s:List UInt8):Ins:=draftI (splitL s)
def parseB (s:List UInt8):Bool:=rightB (parsedI s) 1073741824 && decide (textL (parsedI s)=s)
def parseV (s:List UInt8):Value:=if parseB s=true then .tuple #[iv (parsedI s),.int .i64 0] else .tuple #[iv Ins.zero,.int .i64 8]
set_option maxHeartbeats 1000000 in
theorem cParse (s:List UInt8)(hl:s.length < 4294967281)(w:World)(L:Lb w):
 Calls Tryz.prog 140 #[bs s] w fun e w'=>e=.returned (parseV s)∧Below w.heap.size w w':=by
 have HS:=Lib.hid (fun W LW=>lSplit s hl W LW)
 have h0:0 < (splitL s).length:=splitK_pos _ _ _
 have hw:∀ l∈splitL s,l.length < 4294967281:=fun l h=>Nat.lt_of_le_of_lt (splitK_le _ _ _ l h) hl
 have HD:=Lib.hid (fun v W hS LW=>cDraft v (splitL s) h0 hw W hS LW)
 have HT:=Lib.hid (fun W LW=>cText (parsedI s) (draft_wf _) W LW)
 have E:parseV s=if (rightB (parsedI s) 1073741824 && decide (textL (parsedI s)=s))=true then .tuple #[iv (parsedI s),.int .i64 0] else .tuple #[iv Ins.zero,.int .i64 8]:=rfl
 have HD2:=Lib.hid (show ∀ v W,Strs W v (splitL s)→Lb W→Calls Tryz.prog 161 #[v] W fun e w'=>e=.returned (iv (parsedI s))∧Below W.heap.size W w' from HD.out)
 clear HD h0 hw
 generalize parseV s=res at *
 generalize parsedI s=i at *
 have HE:=Lib.hid E
 clear E
 obtain⟨op,d,s',t,u,a,k,pl⟩:=i
 unfold bs
 go_enter Tryz.func140,Tryz.ntmps140
 go_wp2_with fail
 have b1:Below w.heap.size w (w.alloc (.cells #[.int .i64 0,.int .i64 0,.int .i64 0,.int .i64 0,.int .i64 0,.int .i64 0,.int .u32 0,.int .i64 0] 119)):=(Below.refl _ _).alloc (Nat.le_refl _) _
 have m1:Ib (w.alloc (.cells #[.int .i64 0,.int .i64 0,.int .i64 0,.int .i64 0,.int .i64 0,.int .i64 0,.int .u32 0,.int .i64 0] 119)) w.heap.size Ins.zero:=Bk.made _ _ _
 generalize w.alloc (.cells #[.int .i64 0,.int .i64 0,.int .i64 0,.int .i64 0,.int .i64 0,.int .i64 0,.int .u32 0,.int .i64 0] 119)=x1 at *
 refine(HS.out x1 (L.below b1)).mono ?_
 rintro e x2 ⟨v,rfl,hS,b2⟩
 replace m1:=m1.below b2
 replace b2:=b1.trans (b2.mono b1.size)
 clear b1
 go_wp2_with fail
 refine(HD2.out v _ hS (L.below b2)).mono ?_
 rintro e x3 ⟨rfl,b3⟩
 replace m1:=m1.below b3
 replace b3:=b2.trans (b3.mono b2.size)
 clear b2 hS x2 x1
 unfold iv
 go_wp2_with fail
 have b4:Below w.heap.size w (x3.alloc (.cells #[.int .i64 op,.int .i64 d,.int .i64 s',.int .i64 t,.int .i64 u,.int .i64 a,.int .u32 k,.int .i64 pl] 119)):=b3.alloc b3.size _
 have m2:=Ib.made x3 op d s' t u a k pl
 have m3:Ib (x3.alloc (.cells #[.int .i64 op,.int .i64 d,.int .i64 s',.int .i64 t,.int .i64 u,.int .i64 a,.int .u32 k,.int .i64 pl] 119)) w.heap.size Ins.zero:=Bk.alloc m1 _
 have hne:w.heap.size≠x3.heap.size:=Nat.ne_of_lt (Bk.lt m1)
 clear m1 b3
 generalize x3.heap.size=g at *
 generalize x3.alloc (.cells #[.int .i64 op,.int .i64 d,.int .i64 s',.int .i64 t,.int .i64 u,.int .i64 a,.int .u32 k,.int .i64 pl] 119)=x4 at *
 refine(HT.out x4 (L.below b4)).mono ?_
 rintro e y ⟨rfl,hy⟩
 replace m2:=m2.below hy
 replace m3:=m3.below hy
 replace b4:=b4.trans (hy.mono b4.size)
 clear hy x4 HT HD2 HS
 obtain⟨c0,c1,c2,c3,c4,c5,c6,c7⟩:=m2.cells
 obtain⟨r0,r1,r2,r3,r4,r5,r6,r7⟩:=m3.cells
 have hfR:=Bk.free m3
 simp only at c0 c1 c2 c3 c4 c5 c6 c7
 unfold Ins.zero at r0 r1 r2 r3 r4 r5 r6 r7
 simp only at r0 r1 r2 r3 r4 r5 r6 r7
 unfold textV
 cases hr:rightB ⟨op,d,s',t,u,a,k,pl⟩ 1073741824 with
 | false=>
  rw[hr] at HE
  clear hr
  rw[if_neg (by decide)]
  unfold bs
  go_wp2
  generalize hv:((((((((y.setCell ⟨w.heap.size,0,none⟩ (.int .i64 0)).setCell ⟨w.heap.size,1,none⟩ (.int .i64 0)).setCell ⟨w.heap.size,2,none⟩ (.int .i64 0)).setCell ⟨w.heap.size,3,none⟩ (.int .i64 0)).setCell ⟨w.heap.size,4,none⟩ (.int .i64 0)).setCell ⟨w.heap.size,5,none⟩ (.int .i64 0)).setCell ⟨w.heap.size,6,none⟩ (.int .u32 0)).setCell ⟨w.heap.size,7,none⟩ (.int .i64 0))=v9
  have hv2:put8 y w.heap.size ⟨0,0,0,0,0,0,0,0⟩=v9:=hv
  clear hv
  have hA:=put8_ib (i:=⟨0,0,0,0,0,0,0,0⟩) m3
  have hC:=put8_below (i:=⟨0,0,0,0,0,0,0,0⟩) b4 (Nat.le_refl _)
  rw[hv2] at hA hC
  clear hv2
  obtain⟨q0,q1,q2,q3,q4,q5,q6,q7⟩:=hA.cells
  simp only at q0 q1 q2 q3 q4 q5 q6 q7
  refine bodyPost_ret (v:=.tuple #[.agg #[.int .i64 0,.int .i64 0,.int .i64 0,.int .i64 0,.int .i64 0,.int .i64 0,.int .u32 0,.int .i64 0],.int .i64 8]) (by simp[results,Tryz.results140,go_sem,q0,q1,q2,q3,q4,q5,q6,q7]) rfl ⟨?_,hC⟩
  rw[HE.out];rfl
 | true=>
  rw[hr] at HE
  clear hr
  rw[if_pos rfl]
  generalize textL ⟨op,d,s',t,u,a,k,pl⟩=tx at *
  unfold bs
  by_cases hq:tx=s
  ·subst hq
   have hq1:(tx==tx)=true:=by simp
   have HE2:=Lib.hid (HE.out.trans (if_pos (by simp)))
   clear HE
   go_wp2
   generalize hv:((((((((y.setCell ⟨w.heap.size,0,none⟩ (.int .i64 op)).setCell ⟨w.heap.size,1,none⟩ (.int .i64 d)).setCell ⟨w.heap.size,2,none⟩ (.int .i64 s')).setCell ⟨w.heap.size,3,none⟩ (.int .i64 t)).setCell ⟨w.heap.size,4,none⟩ (.int .i64 u)).setCell ⟨w.heap.size,5,none⟩ (.int .i64 a)).setCell ⟨w.heap.size,6,none⟩ (.int .u32 k)).setCell ⟨w.heap.size,7,none⟩ (.int .i64 pl))=v9
   have hv2:put8 y w.heap.size ⟨op,d,s',t,u,a,k,pl⟩=v9:=hv
   clear hv
   have hA:=put8_ib (i:=⟨op,d,s',t,u,a,k,pl⟩) m3
   have hC:=put8_below (i:=⟨op,d,s',t,u,a,k,pl⟩) b4 (Nat.le_refl _)
   rw[hv2] at hA hC
   clear hv2
   obtain⟨q0,q1,q2,q3,q4,q5,q6,q7⟩:=hA.cells
   simp only at q0 q1 q2 q3 q4 q5 q6 q7
   refine bodyPost_ret (v:=.tuple #[.agg #[.int .i64 op,.int .i64 d,.int .i64 s',.int .i64 t,.int .i64 u,.int .i64 a,.int .u32 k,.int .i64 pl],.int .i64 0]) (by simp[results,Tryz.results140,go_sem,q0,q1,q2,q3,q4,q5,q6,q7]) rfl ⟨?_,hC⟩
   rw[HE2.out];rfl
  ·have hq1:(tx==s)=false:=by simpa using hq
   have HE2:=Lib.hid (HE.out.trans (if_neg (by simp[hq])))
   clear HE hq
   go_wp2
   generalize hv:((((((((y.setCell ⟨w.heap.size,0,none⟩ (.int .i64 0)).setCell ⟨w.heap.size,1,none⟩ (.int .i64 0)).setCell ⟨w.heap.size,2,none⟩ (.int .i64 0)).setCell ⟨w.heap.size,3,none⟩ (.int .i64 0)).setCell ⟨w.heap.size,4,none⟩ (.int .i64 0)).setCell ⟨w.heap.size,5,none⟩ (.int .i64 0)).setCell ⟨w.heap.size,6,none⟩ (.int .u32 0)).setCell ⟨w.heap.size,7,none⟩ (.int .i64 0))=v9
   have hv2:put8 y w.heap.size ⟨0,0,0,0,0,0,0,0⟩=v9:=hv
   clear hv
   have hA:=put8_ib (i:=⟨0,0,0,0,0,0,0,0⟩) m3
   have hC:=put8_below (i:=⟨0,0,0,0,0,0,0,0⟩) b4 (Nat.le_refl _)
   rw[hv2] at hA hC
   clear hv2
   obtain⟨q0,q1,q2,q3,q4,q5,q6,q7⟩:=hA.cells
   simp only at q0 q1 q2 q3 q4 q5 q6 q7
   refine bodyPost_ret (v:=.tuple #[.agg #[.int .i64 0,.int .i64 0,.int .i64 0,.int .i64 0,.int .i64 0,.int .i64 0,.int .u32 0,.int .i64 0],.int .i64 8]) (by simp[results,Tryz.results140,go_sem,q0,q1,q2,q3,q4,q5,q6,q7]) rfl ⟨?_,hC⟩
   rw[HE2.out];rfl
end Go.Proofs.YthdgehcghklflaaGreatDoor
