import Derived.Test.YtieiifdhdjhnoaaGreatDoorQAsmF
import Derived.Test.YtieiifdhdjhnoaaGreatDoorQAsmX
import Derived.Test.YtieiifdhdjhnoaaGreatDoorQRunM
import Derived.Test.YtieiifdhdjhnoaaGreatDoorQMem
import Derived.Deep.DeepCutAuto
import Derived.Deep.LoopGhost
set_option linter.unusedVariables false
set_option maxHeartbeats 40000000
set_option maxRecDepth 100000
open Go.Value renaming int->I,slice->P,pointer->S
open Go.IntKind renaming i64->Q,u32->N
open Option renaming none->O,some->Z
open Bool renaming false->V
open Go.Obj renaming cells->T
open Go.Lib renaming hid->R
open Go.RowKit.Below renaming refl->U
open Nat renaming le_refl->K
open Go renaming undef->J
namespace Go.Proofs.YtieiifdhdjhnoaaGreatDoor
open Go.ChangeShapes Go.WideShapes Go.ChangeAt Go.RowKit
theorem zg (w:World):pf w ((w.alloc (T #[P O 0 0,I Q 0,I Q 0] 34)).alloc (T #[P O 0 0,I Q 0,I Q 0] 34)) [] [] [] [] (P O 0 0) (P O 0 0) (P O 0 0) (P O 0 0):=by
 obtain⟨b,k1,k2⟩:=lB w 34 #[P O 0 0,I Q 0,I Q 0] #[P O 0 0,I Q 0,I Q 0]
 exact⟨b,k1,k2,World.ownsRow_nil _ _ _ _,World.ownsRow_nil _ _ _ _,World.ownsRow_nil _ _ _ _,World.ownsRow_nil _ _ _ _⟩
theorem xL (text:List UInt8):sH text 0 0 0 [] []:=⟨K _,K _,by simp,by simp,by intro c hc;simp at hc,by rw[p9];rfl⟩
theorem wv {s:List UInt8}(h:¬ 0<s.length):rO s=V:=by
 cases s with
 | nil=>rfl
 | cons a b=>simp at h
theorem FW {s:List UInt8}(h:0<s.length):rO s=(decide (s.getD (s.length-1) 0=58) && cE s.dropLast):=by
 have e1:s.isEmpty=V:=by cases s with
  | nil=>simp at h
  | cons a b=>rfl
 have e2:s.getLastD 0=s.getD (s.length-1) 0:=by
  rw[List.getLastD_eq_getLast?,List.getLast?_eq_getElem?,List.getD_eq_getElem?_getD]
 unfold rO
 rw[e1,e2]
 rfl
theorem sM (s:List UInt8)(h:0<s.length)(w:World):(Instr.slice 9 (.string ⟨s.toArray⟩) O (Z (I Q ((s.length:Int)-1))) O).run Tryz.prog w=.ok (.string ⟨s.dropLast.toArray⟩) w:=by
 have e:((s.length-1:Nat):Int)=(s.length:Int)-1:=by omega
 rw[<-e,List.dropLast_eq_take]
 exact lD s (s.length-1) (by omega) w
theorem zX (s:List UInt8)(h:0<s.length)(w:World):(Instr.index 9 (.string ⟨s.toArray⟩) (I Q ((s.length:Int)-1))).run Tryz.prog w=.ok (I .u8 ((s.getD (s.length-1) 0).toNat:Int)) w:=by
 have e:((s.length-1:Nat):Int)=(s.length:Int)-1:=by omega
 rw[<-e]
 exact eO s (s.length-1) (by omega) w
theorem yZ (l:List (List UInt8×Int))(f:List UInt8×Int->Bool)(j:Nat)(h:j<l.length):(l.take (j+1)).any f=((l.take j).any f || f l[j]):=by
 have e:l.take (j+1)=l.take j++[l[j]]:=by simp
 rw[e,List.any_append]
 simp
theorem Cb {done more:List aU}{i x:aU}{j:Nat}(h:done.length=j):(done++i :: more).set j x=done++x :: more:=by
 subst h
 rw[List.set_append_right _ _ (K _),Nat.sub_self]
 rfl
theorem xm (text:List UInt8)(hl:text.length<80000)(w:World):
 Calls Tryz.prog 29 #[bs text] w (BY w text):=by
 have HLn:=R (fun s (h:s.length<90000) W=>FN s h W)
 have HNm:=R vY
 have h0:=zg w
 have HP0:=R (xL text)
 unfold bs
 go_enter Tryz.func29,Tryz.ntmps29
 go_upto_block 0 with fail
 generalize (w.alloc (T #[P O 0 0,I Q 0,I Q 0] 34)).alloc (T #[P O 0 0,I Q 0,I Q 0] 34)=x at *
 go_cut [6,7,8,9,10] (fun sl sn sk f n wx=>∃ (ls:List (List UInt8×Int)) (rs:List (aU×List UInt8×Int)) (vi:Value) (fr ln:Nat),f=I Q fr/\n=I Q ln/\pf w wx (rs.map (·.1)) ls (rs.map (·.2.1)) (rs.map (·.2.2)) vi sl sn sk/\Hid (sH text fr text.length ln ls rs))
 case first=>
  go_wp2
  go_loopg [6,7,8,9,10,11] text.length (fun gk sl sn sk f n i wr=>∃ (ls:List (List UInt8×Int)) (rs:List (aU×List UInt8×Int)) (vi:Value) (fr k ln:Nat),f=I Q fr/\n=I Q ln/\i=I Q k/\k+gk=text.length/\pf w wr (rs.map (·.1)) ls (rs.map (·.2.1)) (rs.map (·.2.2)) vi sl sn sk/\Hid (sH text fr k ln ls rs))
  case atStart=>exact⟨[],[],_,0,0,0,rfl,rfl,rfl,by omega,h0,HP0⟩
  case round=>
   clear h0 HP0
   obtain⟨ls,rs,vi,fr,k,ln,rfl,rfl,rfl,hk,hA,HP⟩:=hrel
   by_cases hlt:k<text.length
   ·have hki:(k:Int)<text.length:=by omega
    have hix:=fun W=>eO text k hlt W
    have hgd:text.getD k 0=text[k]:=by simp[List.getD_eq_getElem?_getD,hlt]
    rw[hgd] at hix
    clear hgd
    have HPon:=R (fun hc=>HP.out.on hlt hc)
    have HPtw:=R (fun hc hb ha=>HP.out.FG hlt hc hb ha)
    have HPlb:=R (fun hc hb ha=>HP.out.label hlt hc hb ha)
    have HPno:=R (fun hc hb hn=>HP.out.none_ hlt hc hb hn)
    have HPbg:=R (fun hc hb i nm hn h=>HP.out.Fq hlt hc hb (i:=i) (nm:=nm) hn h)
    have HPrw:=R (fun hc hb i nm hn h=>HP.out.row hlt hc hb (i:=i) (nm:=nm) hn h)
    have hfk:=HP.out.fk
    have hlk:=HP.out.lk
    have hfew:=HP.out.few
    have hmany:=HP.out.many
    generalize text[k]=ch at *
    by_cases h10:ch=10
    ·subst h10
     have hcs:=fun W=>nU text fr k hfk (by omega) W
     have hsl:((text.take k).drop fr).length<=text.length:=by simp;omega
     replace HPtw:=R (fun hb ha=>HPtw.out rfl hb ha)
     replace HPlb:=R (fun hb ha=>HPlb.out rfl hb ha)
     replace HPno:=R (fun hb hn=>HPno.out rfl hb hn)
     replace HPbg:=R (fun hb i nm hn h=>HPbg.out rfl hb i nm hn h)
     replace HPrw:=R (fun hb i nm hn h=>HPrw.out rfl hb i nm hn h)
     clear HPon
     generalize (text.take k).drop fr=s at *
     go_upto_region 13 with fail
     go_cut [55] (fun v wx=>wr=wx/\v=.bool (rO s))
     case first=>
      clear HPtw HPlb HPno HPbg HPrw HP hA
      by_cases hs0:0<s.length
      ·have hs1:(0:Int)<s.length:=by omega
       have HB:=R (FW hs0)
       have hlast:=fun W=>zX s hs0 W
       have hless:=fun W=>sM s hs0 W
       have HN:=R (fun W=>HNm.out s.dropLast W)
       generalize rO s=lbv at *
       generalize cE s.dropLast=nb at *
       generalize s.dropLast=dl at *
       generalize s.getD (s.length-1) 0=cl at *
       unfold bs at HN
       by_cases hc:cl=58
       ·subst hc
        go_wp2_with fail
        refine(HN.out _).mono ?_
        rintro e W2 ⟨rfl,rfl⟩
        go_wp2
        go_meet
        case rel=>exact⟨rfl,by rw[HB.out];simp⟩
       ·have hc2:((cl.toNat:Int)==58)=V:=by
         simp only[beq_eq_false_iff_ne,ne_eq]
         intro h
         apply hc
         apply UInt8.toNat_inj.1
         show cl.toNat=58
         omega
        have HF:Hid (lbv=V):=R (by rw[HB.out];simp[hc])
        clear hc HB
        go_wp2
        go_meet
        case rel=>exact⟨rfl,by rw[HF.out]⟩
      ·have hs1:¬ (0:Int)<s.length:=by omega
       have HF:=R (wv hs0)
       generalize rO s=lbv at *
       go_wp2
       go_meet
       case rel=>exact⟨rfl,by rw[HF.out]⟩
     case rest=>
      obtain⟨rfl,rfl⟩:=hcut
      cases hlb:rO s with
      | true=>
       replace HPtw:=R (HPtw.out hlb)
       replace HPlb:=R (HPlb.out hlb)
       have hs0:0<s.length:=by
        rcases Nat.eq_zero_or_pos s.length with h | h
        ·rw[wv (by omega)] at hlb;cases hlb
        ·exact h
       have hs1:(0:Int)<s.length:=by omega
       have hless:=fun W=>sM s hs0 W
       have hwr:IntKind.i64.wrap ((s.length:Int)-1)=(s.length:Int)-1:=IntWalk.i64_in _ (by omega)
       clear hlb HPno HPbg HPrw HP hix hcs
       have oD:s.dropLast.length<=s.length:=by simp
       generalize s.dropLast=dl at *
       obtain⟨al,capl,rfl,hcl1,hcl2,hLs⟩:=hA.zp
       go_upto_block 2 with fail
       generalize wr=wA at *
       go_cut [] (fun wx=>Below wA.heap.size wA wx/\Hid ((ls.any fun x=>x.1==dl)=V))
       case first=>
        go_wp2
        go_loopg [58] ls.length (fun gk i WW=>∃ j:Nat,i=I Q j/\j+gk=ls.length/\Below wA.heap.size wA WW/\Hid (((ls.take j).any fun x=>x.1==dl)=V))
        case atStart=>exact⟨0,rfl,by omega,U _ _,R (by simp)⟩
        case round=>
         obtain⟨j,rfl,hj,hbz,HW⟩:=hrel
         by_cases hjl:j<ls.length
         ·have hji:(j:Int)<ls.length:=by omega
          obtain⟨g,rfl,hgl,e0,e1⟩:=(hLs.below hbz) j _ (List.getElem?_eq_getElem hjl)
          have HA:=R (yZ ls (fun x=>x.1==dl) j hjl)
          have HT:Hid ((ls[j].1==dl)=true->(ls.any fun x=>x.1==dl)=true):=R fun h=>List.any_eq_true.2 ⟨ls[j],List.getElem_mem hjl,h⟩
          generalize ls[j]=x at *
          obtain⟨nm,at_⟩:=x
          simp only at e0 e1 HA HT
          unfold bs at e0
          go_upto_region 17 with fail
          have k1:=Bk.made wr 145 #[.string ⟨nm.toArray⟩,I Q at_]
          replace hbz:=hbz.alloc (o:=T #[.string ⟨nm.toArray⟩,I Q at_] 145) hbz.size
          clear e0 e1 hgl
          generalize wr.heap.size=q8 at *
          generalize wr.alloc (T #[.string ⟨nm.toArray⟩,I Q at_] 145)=y at *
          have y0:y.cell? ⟨q8,0,O⟩=Z (.string ⟨nm.toArray⟩):=k1.cell 0
          cases he:(nm==dl) with
          | false=>
           have HW2:Hid (((ls.take (j+1)).any fun x=>x.1==dl)=V):=R (by rw[HA.out,HW.out,he];rfl)
           clear HA HT HW
           go_quiet (fail)
           have hdr:Below wA.heap.size wA (y.drewN nq):=⟨hbz.os,hbz.tape,hbz.output,hbz.size,hbz.block⟩
           go_wp2
           go_roundg (gk-1)
           case rel=>exact⟨j+1,by go_num,by omega,hdr,HW2⟩
           case measure=>omega
          | true=>
           obtain rfl:nm=dl:=by simpa using he
           replace HPtw:=R (HPtw.out (HT.out he))
           clear HA HT HW he
           replace hA:=hA.below hbz
           go_quiet (fail)
           replace hA:=hA.below (X:=y.drewN nq) ⟨rfl,rfl,rfl,K _,fun _ _=>rfl⟩
           generalize y.drewN nq=y5 at *
           clear y0
           obtain⟨y0,y1,y2⟩:=hA.r.iS
           have yf:=hA.r.free
           go_upto_region 18 with fail
           go_wp
           have h9:=eu hA.r (P O 0 0) (I Q 0) (I Q 0)
           have b9:=bP hA.b (K _) (P O 0 0) (I Q 0) (I Q 0)
           generalize hv:(((y5.setCell ⟨w.heap.size,0,O⟩ (P O 0 0)).setCell ⟨w.heap.size,1,O⟩ (I Q 0)).setCell ⟨w.heap.size,2,O⟩ (I Q 0))=v9
           replace hv:dF y5 w.heap.size (P O 0 0) (I Q 0) (I Q 0)=v9:=hv
           rw[hv] at h9 b9
           obtain⟨r0,r1,r2⟩:=h9.iS
           exact bodyPost_ret (v:=.tuple #[.agg #[P O 0 0,I Q 0,I Q 0],I Q ((ln:Int)+1),I Q 2]) (by simp[results,Tryz.results29,go_sem,r0,r1,r2]) rfl (iK HPtw.out b9)
         ·have hji:¬ (j:Int)<ls.length:=by omega
          obtain rfl:j=ls.length:=by omega
          rw[List.take_length] at HW
          go_wp2
          go_meet
          case rel=>exact⟨hbz,HW⟩
       case rest=>
        obtain⟨hbz,HW⟩:=hcut
        replace HPlb:=R (HPlb.out HW.out)
        clear HPtw HW hLs
        replace hA:=hA.below hbz
        clear hbz
        generalize wc=y at *
        obtain⟨ai,capi,hvi,hci1,hci2,_⟩:=aX hA.i
        rw[List.length_map] at hvi hci1
        subst hvi
        have o0:y.cell? ⟨w.heap.size+1,0,O⟩=Z (P ai rs.length capi):=hA.o.cell 0
        have rb:∀ o,(y.alloc o).cell? ⟨w.heap.size+1,0,O⟩=Z (P ai rs.length capi):=fun o=>(hA.o.alloc o).cell 0
        have HO:Hid ((y.drew.alloc (T #[.string ⟨dl.toArray⟩,I Q rs.length] 145)).ownsRow w.heap.size 145 2 (P al ls.length capl) ls.length (mD ls)):=R (World.ownsRow.alloc (w:=y.drew) hA.l _)
        have HN2:=R (fB (Bk.made y.drew 145 #[.string ⟨dl.toArray⟩,I Q rs.length]))
        have hbX:Below y.heap.size y (y.drew.alloc (T #[.string ⟨dl.toArray⟩,I Q rs.length] 145)):=((U y.heap.size y).drew).alloc (K _) _
        have HBS:Hid (w.heap.size<=(y.drew.alloc (T #[.string ⟨dl.toArray⟩,I Q rs.length] 145)).heap.size):=R (Nat.le_trans hA.b.size hbX.size)
        have HEND:Hid (∀ w' v',w'.ownsRow w.heap.size 145 2 v' (ls.length+1) (mD ls++rH (dl,(rs.length:Int)))->(y.drew.alloc (T #[.string ⟨dl.toArray⟩,I Q rs.length] 145)).grownBy w' (Value.slice al ls.length capl).ownBlock->pf w w' (rs.map (·.1)) (ls++[(dl,(rs.length:Int))]) (rs.map (·.2.1)) (rs.map (·.2.2)) (P ai rs.length capi) v' u7 u8):=R fun w' v' ho hg=>hA.lab hbX hg ho
        clear hA hbX
        go_upto_region 20 with fail
        go_region_law (refine kv rfl (.tmp 73) (.tmp 83) 141 rfl _ 24 Tryz.underlying141 CK rfl (by omega) (by omega) HO.out (by simp[Act.eval]) (rH (dl,(rs.length:Int))) rfl (Av _) y.heap.size (by simp[Act.eval]) HN2.out (by omega) HBS.out ?_;intro v' w' hown hgr hloc;have HS:=R (HEND.out w' v' hown hgr);obtain⟨a5,cap5,rfl,_,_,_⟩:=aX hown)
        all_goals (
         go_wp2
         go_roundg (gk-1)
         case rel=>exact⟨_,rs,_,k+1,k+1,ln+1,by go_num,by go_num,by go_num,by omega,HS.out,HPlb⟩
         case measure=>omega)
      | false=>
       replace HPno:=R (HPno.out hlb)
       replace HPbg:=R (HPbg.out hlb)
       replace HPrw:=R (HPrw.out hlb)
       clear hlb HPtw HPlb HP hix hcs
       have HL:=R (fun W=>HLn.out s (by omega) W)
       unfold bs at HL
       generalize ee s=li at *
       go_wp2_with fail
       refine(HL.out _).mono ?_
       rintro e W2 ⟨rfl,hW2⟩
       replace hA:=hA.below hW2
       clear hW2 HL
       rcases li with _ | ⟨⟨op,d,s',t,u,a,k',pl⟩,nm⟩
       ·rw[show BH O=.tuple #[.agg #[I Q 0,I Q 0,I Q 0,I Q 0,I Q 0,I Q 0,I N 0,I Q 0],.string ⟨#[]⟩,.bool V] from rfl]
        replace HPno:=R (HPno.out rfl)
        go_upto_region 22 with fail
        replace hA:=hA.below (X:=W2.alloc (T #[I Q 0,I Q 0,I Q 0,I Q 0,I Q 0,I Q 0,I N 0,I Q 0] 123)) ((U _ _).alloc (K _) _)
        generalize W2.alloc (T #[I Q 0,I Q 0,I Q 0,I Q 0,I Q 0,I Q 0,I N 0,I Q 0] 123)=y at *
        obtain⟨y0,y1,y2⟩:=hA.r.iS
        have yf:=hA.r.free
        go_upto_region 23 with fail
        go_wp
        have h9:=eu hA.r (P O 0 0) (I Q 0) (I Q 0)
        have b9:=bP hA.b (K _) (P O 0 0) (I Q 0) (I Q 0)
        generalize hv:(((y.setCell ⟨w.heap.size,0,O⟩ (P O 0 0)).setCell ⟨w.heap.size,1,O⟩ (I Q 0)).setCell ⟨w.heap.size,2,O⟩ (I Q 0))=v9
        replace hv:dF y w.heap.size (P O 0 0) (I Q 0) (I Q 0)=v9:=hv
        rw[hv] at h9 b9
        obtain⟨r0,r1,r2⟩:=h9.iS
        exact bodyPost_ret (v:=.tuple #[.agg #[P O 0 0,I Q 0,I Q 0],I Q ((ln:Int)+1),I Q 8]) (by simp[results,Tryz.results29,go_sem,r0,r1,r2]) rfl (iK HPno.out b9)
       ·rw[show BH (Z (⟨op,d,s',t,u,a,k',pl⟩,nm))=.tuple #[.agg #[I Q op,I Q d,I Q s',I Q t,I Q u,I Q a,I N k',I Q pl],.string ⟨nm.toArray⟩,.bool true] from rfl]
        go_upto_region 22 with fail
        have m2:=Jb.made W2 op d s' t u a k' pl
        replace hA:=hA.below (X:=W2.alloc (T #[I Q op,I Q d,I Q s',I Q t,I Q u,I Q a,I N k',I Q pl] 123)) ((U _ _).alloc (K _) _)
        generalize W2.heap.size=gq at *
        generalize W2.alloc (T #[I Q op,I Q d,I Q s',I Q t,I Q u,I Q a,I N k',I Q pl] 123)=y at *
        obtain⟨c0,c1,c2,c3,c4,c5,c6,c7⟩:=m2.cells
        simp only at c0 c1 c2 c3 c4 c5 c6 c7
        obtain⟨ai,capi,hvi,hci1,hci2,_⟩:=aX hA.i
        rw[List.length_map] at hvi hci1
        subst hvi
        have o0:y.cell? ⟨w.heap.size+1,0,O⟩=Z (P ai rs.length capi):=hA.o.cell 0
        by_cases h64:64<=rs.length
        ·have h64i:(64:Int)<=rs.length:=by omega
         replace HPbg:=R (HPbg.out _ _ rfl h64)
         clear HPrw HPno
         obtain⟨y0,y1,y2⟩:=hA.r.iS
         have yf:=hA.r.free
         go_upto_region 25 with fail
         go_wp
         have h9:=eu hA.r (P O 0 0) (I Q 0) (I Q 0)
         have b9:=bP hA.b (K _) (P O 0 0) (I Q 0) (I Q 0)
         generalize hv:(((y.setCell ⟨w.heap.size,0,O⟩ (P O 0 0)).setCell ⟨w.heap.size,1,O⟩ (I Q 0)).setCell ⟨w.heap.size,2,O⟩ (I Q 0))=v9
         replace hv:dF y w.heap.size (P O 0 0) (I Q 0) (I Q 0)=v9:=hv
         rw[hv] at h9 b9
         obtain⟨r0,r1,r2⟩:=h9.iS
         exact bodyPost_ret (v:=.tuple #[.agg #[P O 0 0,I Q 0,I Q 0],I Q ((ln:Int)+1),I Q 9]) (by simp[results,Tryz.results29,go_sem,r0,r1,r2]) rfl (iK HPbg.out b9)
        ·have h64i:¬ (64:Int)<=rs.length:=by omega
         replace HPrw:=R (HPrw.out _ _ rfl (by omega))
         clear HPbg HPno
         obtain⟨an,capn,hvn,hcn1,hcn2,_⟩:=aX hA.n
         rw[List.length_map] at hvn hcn1
         subst hvn
         obtain⟨ak,capk,hvk,hck1,hck2,_⟩:=aX hA.k
         rw[List.length_map] at hvk hck1
         subst hvk
         have HO:=R (World.ownsRow.alloc hA.i (T #[I Q op,I Q d,I Q s',I Q t,I Q u,I Q a,I N k',I Q pl] 123))
         rw[List.length_map] at HO
         have HN2:=R (fB (Bk.made y 123 #[I Q op,I Q d,I Q s',I Q t,I Q u,I Q a,I N k',I Q pl]))
         have hbX:Below y.heap.size y (y.alloc (T #[I Q op,I Q d,I Q s',I Q t,I Q u,I Q a,I N k',I Q pl] 123)):=(U _ _).alloc (K _) _
         have HBS:Hid (w.heap.size<=(y.alloc (T #[I Q op,I Q d,I Q s',I Q t,I Q u,I Q a,I N k',I Q pl] 123)).heap.size):=R (Nat.le_trans hA.b.size hbX.size)
         have HMID:Hid (∀ w',(y.alloc (T #[I Q op,I Q d,I Q s',I Q t,I Q u,I Q a,I N k',I Q pl] 123)).grownBy w' (Value.slice ai rs.length capi).ownBlock->Bk w' (w.heap.size+1) 34 #[P ai rs.length capi,I Q 0,I Q 0]):=R fun w' hg=>hA.mid hbX hg
         have HEND:Hid (∀ w' v',w'.ownsRow w.heap.size 123 8 v' (rs.length+1) (bu (rs.map (·.1))++jJ ⟨op,d,s',t,u,a,k',pl⟩)->(y.alloc (T #[I Q op,I Q d,I Q s',I Q t,I Q u,I Q a,I N k',I Q pl] 123)).grownBy w' (Value.slice ai rs.length capi).ownBlock->pf w (w'.setCell ⟨w.heap.size+1,0,O⟩ v') (rs.map (·.1)++[⟨op,d,s',t,u,a,k',pl⟩]) ls (rs.map (·.2.1)) (rs.map (·.2.2)) v' u6 (P an rs.length capn) (P ak rs.length capk)):=R fun w' v' ho hg=>hA.ins hbX hg (by rw[List.length_map];exact ho)
         clear hA hbX
         go_upto_region 27 with (at_builtin;refine tV rfl _ _ 32 rfl _ 64 Tryz.underlying32 vX rfl (by omega) (by omega) HO.out rfl (jJ ⟨op,d,s',t,u,a,k',pl⟩) rfl (ot _) y.heap.size rfl HN2.out (by omega) HBS.out ?_;intro v' w' hown hgr hloc;have hcc:=HMID.out w' hgr;have cc0:w'.cell? ⟨w.heap.size+1,0,O⟩=Z (P ai rs.length capi):=hcc.cell 0;have cf0:=hcc.free 0;have HS:=R (HEND.out w' v' hown hgr);obtain⟨a3,cap3,rfl,_,_,_⟩:=aX hown)
         have hA:=HS.out
         clear HS HEND HMID HBS HN2 HO cc0 cf0 hcc hown hgr hloc c0 c1 c2 c3 c4 c5 c6 c7 o0 m2
         generalize w'.setCell ⟨w.heap.size+1,0,O⟩ (P a3 (rs.length+1) cap3)=y2 at *
         have HO:=R (World.ownsRow.alloc hA.n (T #[.string ⟨nm.toArray⟩] 9))
         rw[List.length_map] at HO
         have HN2:=R (fB (Bk.made y2 9 #[.string ⟨nm.toArray⟩]))
         have hbX:Below y2.heap.size y2 (y2.alloc (T #[.string ⟨nm.toArray⟩] 9)):=(U _ _).alloc (K _) _
         have HBS:Hid (w.heap.size<=(y2.alloc (T #[.string ⟨nm.toArray⟩] 9)).heap.size):=R (Nat.le_trans hA.b.size hbX.size)
         have HEND:Hid (∀ w' v',w'.ownsRow w.heap.size 9 1 v' (rs.length+1) ((rs.map (·.2.1)).map bs++[bs nm])->(y2.alloc (T #[.string ⟨nm.toArray⟩] 9)).grownBy w' (Value.slice an rs.length capn).ownBlock->pf w w' (rs.map (·.1)++[⟨op,d,s',t,u,a,k',pl⟩]) ls (rs.map (·.2.1)++[nm]) (rs.map (·.2.2)) (P a3 (rs.length+1) cap3) u6 v' (P ak rs.length capk)):=R fun w' v' ho hg=>hA.Hg hbX hg (by rw[List.length_map];exact ho)
         clear hA hbX
         go_upto_region 28 with (at_builtin;refine tV rfl _ _ 142 rfl _ 16 Tryz.underlying142 B7 rfl (by omega) (by omega) HO.out rfl [bs nm] rfl (by intro u hu;simp at hu;subst hu;rfl) y2.heap.size rfl HN2.out (by omega) HBS.out ?_;intro v' w' hown hgr hloc;have HS:=R (HEND.out w' v' hown hgr);obtain⟨a4,cap4,rfl,_,_,_⟩:=aX hown)
         have hA:=HS.out
         clear HS HEND HBS HN2 HO hown hgr hloc
         generalize w'=y3 at *
         have HO:=R (World.ownsRow.alloc hA.k (T #[I Q ((ln:Int)+1)] 3))
         rw[List.length_map] at HO
         have HN2:=R (fB (Bk.made y3 3 #[I Q ((ln:Int)+1)]))
         have hbX:Below y3.heap.size y3 (y3.alloc (T #[I Q ((ln:Int)+1)] 3)):=(U _ _).alloc (K _) _
         have HBS:Hid (w.heap.size<=(y3.alloc (T #[I Q ((ln:Int)+1)] 3)).heap.size):=R (Nat.le_trans hA.b.size hbX.size)
         have HEND:Hid (∀ w' v',w'.ownsRow w.heap.size 3 1 v' (rs.length+1) ((rs.map (·.2.2)).map (Value.int .i64)++[I Q ((ln:Int)+1)])->(y3.alloc (T #[I Q ((ln:Int)+1)] 3)).grownBy w' (Value.slice ak rs.length capk).ownBlock->pf w w' (rs.map (·.1)++[⟨op,d,s',t,u,a,k',pl⟩]) ls (rs.map (·.2.1)++[nm]) (rs.map (·.2.2)++[(ln:Int)+1]) (P a3 (rs.length+1) cap3) u6 (P a4 (rs.length+1) cap4) v'):=R fun w' v' ho hg=>hA.Hi hbX hg (by rw[List.length_map];exact ho)
         clear hA hbX
         go_wp2_with (at_builtin;refine tV rfl _ _ 25 rfl _ 8 Tryz.underlying25 C8 rfl (by omega) (by omega) HO.out rfl [I Q ((ln:Int)+1)] rfl (by intro u hu;simp at hu;subst hu;rfl) y3.heap.size rfl HN2.out (by omega) HBS.out ?_;intro v' w' hown hgr hloc;have HS:=R (HEND.out w' v' hown hgr);obtain⟨a5,cap5,rfl,_,_,_⟩:=aX hown)
         go_roundg (gk-1)
         case rel=>exact⟨ls,_,_,k+1,k+1,ln+1,by go_num,by go_num,by go_num,by omega,by simpa using HS.out,HPrw⟩
         case measure=>omega
    ·have hne:((ch.toNat:Int) != 10)=true:=by
      simp only[bne_iff_ne,ne_eq]
      intro h
      apply h10
      apply UInt8.toNat_inj.1
      show ch.toNat=10
      omega
     replace HPon:=R (HPon.out h10)
     clear h10 HPtw HPlb HPno HPbg HPrw HP
     go_wp2
     go_roundg (gk-1)
     case rel=>exact⟨ls,rs,vi,fr,k+1,ln,rfl,rfl,by go_num,by omega,hA,HPon⟩
     case measure=>omega
   ·have hki:¬ (k:Int)<text.length:=by omega
    obtain rfl:k=text.length:=by omega
    go_wp2
    go_meet
    case rel=>exact⟨ls,rs,vi,fr,ln,rfl,rfl,hA,HP⟩
 case rest=>
  clear h0 HP0 HLn HNm
  obtain⟨ls,rs,vi,fr,ln,rfl,rfl,hA,HP⟩:=hcut
  have hfk:=HP.out.fk
  have hlk:=HP.out.lk
  have hfew:=HP.out.few
  have hmany:=HP.out.many
  generalize wc=y at *
  by_cases hf:fr<text.length
  ·have HQ:=R (HP.out.short hf)
   have hfi:(fr:Int)<text.length:=by omega
   clear HP
   obtain⟨y0,y1,y2⟩:=hA.r.iS
   have yf:=hA.r.free
   go_upto_region 30 with fail
   go_wp
   have h9:=eu hA.r (P O 0 0) (I Q 0) (I Q 0)
   have b9:=bP hA.b (K _) (P O 0 0) (I Q 0) (I Q 0)
   generalize hv:(((y.setCell ⟨w.heap.size,0,O⟩ (P O 0 0)).setCell ⟨w.heap.size,1,O⟩ (I Q 0)).setCell ⟨w.heap.size,2,O⟩ (I Q 0))=v9
   replace hv:dF y w.heap.size (P O 0 0) (I Q 0) (I Q 0)=v9:=hv
   rw[hv] at h9 b9
   obtain⟨r0,r1,r2⟩:=h9.iS
   exact bodyPost_ret (v:=.tuple #[.agg #[P O 0 0,I Q 0,I Q 0],I Q ((ln:Int)+1),I Q 8]) (by simp[results,Tryz.results29,go_sem,r0,r1,r2]) rfl (iK HQ.out b9)
  ·have HQ:=R (HP.out.end_ hf)
   have hfi:¬ (fr:Int)<text.length:=by omega
   clear HP
   obtain⟨al,capl,rfl,hcl1,hcl2,hLs⟩:=hA.zp
   obtain⟨ai,capi,hvi,hci1,hci2,hgi⟩:=aX hA.i
   rw[List.length_map] at hvi hci1
   subst hvi
   obtain⟨an,capn,hvn,hcn1,hcn2,hgn⟩:=aX hA.n
   rw[List.length_map] at hvn hcn1
   subst hvn
   obtain⟨ak,capk,hvk,hck1,hck2,hgk⟩:=aX hA.k
   rw[List.length_map] at hvk hck1
   subst hvk
   have o0:y.cell? ⟨w.heap.size+1,0,O⟩=Z (P ai rs.length capi):=hA.o.cell 0
   clear hLs hgi hgn hgk
   go_upto_block 4 with fail
   go_cut [] (fun wx=>∃ done:List aU,done.length=rs.length/\pf w wx done ls (rs.map (·.2.1)) (rs.map (·.2.2)) (P ai rs.length capi) (P al ls.length capl) (P an rs.length capn) (P ak rs.length capk)/\Hid (gz ls rs.length rs=.inr done))
   case first=>
    go_wp2
    go_loopg [125] rs.length (fun gk i wr=>∃ (j:Nat) (done:List aU),i=I Q j/\j+gk=rs.length/\done.length=j/\pf w wr (done++(rs.drop j).map (·.1)) ls (rs.map (·.2.1)) (rs.map (·.2.2)) (P ai rs.length capi) (P al ls.length capl) (P an rs.length capn) (P ak rs.length capk)/\Hid (gz ls rs.length rs=iY done (gz ls rs.length (rs.drop j))))
    case atStart=>exact⟨0,[],rfl,by omega,rfl,hA,R (by rw[pO,List.drop_zero])⟩
    case round=>
     clear hA o0
     obtain⟨j,done,rfl,hj,oD,hA,HJ⟩:=hrel
     by_cases hjl:j<rs.length
     ·have hji:(j:Int)<rs.length:=by omega
      have HD:=R (List.drop_eq_getElem_cons hjl)
      have hgn:((rs.map (·.2.1)).map bs)[j]?=Z (bs rs[j].2.1):=by simp[hjl]
      have hgk:((rs.map (·.2.2)).map (Value.int .i64))[j]?=Z (I Q rs[j].2.2):=by simp[hjl]
      generalize rs[j]=r at *
      obtain⟨⟨op,d,s',t,u,a,k',pl⟩,nm,row⟩:=r
      simp only at hgn hgk
      obtain⟨gn,rfl,hgnl,en⟩:=vI hA.n hgn
      obtain⟨gr,rfl,hgrl,er⟩:=vI hA.k hgk
      have HGK:=R hgk
      clear hgn hgk
      unfold bs at en
      rw[HD.out] at hA HJ
      simp only[List.map_cons] at hA
      by_cases hnm:nm=[]
      ·subst hnm
       rw[pM] at HJ
       clear er
       go_wp2
       go_roundg (gk-1)
       case rel=>exact⟨j+1,done++[⟨op,d,s',t,u,a,k',pl⟩],by go_num,by omega,by simp[oD],by simpa using hA,HJ⟩
       case measure=>omega
      ·have hne1:nm.isEmpty=V:=by simpa using hnm
       have hne2:(nm==[])=V:=by simpa using hnm
       have hat:(done++(⟨op,d,s',t,u,a,k',pl⟩ :: (rs.drop (j+1)).map (·.1)))[j]?=Z ⟨op,d,s',t,u,a,k',pl⟩:=by rw[<-oD];simp
       obtain⟨gi,rfl,hgil,hgib,ei,hfi⟩:=hA.place hat
       have o0:wr.cell? ⟨w.heap.size+1,0,O⟩=Z (P (Z ⟨gi,0,O⟩) rs.length capi):=hA.o.cell 0
       obtain⟨al2,capl2,hal,_,_,hLs⟩:=hA.zp
       simp only[Value.slice.injEq,true_and] at hal
       obtain⟨rfl,rfl⟩:=hal
       have HFD:Hid (∀ W,Below wr.heap.size wr W->Calls Tryz.prog 65 #[P al ls.length capl,.string ⟨nm.toArray⟩,I Q (rs.length:Int)] W fun e w'=>e=.returned (I Q (bf ls nm rs.length))/\Below W.heap.size W w'):=R fun W hW=>vD ls nm (rs.length:Int) al capl W (hLs.below hW) (by omega)
       have HJN:=R (fun h=>(HJ.out.trans (pN ls rs.length done ⟨op,d,s',t,u,a,k',pl⟩ nm hnm row (rs.drop (j+1)) h)))
       have HJB:=R (fun h=>(HJ.out.trans (tk ls rs.length done ⟨op,d,s',t,u,a,k',pl⟩ nm hnm row (rs.drop (j+1)) h)))
       have hfdb:bf ls nm rs.length<9223372036854775807:=by
        rcases Int.lt_or_le (bf ls nm rs.length) 0 with h | h
        ·omega
        ·have:=AM h
         omega
       generalize bf ls nm rs.length=fd at *
       have HC:Hid (∀ W,Below wr.heap.size wr W->W.cell? ⟨w.heap.size+1,0,O⟩=Z (P (Z ⟨gi,0,O⟩) rs.length capi)/\W.cell? ⟨gn,j,O⟩=Z (.string ⟨nm.toArray⟩)):=R fun W hW=>⟨(hW.cell (p:=⟨w.heap.size+1,0,O⟩) hA.o.lt).trans o0,(hW.cell (p:=⟨gn,j,O⟩) hgnl).trans en⟩
       clear HJ HD hnm hLs
       go_upto_region 35 with fail
       clear o0 en ei
       refine du 14 (fun vs=>{ tmps:=#[.string ⟨text.toArray⟩,J,S (Z ⟨w.heap.size,0,O⟩),u3,u4,S (Z ⟨w.heap.size+1,0,O⟩),P al ls.length capl,P (Z ⟨gn,0,O⟩) rs.length capn,P (Z ⟨gr,0,O⟩) rs.length capk,I Q (fr:Int),I Q (ln:Int),u11,u12,J,u14,u15,u16,u17,I Q (j:Int),u19,u20,u21,u22,u23,u24,u25,u26,u27,u28,u29,u30,u31,u32,u33,u34,u35,u36,u37,u38,u39,u40,u41,u42,u43,u44,u45,u46,u47,u48,u49,u50,u51,u52,u53,u54,u55,u56,u57,u58,u59,u60,u61,u62,u63,u64,u65,u66,u67,u68,u69,u70,u71,u72,u73,u74,u75,u76,u77,u78,u79,u80,u81,u82,u83,u84,u85,u86,u87,u88,u89,u90,u91,u92,u93,u94,u95,u96,u97,u98,u99,u100,u101,u102,u103,u104,u105,u106,u107,u108,u109,u110,u111,u112,u113,u114,I Q (fr:Int),.string ⟨text.toArray⟩,I Q (text.length:Int),.bool V,J,J,J,S (Z ⟨w.heap.size+1,0,O⟩),P (Z ⟨gi,0,O⟩) rs.length capi,I Q (rs.length:Int),I Q (j:Int),.bool true,I Q (j:Int),P (Z ⟨gn,0,O⟩) rs.length capn,I Q (j:Int),S (Z ⟨gn,j,O⟩),.string ⟨nm.toArray⟩,.bool V,vs 0,vs 1,vs 2,vs 3,vs 4,vs 5,vs 6,vs 7,vs 8,vs 9,vs 10,vs 11,vs 12,vs 13,u147,u148,u149,u150,u151,u152,u153,u154,u155,u156,u157,u158,u159,J,J,J,J,J,J,J,J,J,J,J,J,J,J,J,J,J,J,J,J,J,J],defers:=[] }) (vA [S (Z ⟨w.heap.size+1,0,O⟩),P (Z ⟨gi,0,O⟩) rs.length capi,I Q (j:Int),P al ls.length capl,P (Z ⟨gn,0,O⟩) rs.length capn,I Q (j:Int),S (Z ⟨gn,j,O⟩),.string ⟨nm.toArray⟩,S (Z ⟨w.heap.size+1,0,O⟩),P (Z ⟨gi,0,O⟩) rs.length capi,I Q (rs.length:Int),I Q fd,S (Z ⟨gi,j*8,O⟩),S (Z ⟨gi,j*8+7,O⟩)]) ?ghm ?ghr ?ght ?glit ?gstable ?gops ?gdone
       case ghm=>kernel_rfl
       case ghr=>kernel_rfl
       case ght=>kernel_rfl
       case glit=>intro vs;rfl
       case gstable=>exact eL
       case gops=>
        simp only[List.take_succ_cons,List.take_zero]
        refine⟨?_,?_,?_,?_,?_,?_,?_,?_,?_,?_,?_,?_,?_,?_,trivial⟩
        ·intro vs W hW hd
         refine aa rfl ?_
         obtain⟨z0,z1⟩:=HC.out W hW
         go_simp
         exact⟨rfl,U _ _⟩
        ·intro vs W hW hd
         refine aa rfl ?_
         have e0:vs 0=S (Z ⟨w.heap.size+1,0,O⟩):=hd 0 (by decide)
         obtain⟨z0,z1⟩:=HC.out W hW
         go_simp
         exact⟨rfl,U _ _⟩
        ·intro vs W hW hd
         refine aa rfl ?_
         obtain⟨z0,z1⟩:=HC.out W hW
         go_simp
         exact⟨rfl,U _ _⟩
        ·intro vs W hW hd
         refine aa rfl ?_
         obtain⟨z0,z1⟩:=HC.out W hW
         go_simp
         exact⟨rfl,U _ _⟩
        ·intro vs W hW hd
         refine aa rfl ?_
         obtain⟨z0,z1⟩:=HC.out W hW
         go_simp
         exact⟨rfl,U _ _⟩
        ·intro vs W hW hd
         refine aa rfl ?_
         obtain⟨z0,z1⟩:=HC.out W hW
         go_simp
         exact⟨rfl,U _ _⟩
        ·intro vs W hW hd
         refine aa rfl ?_
         have e4:vs 4=P (Z ⟨gn,0,O⟩) rs.length capn:=hd 4 (by decide)
         have e5:vs 5=I Q (j:Int):=hd 5 (by decide)
         obtain⟨z0,z1⟩:=HC.out W hW
         go_simp
         exact⟨rfl,U _ _⟩
        ·intro vs W hW hd
         refine aa rfl ?_
         have e6:vs 6=S (Z ⟨gn,j,O⟩):=hd 6 (by decide)
         obtain⟨z0,z1⟩:=HC.out W hW
         go_simp
         exact⟨rfl,U _ _⟩
        ·intro vs W hW hd
         refine aa rfl ?_
         obtain⟨z0,z1⟩:=HC.out W hW
         go_simp
         exact⟨rfl,U _ _⟩
        ·intro vs W hW hd
         refine aa rfl ?_
         have e8:vs 8=S (Z ⟨w.heap.size+1,0,O⟩):=hd 8 (by decide)
         obtain⟨z0,z1⟩:=HC.out W hW
         go_simp
         exact⟨rfl,U _ _⟩
        ·intro vs W hW hd
         refine aa rfl ?_
         have e9:vs 9=P (Z ⟨gi,0,O⟩) rs.length capi:=hd 9 (by decide)
         obtain⟨z0,z1⟩:=HC.out W hW
         go_simp
         exact⟨rfl,U _ _⟩
        ·intro vs W hW hd
         refine aa rfl ?_
         have e3:vs 3=P al ls.length capl:=hd 3 (by decide)
         have e7:vs 7=.string ⟨nm.toArray⟩:=hd 7 (by decide)
         have e10:vs 10=I Q (rs.length:Int):=hd 10 (by decide)
         obtain⟨z0,z1⟩:=HC.out W hW
         have HS:=R (HFD.out W hW)
         clear hd
         go_simp
         refine HS.out.mono ?_
         rintro e y ⟨he,hy⟩
         exact⟨_,he,rfl,hy⟩
        ·intro vs W hW hd
         refine aa rfl ?_
         have e1:vs 1=P (Z ⟨gi,0,O⟩) rs.length capi:=hd 1 (by decide)
         have e2:vs 2=I Q (j:Int):=hd 2 (by decide)
         obtain⟨z0,z1⟩:=HC.out W hW
         go_simp
         exact⟨rfl,U _ _⟩
        ·intro vs W hW hd
         refine aa rfl ?_
         have e12:vs 12=S (Z ⟨gi,j*8,O⟩):=hd 12 (by decide)
         obtain⟨z0,z1⟩:=HC.out W hW
         go_simp
         exact⟨rfl,U _ _⟩
       case gdone=>
        intro vs W hW hf
        have f0:vs 0=S (Z ⟨w.heap.size+1,0,O⟩):=hf 0 (by decide)
        have f1:vs 1=P (Z ⟨gi,0,O⟩) rs.length capi:=hf 1 (by decide)
        have f2:vs 2=I Q (j:Int):=hf 2 (by decide)
        have f3:vs 3=P al ls.length capl:=hf 3 (by decide)
        have f4:vs 4=P (Z ⟨gn,0,O⟩) rs.length capn:=hf 4 (by decide)
        have f5:vs 5=I Q (j:Int):=hf 5 (by decide)
        have f6:vs 6=S (Z ⟨gn,j,O⟩):=hf 6 (by decide)
        have f7:vs 7=.string ⟨nm.toArray⟩:=hf 7 (by decide)
        have f8:vs 8=S (Z ⟨w.heap.size+1,0,O⟩):=hf 8 (by decide)
        have f9:vs 9=P (Z ⟨gi,0,O⟩) rs.length capi:=hf 9 (by decide)
        have f10:vs 10=I Q (rs.length:Int):=hf 10 (by decide)
        have f11:vs 11=I Q fd:=hf 11 (by decide)
        have f12:vs 12=S (Z ⟨gi,j*8,O⟩):=hf 12 (by decide)
        have f13:vs 13=S (Z ⟨gi,j*8+7,O⟩):=hf 13 (by decide)
        simp only[f0,f1,f2,f3,f4,f5,f6,f7,f8,f9,f10,f11,f12,f13,List.drop_succ_cons,List.drop_zero]
        clear hf f0 f1 f2 f3 f4 f5 f6 f7 f8 f9 f10 f11 f12 f13
        replace hA:=hA.below hW
        obtain⟨gi2,hgi2,hgil2,_,ei,hfi2⟩:=hA.place hat
        obtain rfl:gi=gi2:=by injection hgi2 with h;injection h
        have HT:=R (hA.G9 hat fd)
        have hmid:=(hfi2 (j*8+7))
        clear hgil2 hgi2 hfi hfi2 HFD HC
        go_upto_region 36 with fail
        replace hA:=HT.out
        clear HT ei hmid hat
        rw[Cb oD] at hA
        simp only at hA
        generalize W.setCell ⟨gi,j*8+7,O⟩ (I Q fd)=y2 at *
        have hat:(done++(⟨op,d,s',t,u,a,k',fd⟩ :: (rs.drop (j+1)).map (·.1)))[j]?=Z ⟨op,d,s',t,u,a,k',fd⟩:=by rw[<-oD];simp
        obtain⟨gi2,hgi2,hgil2,_,ei,_⟩:=hA.place hat
        obtain rfl:gi=gi2:=by injection hgi2 with h;injection h
        simp only at ei
        have o0:y2.cell? ⟨w.heap.size+1,0,O⟩=Z (P (Z ⟨gi,0,O⟩) rs.length capi):=hA.o.cell 0
        clear hgil2 hgi2 hat
        by_cases hfd:fd<0
        ·have HR:Hid (eQ text=(gp.zero,row,10)):=R (by rw[HQ.out];unfold dU;rw[HJB.out hfd])
         clear HJB HJN HQ
         obtain⟨gr2,hgr2,hgrl2,er⟩:=vI hA.k HGK.out
         obtain rfl:gr=gr2:=by injection hgr2 with h;injection h
         clear hgr2 hgrl2
         go_upto_region 37 with fail
         clear o0 ei
         obtain⟨y0,y1,y2'⟩:=hA.r.iS
         have yf:=hA.r.free
         have hrg:gr≠w.heap.size:=fun e=>cg hA.k hA.r (by decide) (by rw[e];rfl)
         have h9:Bk (dF y2 w.heap.size (P O 0 0) (I Q 0) (I Q 0)).drew _ _ _:=eu hA.r (P O 0 0) (I Q 0) (I Q 0)
         have b9:=(bP hA.b (K _) (P O 0 0) (I Q 0) (I Q 0)).drew
         go_region
         go_wp
         generalize hv:(((y2.setCell ⟨w.heap.size,0,O⟩ (P O 0 0)).setCell ⟨w.heap.size,1,O⟩ (I Q 0)).setCell ⟨w.heap.size,2,O⟩ (I Q 0)).drew=v9
         replace hv:(dF y2 w.heap.size (P O 0 0) (I Q 0) (I Q 0)).drew=v9:=hv
         rw[hv] at h9 b9
         obtain⟨r0,r1,r2⟩:=h9.iS
         exact bodyPost_ret (v:=.tuple #[.agg #[P O 0 0,I Q 0,I Q 0],I Q row,I Q 10]) (by simp[results,Tryz.results29,go_sem,r0,r1,r2]) rfl (iK HR.out b9)
        ·have HR:=R (HJN.out (by omega))
         clear HJB HJN HQ HGK
         go_wp2
         go_roundg (gk-1)
         case rel=>exact⟨j+1,done++[⟨op,d,s',t,u,a,k',fd⟩],by go_num,by omega,by simp[oD],by simpa using hA,HR⟩
         case measure=>omega
     ·have hji:¬ (j:Int)<rs.length:=by omega
      obtain rfl:j=rs.length:=by omega
      rw[List.drop_of_length_le (K _)] at hA HJ
      go_wp2
      go_meet
      case rel=>exact⟨done,oD,by simpa using hA,R (by rw[HJ.out];simp[gz,iY])⟩
   case rest=>
    obtain⟨done,oD,hA,HJ⟩:=hcut
    generalize wc=y at *
    obtain⟨al2,capl2,hal,_,_,hLs⟩:=hA.zp
    simp only[Value.slice.injEq,true_and] at hal
    obtain⟨rfl,rfl⟩:=hal
    have HF1:Hid (∀ W,Below y.heap.size y W->Calls Tryz.prog 65 #[P al ls.length capl,.string ⟨#[108,111,99,107]⟩,I Q (rs.length:Int)] W fun e w'=>e=.returned (I Q (bf ls fR rs.length))/\Below W.heap.size W w'):=R fun W hW=>vD ls fR (rs.length:Int) al capl W (hLs.below hW) (by omega)
    have HF2:Hid (∀ W,Below y.heap.size y W->Calls Tryz.prog 65 #[P al ls.length capl,.string ⟨#[117,110,108,111,99,107]⟩,I Q (rs.length:Int)] W fun e w'=>e=.returned (I Q (bf ls dt rs.length))/\Below W.heap.size W w'):=R fun W hW=>vD ls dt (rs.length:Int) al capl W (hLs.below hW) (by omega)
    have HFN:Hid (eQ text=if bf ls fR rs.length<0\/bf ls dt rs.length<0 then (gp.zero,0,10) else (⟨done,bf ls fR rs.length,bf ls dt rs.length⟩,0,0)):=R (by rw[HQ.out];unfold dU;rw[HJ.out])
    generalize bf ls fR rs.length=fl at *
    generalize bf ls dt rs.length=fu at *
    have HC:Hid (∀ W,Below y.heap.size y W->W.cell? ⟨w.heap.size+1,0,O⟩=Z (P ai rs.length capi)):=R fun W hW=>(hW.cell (p:=⟨w.heap.size+1,0,O⟩) hA.o.lt).trans (hA.o.cell 0)
    clear HQ HJ hLs o0
    go_upto_region 39 with fail
    refine du 11 (fun vs=>{ tmps:=#[.string ⟨text.toArray⟩,J,S (Z ⟨w.heap.size,0,O⟩),u3,u4,S (Z ⟨w.heap.size+1,0,O⟩),P al ls.length capl,P an rs.length capn,P ak rs.length capk,I Q (fr:Int),I Q (ln:Int),u11,u12,J,u14,u15,u16,u17,u18,u19,u20,u21,u22,u23,u24,u25,u26,u27,u28,u29,u30,u31,u32,u33,u34,u35,u36,u37,u38,u39,u40,u41,u42,u43,u44,u45,u46,u47,u48,u49,u50,u51,u52,u53,u54,u55,u56,u57,u58,u59,u60,u61,u62,u63,u64,u65,u66,u67,u68,u69,u70,u71,u72,u73,u74,u75,u76,u77,u78,u79,u80,u81,u82,u83,u84,u85,u86,u87,u88,u89,u90,u91,u92,u93,u94,u95,u96,u97,u98,u99,u100,u101,u102,u103,u104,u105,u106,u107,u108,u109,u110,u111,u112,u113,u114,I Q (fr:Int),.string ⟨text.toArray⟩,I Q (text.length:Int),.bool V,J,J,J,S (Z ⟨w.heap.size+1,0,O⟩),P ai rs.length capi,I Q (rs.length:Int),u125,u126,u127,u128,u129,u130,u131,u132,u133,u134,u135,u136,u137,u138,u139,u140,u141,u142,u143,u144,u145,u146,u147,u148,u149,u150,u151,u152,u153,u154,u155,u156,u157,u158,u159,vs 0,vs 1,vs 2,vs 3,vs 4,vs 5,vs 6,vs 7,vs 8,vs 9,vs 10,J,J,J,J,J,J,J,J,J,J,J],defers:=[] }) (vA [P al ls.length capl,S (Z ⟨w.heap.size+1,0,O⟩),P ai rs.length capi,I Q (rs.length:Int),I Q fl,P al ls.length capl,S (Z ⟨w.heap.size+1,0,O⟩),P ai rs.length capi,I Q (rs.length:Int),I Q fu,S (Z ⟨w.heap.size+1,1,O⟩)]) ?ghm ?ghr ?ght ?glit ?gstable ?gops ?gdone
    case ghm=>kernel_rfl
    case ghr=>kernel_rfl
    case ght=>kernel_rfl
    case glit=>intro vs;rfl
    case gstable=>exact eL
    case gops=>
     simp only[List.take_succ_cons,List.take_zero]
     refine⟨?_,?_,?_,?_,?_,?_,?_,?_,?_,?_,?_,trivial⟩
     ·intro vs W hW hd
      refine aa rfl ?_
      have z0:=HC.out W hW
      go_simp
      exact⟨rfl,U _ _⟩
     ·intro vs W hW hd
      refine aa rfl ?_
      have z0:=HC.out W hW
      go_simp
      exact⟨rfl,U _ _⟩
     ·intro vs W hW hd
      refine aa rfl ?_
      have e1:vs 1=S (Z ⟨w.heap.size+1,0,O⟩):=hd 1 (by decide)
      have z0:=HC.out W hW
      go_simp
      exact⟨rfl,U _ _⟩
     ·intro vs W hW hd
      refine aa rfl ?_
      have e2:vs 2=P ai rs.length capi:=hd 2 (by decide)
      have z0:=HC.out W hW
      go_simp
      exact⟨rfl,U _ _⟩
     ·intro vs W hW hd
      refine aa rfl ?_
      have e0:vs 0=P al ls.length capl:=hd 0 (by decide)
      have e3:vs 3=I Q (rs.length:Int):=hd 3 (by decide)
      have z0:=HC.out W hW
      have HS:=R (HF1.out W hW)
      clear hd
      go_simp
      refine HS.out.mono ?_
      rintro e y ⟨he,hy⟩
      exact⟨_,he,rfl,hy⟩
     ·intro vs W hW hd
      refine aa rfl ?_
      have z0:=HC.out W hW
      go_simp
      exact⟨rfl,U _ _⟩
     ·intro vs W hW hd
      refine aa rfl ?_
      have z0:=HC.out W hW
      go_simp
      exact⟨rfl,U _ _⟩
     ·intro vs W hW hd
      refine aa rfl ?_
      have e6:vs 6=S (Z ⟨w.heap.size+1,0,O⟩):=hd 6 (by decide)
      have z0:=HC.out W hW
      go_simp
      exact⟨rfl,U _ _⟩
     ·intro vs W hW hd
      refine aa rfl ?_
      have e7:vs 7=P ai rs.length capi:=hd 7 (by decide)
      have z0:=HC.out W hW
      go_simp
      exact⟨rfl,U _ _⟩
     ·intro vs W hW hd
      refine aa rfl ?_
      have e5:vs 5=P al ls.length capl:=hd 5 (by decide)
      have e8:vs 8=I Q (rs.length:Int):=hd 8 (by decide)
      have z0:=HC.out W hW
      have HS:=R (HF2.out W hW)
      clear hd
      go_simp
      refine HS.out.mono ?_
      rintro e y ⟨he,hy⟩
      exact⟨_,he,rfl,hy⟩
     ·intro vs W hW hd
      refine aa rfl ?_
      have z0:=HC.out W hW
      go_simp
      exact⟨rfl,U _ _⟩
    case gdone=>
     intro vs W hW hf
     have f0:vs 0=P al ls.length capl:=hf 0 (by decide)
     have f1:vs 1=S (Z ⟨w.heap.size+1,0,O⟩):=hf 1 (by decide)
     have f2:vs 2=P ai rs.length capi:=hf 2 (by decide)
     have f3:vs 3=I Q (rs.length:Int):=hf 3 (by decide)
     have f4:vs 4=I Q fl:=hf 4 (by decide)
     have f5:vs 5=P al ls.length capl:=hf 5 (by decide)
     have f6:vs 6=S (Z ⟨w.heap.size+1,0,O⟩):=hf 6 (by decide)
     have f7:vs 7=P ai rs.length capi:=hf 7 (by decide)
     have f8:vs 8=I Q (rs.length:Int):=hf 8 (by decide)
     have f9:vs 9=I Q fu:=hf 9 (by decide)
     have f10:vs 10=S (Z ⟨w.heap.size+1,1,O⟩):=hf 10 (by decide)
     simp only[f0,f1,f2,f3,f4,f5,f6,f7,f8,f9,f10,List.drop_succ_cons,List.drop_zero]
     clear hf f0 f1 f2 f3 f4 f5 f6 f7 f8 f9 f10
     replace hA:=hA.below hW
     clear HF1 HF2 HC hW
     have hO:=(hA.o.put 1 (I Q fl)).put 2 (I Q fu)
     have hR:=(hA.r.off (p:=⟨w.heap.size+1,1,O⟩) (by show w.heap.size≠w.heap.size+1;omega) (I Q fl)).off (p:=⟨w.heap.size+1,2,O⟩) (by show w.heap.size≠w.heap.size+1;omega) (I Q fu)
     have hb:=(hA.b.setCell (p:=⟨w.heap.size+1,1,O⟩) (by show w.heap.size<=w.heap.size+1;omega) (I Q fl)).setCell (p:=⟨w.heap.size+1,2,O⟩) (by show w.heap.size<=w.heap.size+1;omega) (I Q fu)
     have hI:=ar hA.i (((ag.refl W (fun b=>b=w.heap.size+1)).put (w.heap.size+1) 1 (I Q fl) (.inl rfl)).put (w.heap.size+1) 2 (I Q fu) (.inl rfl)) (fun b e e2=>by subst e2;exact cg hA.i hA.o (by decide) e.symm)
     obtain⟨o0,o1,o2⟩:=hA.o.iS
     have of:=hA.o.free
     clear hA
     go_upto_region 40 with fail
     clear o0 o1 o2 of
     generalize (W.setCell ⟨w.heap.size+1,1,O⟩ (I Q fl)).setCell ⟨w.heap.size+1,2,O⟩ (I Q fu)=y2 at *
     obtain⟨o0,o1,o2⟩:=hO.iS
     obtain⟨y0,y1,y2'⟩:=hR.iS
     have yf:=hR.free
     by_cases hfl:fl<0
     ·have HR:Hid (eQ text=(gp.zero,0,10)):=R (by rw[HFN.out,if_pos (.inl hfl)])
      clear HFN
      have h9:=eu hR (P O 0 0) (I Q 0) (I Q 0)
      have b9:=bP hb (K _) (P O 0 0) (I Q 0) (I Q 0)
      go_upto_region 41 with fail
      go_wp
      generalize hv:(((y2.setCell ⟨w.heap.size,0,O⟩ (P O 0 0)).setCell ⟨w.heap.size,1,O⟩ (I Q 0)).setCell ⟨w.heap.size,2,O⟩ (I Q 0))=v9
      replace hv:dF y2 w.heap.size (P O 0 0) (I Q 0) (I Q 0)=v9:=hv
      rw[hv] at h9 b9
      obtain⟨r0,r1,r2⟩:=h9.iS
      exact bodyPost_ret (v:=.tuple #[.agg #[P O 0 0,I Q 0,I Q 0],I Q 0,I Q 10]) (by simp[results,Tryz.results29,go_sem,r0,r1,r2]) rfl (iK HR.out b9)
     by_cases hfu:fu<0
     ·have HR:Hid (eQ text=(gp.zero,0,10)):=R (by rw[HFN.out,if_pos (.inr hfu)])
      clear HFN
      have h9:=eu hR (P O 0 0) (I Q 0) (I Q 0)
      have b9:=bP hb (K _) (P O 0 0) (I Q 0) (I Q 0)
      go_upto_region 41 with fail
      go_wp
      generalize hv:(((y2.setCell ⟨w.heap.size,0,O⟩ (P O 0 0)).setCell ⟨w.heap.size,1,O⟩ (I Q 0)).setCell ⟨w.heap.size,2,O⟩ (I Q 0))=v9
      replace hv:dF y2 w.heap.size (P O 0 0) (I Q 0) (I Q 0)=v9:=hv
      rw[hv] at h9 b9
      obtain⟨r0,r1,r2⟩:=h9.iS
      exact bodyPost_ret (v:=.tuple #[.agg #[P O 0 0,I Q 0,I Q 0],I Q 0,I Q 10]) (by simp[results,Tryz.results29,go_sem,r0,r1,r2]) rfl (iK HR.out b9)
     have HR:Hid (eQ text=(⟨done,fl,fu⟩,0,0)):=R (by rw[HFN.out,if_neg (by omega)])
     clear HFN
     have h9:=eu hR (P ai rs.length capi) (I Q fl) (I Q fu)
     have b9:=bP hb (K _) (P ai rs.length capi) (I Q fl) (I Q fu)
     have i9:(dF y2 w.heap.size (P ai rs.length capi) (I Q fl) (I Q fu)).ownsRow w.heap.size 123 8 (P ai rs.length capi) done.length (bu done):=ar hI ((((ag.refl y2 (fun b=>b=w.heap.size)).put w.heap.size 0 (P ai rs.length capi) (.inl rfl)).put w.heap.size 1 (I Q fl) (.inl rfl)).put w.heap.size 2 (I Q fu) (.inl rfl)) (fun b e e2=>by subst e2;exact cg hI hR (by decide) e.symm)
     go_upto_region 42 with fail
     go_wp
     generalize hv:(((y2.setCell ⟨w.heap.size,0,O⟩ (P ai rs.length capi)).setCell ⟨w.heap.size,1,O⟩ (I Q fl)).setCell ⟨w.heap.size,2,O⟩ (I Q fu))=v9
     replace hv:dF y2 w.heap.size (P ai rs.length capi) (I Q fl) (I Q fu)=v9:=hv
     rw[hv] at h9 b9 i9
     obtain⟨r0,r1,r2⟩:=h9.iS
     refine bodyPost_ret (v:=.tuple #[.agg #[P ai rs.length capi,I Q fl,I Q fu],I Q 0,I Q 0]) (by simp[results,Tryz.results29,go_sem,r0,r1,r2]) rfl ?_
     unfold BY
     rw[HR.out]
     rw[<-oD] at i9 ⊢
     exact⟨_,rfl,⟨_,rfl,i9⟩,b9⟩
