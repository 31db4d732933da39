import Derived.Test.YthdgehcghklflaaGreatDoorRAsmF
import Derived.Test.YthdgehcghklflaaGreatDoorRAsmX
import Derived.Test.YthdgehcghklflaaGreatDoorRRefP
import Derived.Test.YthdgehcghklflaaGreatDoorRMem
import Derived.Deep.DeepCutAuto
import Derived.Deep.LoopGhost
set_option linter.unusedVariables false
namespace Go.Proofs.YthdgehcghklflaaGreatDoor
open Go.ChangeShapes Go.WideShapes Go.ChangeAt Go.RowKit
theorem aat_start (w:World):AAt w ((w.alloc (.cells #[.slice none 0 0,.int .i64 0,.int .i64 0] 35)).alloc (.cells #[.slice none 0 0,.int .i64 0,.int .i64 0] 35)) [] [] [] [] (.slice none 0 0) (.slice none 0 0) (.slice none 0 0) (.slice none 0 0):=by
 obtain⟨b,k1,k2⟩:=two_boxes w 35 #[.slice none 0 0,.int .i64 0,.int .i64 0] #[.slice none 0 0,.int .i64 0,.int .i64 0]
 exact⟨b,k1,k2,World.ownsRow_nil _ _ _ _,World.ownsRow_nil _ _ _ _,World.ownsRow_nil _ _ _ _,World.ownsRow_nil _ _ _ _⟩
theorem lpa_start (text:List UInt8):LpA text 0 0 0 [] []:=⟨Nat.le_refl _,Nat.le_refl _,by simp,by simp,by intro c hc;simp at hc,by rw[asmGo_all];rfl⟩
theorem lb_none {s:List UInt8}(h:¬ 0 < s.length):lbB s=false:=by
 cases s with
 | nil=>rfl
 | cons a b=>simp at h
theorem lb_at {s:List UInt8}(h:0 < s.length):lbB s=(decide (s.getD (s.length - 1) 0=58) && nameB s.dropLast):=by
 have e1:s.isEmpty=false:=by cases s with
  | nil=>simp at h
  | cons a b=>rfl
 have e2:s.getLastD 0=s.getD (s.length - 1) 0:=by
  rw[List.getLastD_eq_getLast?,List.getLast?_eq_getElem?,List.getD_eq_getElem?_getD]
 unfold lbB
 rw[e1,e2]
 rfl
theorem run_less (s:List UInt8)(h:0 < s.length)(w:World):(Instr.slice 9 (.string ⟨s.toArray⟩) none (some (.int .i64 ((s.length:Int) - 1))) none).run Tryz.prog w=.ok (.string ⟨s.dropLast.toArray⟩) w:=by
 have e:((s.length - 1:Nat):Int)=(s.length:Int) - 1:=by omega
 rw[←e,List.dropLast_eq_take]
 exact run_ahead s (s.length - 1) (by omega) w
theorem run_last (s:List UInt8)(h:0 < s.length)(w:World):(Instr.index 9 (.string ⟨s.toArray⟩) (.int .i64 ((s.length:Int) - 1))).run Tryz.prog w=.ok (.int .u8 ((s.getD (s.length - 1) 0).toNat:Int)) w:=by
 have e:((s.length - 1:Nat):Int)=(s.length:Int) - 1:=by omega
 rw[←e]
 exact run_ltr s (s.length - 1) (by omega) w
theorem any_take2 (l:List (List UInt8×Int))(f:List UInt8×Int→Bool)(j:Nat)(h:j < l.length):(l.take (j+1)).any f=((l.take j).any f || f l[j]):=by
 have e:l.take (j+1)=l.take j++[l[j]]:=by simp
 rw[e,List.any_append]
 simp
theorem set_mid {done more:List Ins}{i x:Ins}{j:Nat}(h:done.length=j):(done++i :: more).set j x=done++x :: more:=by
 subst h
 rw[List.set_append_right _ _ (Nat.le_refl _),Nat.sub_self]
 rfl
set_option maxHeartbeats 40000000 in
set_option maxRecDepth 100000 in
theorem rAssemble (text:List UInt8)(hl:text.length < 80000)(w:World):
 Calls Tryz.prog 28 #[bs text] w (Asmr w text):=by
 have HLn:=Lib.hid (fun s (h:s.length < 90000) W=>rLine s h W)
 have HNm:=Lib.hid rName07
 have h0:=aat_start w
 have HP0:=Lib.hid (lpa_start text)
 unfold bs
 go_enter Tryz.func28,Tryz.ntmps28
 go_upto_block 0 with fail
 generalize (w.alloc (.cells #[.slice none 0 0,.int .i64 0,.int .i64 0] 35)).alloc (.cells #[.slice none 0 0,.int .i64 0,.int .i64 0] 35)=x at *
 go_cut [6,7,8,9,10] (fun sl sn sk f n wx=>∃ (ls:List (List UInt8×Int)) (rs:List (Ins×List UInt8×Int)) (vi:Value) (fr ln:Nat),f=.int .i64 fr∧n=.int .i64 ln∧AAt w wx (rs.map (·.1)) ls (rs.map (·.2.1)) (rs.map (·.2.2)) vi sl sn sk∧Hid (LpA text fr text.length ln ls rs))
 case first=>
  go_wp2
  go_loopg [6,7,8,9,10,11] text.length (fun gk sl sn sk f n i wr=>∃ (ls:List (List UInt8×Int)) (rs:List (Ins×List UInt8×Int)) (vi:Value) (fr k ln:Nat),f=.int .i64 fr∧n=.int .i64 ln∧i=.int .i64 k∧k+gk=text.length∧AAt w wr (rs.map (·.1)) ls (rs.map (·.2.1)) (rs.map (·.2.2)) vi sl sn sk∧Hid (LpA text fr k ln ls rs))
  case atStart=>exact⟨[],[],_,0,0,0,rfl,rfl,rfl,by omega,h0,HP0⟩
  case round=>
   clear h0 HP0
   obtain⟨ls,rs,vi,fr,k,ln,rfl,rfl,rfl,hk,hA,HP⟩:=hrel
   by_cases hlt:k < text.length
   ·have hki:(k:Int) < text.length:=by omega
    have hix:=fun W=>run_ltr text k hlt W
    have hgd:text.getD k 0=text[k]:=by simp[List.getD_eq_getElem?_getD,hlt]
    rw[hgd] at hix
    clear hgd
    have HPon:=Lib.hid (fun hc=>HP.out.on hlt hc)
    have HPtw:=Lib.hid (fun hc hb ha=>HP.out.twice hlt hc hb ha)
    have HPlb:=Lib.hid (fun hc hb ha=>HP.out.label hlt hc hb ha)
    have HPno:=Lib.hid (fun hc hb hn=>HP.out.none_ hlt hc hb hn)
    have HPbg:=Lib.hid (fun hc hb i nm hn h=>HP.out.big hlt hc hb (i:=i) (nm:=nm) hn h)
    have HPrw:=Lib.hid (fun hc hb i nm hn h=>HP.out.row hlt hc hb (i:=i) (nm:=nm) hn h)
    have hfk:=HP.out.fk
    have hlk:=HP.out.lk
    have hfew:=HP.out.few
    have hmany:=HP.out.many
    generalize text[k]=ch at *
    by_cases h10:ch=10
    ·subst h10
     have hcs:=fun W=>run_cutS text fr k hfk (by omega) W
     have hsl:((text.take k).drop fr).length≤text.length:=by simp;omega
     replace HPtw:=Lib.hid (fun hb ha=>HPtw.out rfl hb ha)
     replace HPlb:=Lib.hid (fun hb ha=>HPlb.out rfl hb ha)
     replace HPno:=Lib.hid (fun hb hn=>HPno.out rfl hb hn)
     replace HPbg:=Lib.hid (fun hb i nm hn h=>HPbg.out rfl hb i nm hn h)
     replace HPrw:=Lib.hid (fun hb i nm hn h=>HPrw.out rfl hb i nm hn h)
     clear HPon
     generalize (text.take k).drop fr=s at *
     go_upto_region 13 with fail
     go_cut [55] (fun v wx=>wr=wx∧v=.bool (lbB s))
     case first=>
      clear HPtw HPlb HPno HPbg HPrw HP hA
      by_cases hs0:0 < s.length
      ·have hs1:(0:Int) < s.length:=by omega
       have HB:=Lib.hid (lb_at hs0)
       have hlast:=fun W=>run_last s hs0 W
       have hless:=fun W=>run_less s hs0 W
       have HN:=Lib.hid (fun W=>HNm.out s.dropLast W)
       generalize lbB s=lbv at *
       generalize nameB s.dropLast=nb at *
       generalize s.dropLast=dl at *
       generalize s.getD (s.length - 1) 0=cl at *
       unfold bs at HN
       by_cases hc:cl=58
       ·subst hc
        go_wp2_with fail
        refine(HN.out _).mono ?_
        rintro e W2 ⟨rfl,rfl⟩
        go_wp2
        go_meet
        case rel=>exact⟨rfl,by rw[HB.out];simp⟩
       ·have hc2:((cl.toNat:Int)==58)=false:=by
         simp only[beq_eq_false_iff_ne,ne_eq]
         intro h
         apply hc
         apply UInt8.toNat_inj.1
         show cl.toNat=58
         omega
        have HF:Hid (lbv=false):=Lib.hid (by rw[HB.out];simp[hc])
        clear hc HB
        go_wp2
        go_meet
        case rel=>exact⟨rfl,by rw[HF.out]⟩
      ·have hs1:¬ (0:Int) < s.length:=by omega
       have HF:=Lib.hid (lb_none hs0)
       generalize lbB s=lbv at *
       go_wp2
       go_meet
       case rel=>exact⟨rfl,by rw[HF.out]⟩
     case rest=>
      obtain⟨rfl,rfl⟩:=hcut
      cases hlb:lbB s with
      | true=>
       replace HPtw:=Lib.hid (HPtw.out hlb)
       replace HPlb:=Lib.hid (HPlb.out hlb)
       have hs0:0 < s.length:=by
        rcases Nat.eq_zero_or_pos s.length with h | h
        ·rw[lb_none (by omega)] at hlb;cases hlb
        ·exact h
       have hs1:(0:Int) < s.length:=by omega
       have hless:=fun W=>run_less s hs0 W
       have hwr:IntKind.i64.wrap ((s.length:Int) - 1)=(s.length:Int) - 1:=IntWalk.i64_in _ (by omega)
       clear hlb HPno HPbg HPrw HP hix hcs
       have hdl:s.dropLast.length≤s.length:=by simp
       generalize s.dropLast=dl at *
       obtain⟨al,capl,rfl,hcl1,hcl2,hLs⟩:=hA.ls_at
       go_upto_block 2 with fail
       generalize wr=wA at *
       go_cut [] (fun wx=>Below wA.heap.size wA wx∧Hid ((ls.any fun x=>x.1==dl)=false))
       case first=>
        go_wp2
        go_loopg [58] ls.length (fun gk i WW=>∃ j:Nat,i=.int .i64 j∧j+gk=ls.length∧Below wA.heap.size wA WW∧Hid (((ls.take j).any fun x=>x.1==dl)=false))
        case atStart=>exact⟨0,rfl,by omega,Below.refl _ _,Lib.hid (by simp)⟩
        case round=>
         obtain⟨j,rfl,hj,hbz,HW⟩:=hrel
         by_cases hjl:j < ls.length
         ·have hji:(j:Int) < ls.length:=by omega
          obtain⟨g,rfl,hgl,e0,e1⟩:=(hLs.below hbz) j _ (List.getElem?_eq_getElem hjl)
          have HA:=Lib.hid (any_take2 ls (fun x=>x.1==dl) j hjl)
          have HT:Hid ((ls[j].1==dl)=true→(ls.any fun x=>x.1==dl)=true):=Lib.hid fun h=>List.any_eq_true.2 ⟨ls[j],List.getElem_mem hjl,h⟩
          generalize ls[j]=x at *
          obtain⟨nm,at_⟩:=x
          simp only at e0 e1 HA HT
          unfold bs at e0
          go_upto_region 17 with fail
          have k1:=Bk.made wr 147 #[.string ⟨nm.toArray⟩,.int .i64 at_]
          replace hbz:=hbz.alloc (o:=.cells #[.string ⟨nm.toArray⟩,.int .i64 at_] 147) hbz.size
          clear e0 e1 hgl
          generalize wr.heap.size=q8 at *
          generalize wr.alloc (.cells #[.string ⟨nm.toArray⟩,.int .i64 at_] 147)=y at *
          have y0:y.cell? ⟨q8,0,none⟩=some (.string ⟨nm.toArray⟩):=k1.cell 0
          cases he:(nm==dl) with
          | false=>
           have HW2:Hid (((ls.take (j+1)).any fun x=>x.1==dl)=false):=Lib.hid (by rw[HA.out,HW.out,he];rfl)
           clear HA HT HW
           go_quiet (fail)
           have hdr:Below wA.heap.size wA (y.drewN nq):=⟨hbz.os,hbz.tape,hbz.output,hbz.size,hbz.block⟩
           go_wp2
           go_roundg (gk - 1)
           case rel=>exact⟨j+1,by go_num,by omega,hdr,HW2⟩
           case measure=>omega
          | true=>
           obtain rfl:nm=dl:=by simpa using he
           replace HPtw:=Lib.hid (HPtw.out (HT.out he))
           clear HA HT HW he
           replace hA:=hA.below hbz
           go_quiet (fail)
           replace hA:=hA.below (X:=y.drewN nq) ⟨rfl,rfl,rfl,Nat.le_refl _,fun _ _=>rfl⟩
           generalize y.drewN nq=y5 at *
           clear y0
           obtain⟨y0,y1,y2⟩:y5.cell? ⟨w.heap.size,0,none⟩=some (.slice none 0 0)∧y5.cell? ⟨w.heap.size,1,none⟩=some (.int .i64 0)∧y5.cell? ⟨w.heap.size,2,none⟩=some (.int .i64 0):=⟨hA.r.cell 0,hA.r.cell 1,hA.r.cell 2⟩
           have yf:=hA.r.free
           go_upto_region 18 with fail
           go_wp
           have h9:=put3_bk hA.r (.slice none 0 0) (.int .i64 0) (.int .i64 0)
           have b9:=put3_below hA.b (Nat.le_refl _) (.slice none 0 0) (.int .i64 0) (.int .i64 0)
           generalize hv:(((y5.setCell ⟨w.heap.size,0,none⟩ (.slice none 0 0)).setCell ⟨w.heap.size,1,none⟩ (.int .i64 0)).setCell ⟨w.heap.size,2,none⟩ (.int .i64 0))=v9
           replace hv:put3 y5 w.heap.size (.slice none 0 0) (.int .i64 0) (.int .i64 0)=v9:=hv
           rw[hv] at h9 b9
           obtain⟨r0,r1,r2⟩:v9.cell? ⟨w.heap.size,0,none⟩=some (.slice none 0 0)∧v9.cell? ⟨w.heap.size,1,none⟩=some (.int .i64 0)∧v9.cell? ⟨w.heap.size,2,none⟩=some (.int .i64 0):=⟨h9.cell 0,h9.cell 1,h9.cell 2⟩
           exact bodyPost_ret (v:=.tuple #[.agg #[.slice none 0 0,.int .i64 0,.int .i64 0],.int .i64 ((ln:Int)+1),.int .i64 2]) (by simp[results,Tryz.results28,go_sem,r0,r1,r2]) rfl (asmr_no HPtw.out b9)
         ·have hji:¬ (j:Int) < ls.length:=by omega
          obtain rfl:j=ls.length:=by omega
          rw[List.take_length] at HW
          go_wp2
          go_meet
          case rel=>exact⟨hbz,HW⟩
       case rest=>
        obtain⟨hbz,HW⟩:=hcut
        replace HPlb:=Lib.hid (HPlb.out HW.out)
        clear HPtw HW hLs
        replace hA:=hA.below hbz
        clear hbz
        generalize wc=y at *
        obtain⟨ai,capi,hvi,hci1,hci2,_⟩:=own_is hA.i
        rw[List.length_map] at hvi hci1
        subst hvi
        have o0:y.cell? ⟨w.heap.size+1,0,none⟩=some (.slice ai rs.length capi):=hA.o.cell 0
        have rb:∀ o,(y.alloc o).cell? ⟨w.heap.size+1,0,none⟩=some (.slice ai rs.length capi):=fun o=>(hA.o.alloc o).cell 0
        have HO:Hid ((y.drew.alloc (.cells #[.string ⟨dl.toArray⟩,.int .i64 rs.length] 147)).ownsRow w.heap.size 147 2 (.slice al ls.length capl) ls.length (labsC ls)):=Lib.hid (World.ownsRow.alloc (w:=y.drew) hA.l _)
        have HN2:=Lib.hid (news_bk (Bk.made y.drew 147 #[.string ⟨dl.toArray⟩,.int .i64 rs.length]))
        have hbX:Below y.heap.size y (y.drew.alloc (.cells #[.string ⟨dl.toArray⟩,.int .i64 rs.length] 147)):=((Below.refl y.heap.size y).drew).alloc (Nat.le_refl _) _
        have HBS:Hid (w.heap.size≤(y.drew.alloc (.cells #[.string ⟨dl.toArray⟩,.int .i64 rs.length] 147)).heap.size):=Lib.hid (Nat.le_trans hA.b.size hbX.size)
        have HEND:Hid (∀ w' v',w'.ownsRow w.heap.size 147 2 v' (ls.length+1) (labsC ls++labC (dl,(rs.length:Int)))→(y.drew.alloc (.cells #[.string ⟨dl.toArray⟩,.int .i64 rs.length] 147)).grownBy w' (Value.slice al ls.length capl).ownBlock→AAt w w' (rs.map (·.1)) (ls++[(dl,(rs.length:Int))]) (rs.map (·.2.1)) (rs.map (·.2.2)) (.slice ai rs.length capi) v' u7 u8):=Lib.hid fun w' v' ho hg=>hA.lab hbX hg ho
        clear hA hbX
        go_upto_region 20 with fail
        go_region_law (refine step_own rfl (.tmp 73) (.tmp 83) 143 rfl _ 24 Tryz.underlying143 labInfo rfl (by omega) (by omega) HO.out (by simp[Act.eval]) (labC (dl,(rs.length:Int))) rfl (labC_one _) y.heap.size (by simp[Act.eval]) HN2.out (by omega) HBS.out ?_;intro v' w' hown hgr hloc;have HS:=Lib.hid (HEND.out w' v' hown hgr);obtain⟨a5,cap5,rfl,_,_,_⟩:=own_is hown)
        all_goals (
         go_wp2
         go_roundg (gk - 1)
         case rel=>exact⟨_,rs,_,k+1,k+1,ln+1,by go_num,by go_num,by go_num,by omega,HS.out,HPlb⟩
         case measure=>omega)
      | false=>
       replace HPno:=Lib.hid (HPno.out hlb)
       replace HPbg:=Lib.hid (HPbg.out hlb)
       replace HPrw:=Lib.hid (HPrw.out hlb)
       clear hlb HPtw HPlb HP hix hcs
       have HL:=Lib.hid (fun W=>HLn.out s (by omega) W)
       unfold bs at HL
       generalize lineL s=li at *
       go_wp2_with fail
       refine(HL.out _).mono ?_
       rintro e W2 ⟨rfl,hW2⟩
       replace hA:=hA.below hW2
       clear hW2 HL
       rcases li with _ | ⟨⟨op,d,s',t,u,a,k',pl⟩,nm⟩
       ·rw[show lineV none=.tuple #[.agg #[.int .i64 0,.int .i64 0,.int .i64 0,.int .i64 0,.int .i64 0,.int .i64 0,.int .u32 0,.int .i64 0],.string ⟨#[]⟩,.bool false] from rfl]
        replace HPno:=Lib.hid (HPno.out rfl)
        go_upto_region 22 with fail
        replace hA:=hA.below (X:=W2.alloc (.cells #[.int .i64 0,.int .i64 0,.int .i64 0,.int .i64 0,.int .i64 0,.int .i64 0,.int .u32 0,.int .i64 0] 125)) ((Below.refl _ _).alloc (Nat.le_refl _) _)
        generalize W2.alloc (.cells #[.int .i64 0,.int .i64 0,.int .i64 0,.int .i64 0,.int .i64 0,.int .i64 0,.int .u32 0,.int .i64 0] 125)=y at *
        obtain⟨y0,y1,y2⟩:y.cell? ⟨w.heap.size,0,none⟩=some (.slice none 0 0)∧y.cell? ⟨w.heap.size,1,none⟩=some (.int .i64 0)∧y.cell? ⟨w.heap.size,2,none⟩=some (.int .i64 0):=⟨hA.r.cell 0,hA.r.cell 1,hA.r.cell 2⟩
        have yf:=hA.r.free
        go_upto_region 23 with fail
        go_wp
        have h9:=put3_bk hA.r (.slice none 0 0) (.int .i64 0) (.int .i64 0)
        have b9:=put3_below hA.b (Nat.le_refl _) (.slice none 0 0) (.int .i64 0) (.int .i64 0)
        generalize hv:(((y.setCell ⟨w.heap.size,0,none⟩ (.slice none 0 0)).setCell ⟨w.heap.size,1,none⟩ (.int .i64 0)).setCell ⟨w.heap.size,2,none⟩ (.int .i64 0))=v9
        replace hv:put3 y w.heap.size (.slice none 0 0) (.int .i64 0) (.int .i64 0)=v9:=hv
        rw[hv] at h9 b9
        obtain⟨r0,r1,r2⟩:v9.cell? ⟨w.heap.size,0,none⟩=some (.slice none 0 0)∧v9.cell? ⟨w.heap.size,1,none⟩=some (.int .i64 0)∧v9.cell? ⟨w.heap.size,2,none⟩=some (.int .i64 0):=⟨h9.cell 0,h9.cell 1,h9.cell 2⟩
        exact bodyPost_ret (v:=.tuple #[.agg #[.slice none 0 0,.int .i64 0,.int .i64 0],.int .i64 ((ln:Int)+1),.int .i64 8]) (by simp[results,Tryz.results28,go_sem,r0,r1,r2]) rfl (asmr_no HPno.out b9)
       ·rw[show lineV (some (⟨op,d,s',t,u,a,k',pl⟩,nm))=.tuple #[.agg #[.int .i64 op,.int .i64 d,.int .i64 s',.int .i64 t,.int .i64 u,.int .i64 a,.int .u32 k',.int .i64 pl],.string ⟨nm.toArray⟩,.bool true] from rfl]
        go_upto_region 22 with fail
        have m2:=Jb.made W2 op d s' t u a k' pl
        replace hA:=hA.below (X:=W2.alloc (.cells #[.int .i64 op,.int .i64 d,.int .i64 s',.int .i64 t,.int .i64 u,.int .i64 a,.int .u32 k',.int .i64 pl] 125)) ((Below.refl _ _).alloc (Nat.le_refl _) _)
        generalize W2.heap.size=gq at *
        generalize W2.alloc (.cells #[.int .i64 op,.int .i64 d,.int .i64 s',.int .i64 t,.int .i64 u,.int .i64 a,.int .u32 k',.int .i64 pl] 125)=y at *
        obtain⟨c0,c1,c2,c3,c4,c5,c6,c7⟩:=m2.cells
        simp only at c0 c1 c2 c3 c4 c5 c6 c7
        obtain⟨ai,capi,hvi,hci1,hci2,_⟩:=own_is hA.i
        rw[List.length_map] at hvi hci1
        subst hvi
        have o0:y.cell? ⟨w.heap.size+1,0,none⟩=some (.slice ai rs.length capi):=hA.o.cell 0
        by_cases h64:64≤rs.length
        ·have h64i:(64:Int)≤rs.length:=by omega
         replace HPbg:=Lib.hid (HPbg.out _ _ rfl h64)
         clear HPrw HPno
         obtain⟨y0,y1,y2⟩:y.cell? ⟨w.heap.size,0,none⟩=some (.slice none 0 0)∧y.cell? ⟨w.heap.size,1,none⟩=some (.int .i64 0)∧y.cell? ⟨w.heap.size,2,none⟩=some (.int .i64 0):=⟨hA.r.cell 0,hA.r.cell 1,hA.r.cell 2⟩
         have yf:=hA.r.free
         go_upto_region 25 with fail
         go_wp
         have h9:=put3_bk hA.r (.slice none 0 0) (.int .i64 0) (.int .i64 0)
         have b9:=put3_below hA.b (Nat.le_refl _) (.slice none 0 0) (.int .i64 0) (.int .i64 0)
         generalize hv:(((y.setCell ⟨w.heap.size,0,none⟩ (.slice none 0 0)).setCell ⟨w.heap.size,1,none⟩ (.int .i64 0)).setCell ⟨w.heap.size,2,none⟩ (.int .i64 0))=v9
         replace hv:put3 y w.heap.size (.slice none 0 0) (.int .i64 0) (.int .i64 0)=v9:=hv
         rw[hv] at h9 b9
         obtain⟨r0,r1,r2⟩:v9.cell? ⟨w.heap.size,0,none⟩=some (.slice none 0 0)∧v9.cell? ⟨w.heap.size,1,none⟩=some (.int .i64 0)∧v9.cell? ⟨w.heap.size,2,none⟩=some (.int .i64 0):=⟨h9.cell 0,h9.cell 1,h9.cell 2⟩
         exact bodyPost_ret (v:=.tuple #[.agg #[.slice none 0 0,.int .i64 0,.int .i64 0],.int .i64 ((ln:Int)+1),.int .i64 9]) (by simp[results,Tryz.results28,go_sem,r0,r1,r2]) rfl (asmr_no HPbg.out b9)
        ·have h64i:¬ (64:Int)≤rs.length:=by omega
         replace HPrw:=Lib.hid (HPrw.out _ _ rfl (by omega))
         clear HPbg HPno
         obtain⟨an,capn,hvn,hcn1,hcn2,_⟩:=own_is hA.n
         rw[List.length_map] at hvn hcn1
         subst hvn
         obtain⟨ak,capk,hvk,hck1,hck2,_⟩:=own_is hA.k
         rw[List.length_map] at hvk hck1
         subst hvk
         have HO:=Lib.hid (World.ownsRow.alloc hA.i (.cells #[.int .i64 op,.int .i64 d,.int .i64 s',.int .i64 t,.int .i64 u,.int .i64 a,.int .u32 k',.int .i64 pl] 125))
         rw[List.length_map] at HO
         have HN2:=Lib.hid (news_bk (Bk.made y 125 #[.int .i64 op,.int .i64 d,.int .i64 s',.int .i64 t,.int .i64 u,.int .i64 a,.int .u32 k',.int .i64 pl]))
         have hbX:Below y.heap.size y (y.alloc (.cells #[.int .i64 op,.int .i64 d,.int .i64 s',.int .i64 t,.int .i64 u,.int .i64 a,.int .u32 k',.int .i64 pl] 125)):=(Below.refl _ _).alloc (Nat.le_refl _) _
         have HBS:Hid (w.heap.size≤(y.alloc (.cells #[.int .i64 op,.int .i64 d,.int .i64 s',.int .i64 t,.int .i64 u,.int .i64 a,.int .u32 k',.int .i64 pl] 125)).heap.size):=Lib.hid (Nat.le_trans hA.b.size hbX.size)
         have HMID:Hid (∀ w',(y.alloc (.cells #[.int .i64 op,.int .i64 d,.int .i64 s',.int .i64 t,.int .i64 u,.int .i64 a,.int .u32 k',.int .i64 pl] 125)).grownBy w' (Value.slice ai rs.length capi).ownBlock→Bk w' (w.heap.size+1) 35 #[.slice ai rs.length capi,.int .i64 0,.int .i64 0]):=Lib.hid fun w' hg=>hA.mid hbX hg
         have HEND:Hid (∀ w' v',w'.ownsRow w.heap.size 125 8 v' (rs.length+1) (progC (rs.map (·.1))++insC ⟨op,d,s',t,u,a,k',pl⟩)→(y.alloc (.cells #[.int .i64 op,.int .i64 d,.int .i64 s',.int .i64 t,.int .i64 u,.int .i64 a,.int .u32 k',.int .i64 pl] 125)).grownBy w' (Value.slice ai rs.length capi).ownBlock→AAt w (w'.setCell ⟨w.heap.size+1,0,none⟩ v') (rs.map (·.1)++[⟨op,d,s',t,u,a,k',pl⟩]) ls (rs.map (·.2.1)) (rs.map (·.2.2)) v' u6 (.slice an rs.length capn) (.slice ak rs.length capk)):=Lib.hid fun w' v' ho hg=>hA.ins hbX hg (by rw[List.length_map];exact ho)
         clear hA hbX
         go_upto_region 27 with (at_builtin;refine wpOwn rfl _ _ 33 rfl _ 64 Tryz.underlying33 refInfo rfl (by omega) (by omega) HO.out rfl (insC ⟨op,d,s',t,u,a,k',pl⟩) rfl (insC_one _) y.heap.size rfl HN2.out (by omega) HBS.out ?_;intro v' w' hown hgr hloc;have hcc:=HMID.out w' hgr;have cc0:w'.cell? ⟨w.heap.size+1,0,none⟩=some (.slice ai rs.length capi):=hcc.cell 0;have cf0:=hcc.free 0;have HS:=Lib.hid (HEND.out w' v' hown hgr);obtain⟨a3,cap3,rfl,_,_,_⟩:=own_is hown)
         have hA:=HS.out
         clear HS HEND HMID HBS HN2 HO cc0 cf0 hcc hown hgr hloc c0 c1 c2 c3 c4 c5 c6 c7 o0 m2
         generalize w'.setCell ⟨w.heap.size+1,0,none⟩ (.slice a3 (rs.length+1) cap3)=y2 at *
         have HO:=Lib.hid (World.ownsRow.alloc hA.n (.cells #[.string ⟨nm.toArray⟩] 9))
         rw[List.length_map] at HO
         have HN2:=Lib.hid (news_bk (Bk.made y2 9 #[.string ⟨nm.toArray⟩]))
         have hbX:Below y2.heap.size y2 (y2.alloc (.cells #[.string ⟨nm.toArray⟩] 9)):=(Below.refl _ _).alloc (Nat.le_refl _) _
         have HBS:Hid (w.heap.size≤(y2.alloc (.cells #[.string ⟨nm.toArray⟩] 9)).heap.size):=Lib.hid (Nat.le_trans hA.b.size hbX.size)
         have HEND:Hid (∀ w' v',w'.ownsRow w.heap.size 9 1 v' (rs.length+1) ((rs.map (·.2.1)).map bs++[bs nm])→(y2.alloc (.cells #[.string ⟨nm.toArray⟩] 9)).grownBy w' (Value.slice an rs.length capn).ownBlock→AAt w w' (rs.map (·.1)++[⟨op,d,s',t,u,a,k',pl⟩]) ls (rs.map (·.2.1)++[nm]) (rs.map (·.2.2)) (.slice a3 (rs.length+1) cap3) u6 v' (.slice ak rs.length capk)):=Lib.hid fun w' v' ho hg=>hA.nam hbX hg (by rw[List.length_map];exact ho)
         clear hA hbX
         go_upto_region 28 with (at_builtin;refine wpOwn rfl _ _ 144 rfl _ 16 Tryz.underlying144 strInfo rfl (by omega) (by omega) HO.out rfl [bs nm] rfl (by intro u hu;simp at hu;subst hu;rfl) y2.heap.size rfl HN2.out (by omega) HBS.out ?_;intro v' w' hown hgr hloc;have HS:=Lib.hid (HEND.out w' v' hown hgr);obtain⟨a4,cap4,rfl,_,_,_⟩:=own_is hown)
         have hA:=HS.out
         clear HS HEND HBS HN2 HO hown hgr hloc
         generalize w'=y3 at *
         have HO:=Lib.hid (World.ownsRow.alloc hA.k (.cells #[.int .i64 ((ln:Int)+1)] 3))
         rw[List.length_map] at HO
         have HN2:=Lib.hid (news_bk (Bk.made y3 3 #[.int .i64 ((ln:Int)+1)]))
         have hbX:Below y3.heap.size y3 (y3.alloc (.cells #[.int .i64 ((ln:Int)+1)] 3)):=(Below.refl _ _).alloc (Nat.le_refl _) _
         have HBS:Hid (w.heap.size≤(y3.alloc (.cells #[.int .i64 ((ln:Int)+1)] 3)).heap.size):=Lib.hid (Nat.le_trans hA.b.size hbX.size)
         have HEND:Hid (∀ w' v',w'.ownsRow w.heap.size 3 1 v' (rs.length+1) ((rs.map (·.2.2)).map (Value.int .i64)++[.int .i64 ((ln:Int)+1)])→(y3.alloc (.cells #[.int .i64 ((ln:Int)+1)] 3)).grownBy w' (Value.slice ak rs.length capk).ownBlock→AAt w w' (rs.map (·.1)++[⟨op,d,s',t,u,a,k',pl⟩]) ls (rs.map (·.2.1)++[nm]) (rs.map (·.2.2)++[(ln:Int)+1]) (.slice a3 (rs.length+1) cap3) u6 (.slice a4 (rs.length+1) cap4) v'):=Lib.hid fun w' v' ho hg=>hA.lin hbX hg (by rw[List.length_map];exact ho)
         clear hA hbX
         go_wp2_with (at_builtin;refine wpOwn rfl _ _ 26 rfl _ 8 Tryz.underlying26 intInfo rfl (by omega) (by omega) HO.out rfl [.int .i64 ((ln:Int)+1)] rfl (by intro u hu;simp at hu;subst hu;rfl) y3.heap.size rfl HN2.out (by omega) HBS.out ?_;intro v' w' hown hgr hloc;have HS:=Lib.hid (HEND.out w' v' hown hgr);obtain⟨a5,cap5,rfl,_,_,_⟩:=own_is hown)
         go_roundg (gk - 1)
         case rel=>exact⟨ls,_,_,k+1,k+1,ln+1,by go_num,by go_num,by go_num,by omega,by simpa using HS.out,HPrw⟩
         case measure=>omega
    ·have hne:((ch.toNat:Int) != 10)=true:=by
      simp only[bne_iff_ne,ne_eq]
      intro h
      apply h10
      apply UInt8.toNat_inj.1
      show ch.toNat=10
      omega
     replace HPon:=Lib.hid (HPon.out h10)
     clear h10 HPtw HPlb HPno HPbg HPrw HP
     go_wp2
     go_roundg (gk - 1)
     case rel=>exact⟨ls,rs,vi,fr,k+1,ln,rfl,rfl,by go_num,by omega,hA,HPon⟩
     case measure=>omega
   ·have hki:¬ (k:Int) < text.length:=by omega
    obtain rfl:k=text.length:=by omega
    go_wp2
    go_meet
    case rel=>exact⟨ls,rs,vi,fr,ln,rfl,rfl,hA,HP⟩
 case rest=>
  clear h0 HP0 HLn HNm
  obtain⟨ls,rs,vi,fr,ln,rfl,rfl,hA,HP⟩:=hcut
  have hfk:=HP.out.fk
  have hlk:=HP.out.lk
  have hfew:=HP.out.few
  have hmany:=HP.out.many
  generalize wc=y at *
  by_cases hf:fr < text.length
  ·have HQ:=Lib.hid (HP.out.short hf)
   have hfi:(fr:Int) < text.length:=by omega
   clear HP
   obtain⟨y0,y1,y2⟩:y.cell? ⟨w.heap.size,0,none⟩=some (.slice none 0 0)∧y.cell? ⟨w.heap.size,1,none⟩=some (.int .i64 0)∧y.cell? ⟨w.heap.size,2,none⟩=some (.int .i64 0):=⟨hA.r.cell 0,hA.r.cell 1,hA.r.cell 2⟩
   have yf:=hA.r.free
   go_upto_region 30 with fail
   go_wp
   have h9:=put3_bk hA.r (.slice none 0 0) (.int .i64 0) (.int .i64 0)
   have b9:=put3_below hA.b (Nat.le_refl _) (.slice none 0 0) (.int .i64 0) (.int .i64 0)
   generalize hv:(((y.setCell ⟨w.heap.size,0,none⟩ (.slice none 0 0)).setCell ⟨w.heap.size,1,none⟩ (.int .i64 0)).setCell ⟨w.heap.size,2,none⟩ (.int .i64 0))=v9
   replace hv:put3 y w.heap.size (.slice none 0 0) (.int .i64 0) (.int .i64 0)=v9:=hv
   rw[hv] at h9 b9
   obtain⟨r0,r1,r2⟩:v9.cell? ⟨w.heap.size,0,none⟩=some (.slice none 0 0)∧v9.cell? ⟨w.heap.size,1,none⟩=some (.int .i64 0)∧v9.cell? ⟨w.heap.size,2,none⟩=some (.int .i64 0):=⟨h9.cell 0,h9.cell 1,h9.cell 2⟩
   exact bodyPost_ret (v:=.tuple #[.agg #[.slice none 0 0,.int .i64 0,.int .i64 0],.int .i64 ((ln:Int)+1),.int .i64 8]) (by simp[results,Tryz.results28,go_sem,r0,r1,r2]) rfl (asmr_no HQ.out b9)
  ·have HQ:=Lib.hid (HP.out.end_ hf)
   have hfi:¬ (fr:Int) < text.length:=by omega
   clear HP
   obtain⟨al,capl,rfl,hcl1,hcl2,hLs⟩:=hA.ls_at
   obtain⟨ai,capi,hvi,hci1,hci2,hgi⟩:=own_is hA.i
   rw[List.length_map] at hvi hci1
   subst hvi
   obtain⟨an,capn,hvn,hcn1,hcn2,hgn⟩:=own_is hA.n
   rw[List.length_map] at hvn hcn1
   subst hvn
   obtain⟨ak,capk,hvk,hck1,hck2,hgk⟩:=own_is hA.k
   rw[List.length_map] at hvk hck1
   subst hvk
   have o0:y.cell? ⟨w.heap.size+1,0,none⟩=some (.slice ai rs.length capi):=hA.o.cell 0
   clear hLs hgi hgn hgk
   go_upto_block 4 with fail
   go_cut [] (fun wx=>∃ done:List Ins,done.length=rs.length∧AAt w wx done ls (rs.map (·.2.1)) (rs.map (·.2.2)) (.slice ai rs.length capi) (.slice al ls.length capl) (.slice an rs.length capn) (.slice ak rs.length capk)∧Hid (asm2 ls rs.length rs=.inr done))
   case first=>
    go_wp2
    go_loopg [125] rs.length (fun gk i wr=>∃ (j:Nat) (done:List Ins),i=.int .i64 j∧j+gk=rs.length∧done.length=j∧AAt w wr (done++(rs.drop j).map (·.1)) ls (rs.map (·.2.1)) (rs.map (·.2.2)) (.slice ai rs.length capi) (.slice al ls.length capl) (.slice an rs.length capn) (.slice ak rs.length capk)∧Hid (asm2 ls rs.length rs=joinR done (asm2 ls rs.length (rs.drop j))))
    case atStart=>exact⟨0,[],rfl,by omega,rfl,hA,Lib.hid (by rw[joinR_nil,List.drop_zero])⟩
    case round=>
     clear hA o0
     obtain⟨j,done,rfl,hj,hdl,hA,HJ⟩:=hrel
     by_cases hjl:j < rs.length
     ·have hji:(j:Int) < rs.length:=by omega
      have HD:=Lib.hid (List.drop_eq_getElem_cons hjl)
      have hgn:((rs.map (·.2.1)).map bs)[j]?=some (bs rs[j].2.1):=by simp[hjl]
      have hgk:((rs.map (·.2.2)).map (Value.int .i64))[j]?=some (.int .i64 rs[j].2.2):=by simp[hjl]
      generalize rs[j]=r at *
      obtain⟨⟨op,d,s',t,u,a,k',pl⟩,nm,row⟩:=r
      simp only at hgn hgk
      obtain⟨gn,rfl,hgnl,en⟩:=one_at hA.n hgn
      obtain⟨gr,rfl,hgrl,er⟩:=one_at hA.k hgk
      have HGK:=Lib.hid hgk
      clear hgn hgk
      unfold bs at en
      rw[HD.out] at hA HJ
      simp only[List.map_cons] at hA
      by_cases hnm:nm=[]
      ·subst hnm
       rw[join_skip] at HJ
       clear er
       go_wp2
       go_roundg (gk - 1)
       case rel=>exact⟨j+1,done++[⟨op,d,s',t,u,a,k',pl⟩],by go_num,by omega,by simp[hdl],by simpa using hA,HJ⟩
       case measure=>omega
      ·have hne1:nm.isEmpty=false:=by simpa using hnm
       have hne2:(nm==[])=false:=by simpa using hnm
       have hat:(done++(⟨op,d,s',t,u,a,k',pl⟩ :: (rs.drop (j+1)).map (·.1)))[j]?=some ⟨op,d,s',t,u,a,k',pl⟩:=by rw[←hdl];simp
       obtain⟨gi,rfl,hgil,hgib,ei,hfi⟩:=hA.place hat
       have o0:wr.cell? ⟨w.heap.size+1,0,none⟩=some (.slice (some ⟨gi,0,none⟩) rs.length capi):=hA.o.cell 0
       obtain⟨al2,capl2,hal,_,_,hLs⟩:=hA.ls_at
       simp only[Value.slice.injEq,true_and] at hal
       obtain⟨rfl,rfl⟩:=hal
       have HFD:Hid (∀ W,Below wr.heap.size wr W→Calls Tryz.prog 64 #[.slice al ls.length capl,.string ⟨nm.toArray⟩,.int .i64 (rs.length:Int)] W fun e w'=>e=.returned (.int .i64 (findL ls nm rs.length))∧Below W.heap.size W w'):=Lib.hid fun W hW=>rFindA ls nm (rs.length:Int) al capl W (hLs.below hW) (by omega)
       have HJN:=Lib.hid (fun h=>(HJ.out.trans (join_name ls rs.length done ⟨op,d,s',t,u,a,k',pl⟩ nm hnm row (rs.drop (j+1)) h)))
       have HJB:=Lib.hid (fun h=>(HJ.out.trans (join_bad ls rs.length done ⟨op,d,s',t,u,a,k',pl⟩ nm hnm row (rs.drop (j+1)) h)))
       have hfdb:findL ls nm rs.length < 9223372036854775807:=by
        rcases Int.lt_or_le (findL ls nm rs.length) 0 with h | h
        ·omega
        ·have:=findA_lt h
         omega
       generalize findL ls nm rs.length=fd at *
       have HC:Hid (∀ W,Below wr.heap.size wr W→W.cell? ⟨w.heap.size+1,0,none⟩=some (.slice (some ⟨gi,0,none⟩) rs.length capi)∧W.cell? ⟨gn,j,none⟩=some (.string ⟨nm.toArray⟩)):=Lib.hid fun W hW=>⟨(hW.cell (p:=⟨w.heap.size+1,0,none⟩) hA.o.lt).trans o0,(hW.cell (p:=⟨gn,j,none⟩) hgnl).trans en⟩
       clear HJ HD hnm hLs
       go_upto_region 35 with fail
       clear o0 en ei
       refine wp_region_tail 14 (fun vs=>{ tmps:=#[.string ⟨text.toArray⟩,undef,.pointer (some ⟨w.heap.size,0,none⟩),u3,u4,.pointer (some ⟨w.heap.size+1,0,none⟩),.slice al ls.length capl,.slice (some ⟨gn,0,none⟩) rs.length capn,.slice (some ⟨gr,0,none⟩) rs.length capk,.int .i64 (fr:Int),.int .i64 (ln:Int),u11,u12,undef,u14,u15,u16,u17,.int .i64 (j:Int),u19,u20,u21,u22,u23,u24,u25,u26,u27,u28,u29,u30,u31,u32,u33,u34,u35,u36,u37,u38,u39,u40,u41,u42,u43,u44,u45,u46,u47,u48,u49,u50,u51,u52,u53,u54,u55,u56,u57,u58,u59,u60,u61,u62,u63,u64,u65,u66,u67,u68,u69,u70,u71,u72,u73,u74,u75,u76,u77,u78,u79,u80,u81,u82,u83,u84,u85,u86,u87,u88,u89,u90,u91,u92,u93,u94,u95,u96,u97,u98,u99,u100,u101,u102,u103,u104,u105,u106,u107,u108,u109,u110,u111,u112,u113,u114,.int .i64 (fr:Int),.string ⟨text.toArray⟩,.int .i64 (text.length:Int),.bool false,undef,undef,undef,.pointer (some ⟨w.heap.size+1,0,none⟩),.slice (some ⟨gi,0,none⟩) rs.length capi,.int .i64 (rs.length:Int),.int .i64 (j:Int),.bool true,.int .i64 (j:Int),.slice (some ⟨gn,0,none⟩) rs.length capn,.int .i64 (j:Int),.pointer (some ⟨gn,j,none⟩),.string ⟨nm.toArray⟩,.bool false,vs 0,vs 1,vs 2,vs 3,vs 4,vs 5,vs 6,vs 7,vs 8,vs 9,vs 10,vs 11,vs 12,vs 13,u147,u148,u149,u150,u151,u152,u153,u154,u155,u156,u157,u158,u159,undef,undef,undef,undef,undef,undef,undef,undef,undef,undef,undef,undef,undef,undef,undef,undef,undef,undef,undef,undef,undef,undef],defers:=[] }) (valT [.pointer (some ⟨w.heap.size+1,0,none⟩),.slice (some ⟨gi,0,none⟩) rs.length capi,.int .i64 (j:Int),.slice al ls.length capl,.slice (some ⟨gn,0,none⟩) rs.length capn,.int .i64 (j:Int),.pointer (some ⟨gn,j,none⟩),.string ⟨nm.toArray⟩,.pointer (some ⟨w.heap.size+1,0,none⟩),.slice (some ⟨gi,0,none⟩) rs.length capi,.int .i64 (rs.length:Int),.int .i64 fd,.pointer (some ⟨gi,j * 8,none⟩),.pointer (some ⟨gi,j * 8+7,none⟩)]) ?ghm ?ghr ?ght ?glit ?gstable ?gops ?gdone
       case ghm=>kernel_rfl
       case ghr=>kernel_rfl
       case ght=>kernel_rfl
       case glit=>intro vs;rfl
       case gstable=>exact valT_stable
       case gops=>
        simp only[List.take_succ_cons,List.take_zero]
        refine⟨?_,?_,?_,?_,?_,?_,?_,?_,?_,?_,?_,?_,?_,?_,trivial⟩
        ·intro vs W hW hd
         refine leaves_free rfl ?_
         obtain⟨z0,z1⟩:=HC.out W hW
         go_simp
         exact⟨rfl,Below.refl _ _⟩
        ·intro vs W hW hd
         refine leaves_free rfl ?_
         have e0:vs 0=.pointer (some ⟨w.heap.size+1,0,none⟩):=hd 0 (by decide)
         obtain⟨z0,z1⟩:=HC.out W hW
         go_simp
         exact⟨rfl,Below.refl _ _⟩
        ·intro vs W hW hd
         refine leaves_free rfl ?_
         obtain⟨z0,z1⟩:=HC.out W hW
         go_simp
         exact⟨rfl,Below.refl _ _⟩
        ·intro vs W hW hd
         refine leaves_free rfl ?_
         obtain⟨z0,z1⟩:=HC.out W hW
         go_simp
         exact⟨rfl,Below.refl _ _⟩
        ·intro vs W hW hd
         refine leaves_free rfl ?_
         obtain⟨z0,z1⟩:=HC.out W hW
         go_simp
         exact⟨rfl,Below.refl _ _⟩
        ·intro vs W hW hd
         refine leaves_free rfl ?_
         obtain⟨z0,z1⟩:=HC.out W hW
         go_simp
         exact⟨rfl,Below.refl _ _⟩
        ·intro vs W hW hd
         refine leaves_free rfl ?_
         have e4:vs 4=.slice (some ⟨gn,0,none⟩) rs.length capn:=hd 4 (by decide)
         have e5:vs 5=.int .i64 (j:Int):=hd 5 (by decide)
         obtain⟨z0,z1⟩:=HC.out W hW
         go_simp
         exact⟨rfl,Below.refl _ _⟩
        ·intro vs W hW hd
         refine leaves_free rfl ?_
         have e6:vs 6=.pointer (some ⟨gn,j,none⟩):=hd 6 (by decide)
         obtain⟨z0,z1⟩:=HC.out W hW
         go_simp
         exact⟨rfl,Below.refl _ _⟩
        ·intro vs W hW hd
         refine leaves_free rfl ?_
         obtain⟨z0,z1⟩:=HC.out W hW
         go_simp
         exact⟨rfl,Below.refl _ _⟩
        ·intro vs W hW hd
         refine leaves_free rfl ?_
         have e8:vs 8=.pointer (some ⟨w.heap.size+1,0,none⟩):=hd 8 (by decide)
         obtain⟨z0,z1⟩:=HC.out W hW
         go_simp
         exact⟨rfl,Below.refl _ _⟩
        ·intro vs W hW hd
         refine leaves_free rfl ?_
         have e9:vs 9=.slice (some ⟨gi,0,none⟩) rs.length capi:=hd 9 (by decide)
         obtain⟨z0,z1⟩:=HC.out W hW
         go_simp
         exact⟨rfl,Below.refl _ _⟩
        ·intro vs W hW hd
         refine leaves_free rfl ?_
         have e3:vs 3=.slice al ls.length capl:=hd 3 (by decide)
         have e7:vs 7=.string ⟨nm.toArray⟩:=hd 7 (by decide)
         have e10:vs 10=.int .i64 (rs.length:Int):=hd 10 (by decide)
         obtain⟨z0,z1⟩:=HC.out W hW
         have HS:=Lib.hid (HFD.out W hW)
         clear hd
         go_simp
         refine HS.out.mono ?_
         rintro e y ⟨he,hy⟩
         exact⟨_,he,rfl,hy⟩
        ·intro vs W hW hd
         refine leaves_free rfl ?_
         have e1:vs 1=.slice (some ⟨gi,0,none⟩) rs.length capi:=hd 1 (by decide)
         have e2:vs 2=.int .i64 (j:Int):=hd 2 (by decide)
         obtain⟨z0,z1⟩:=HC.out W hW
         go_simp
         exact⟨rfl,Below.refl _ _⟩
        ·intro vs W hW hd
         refine leaves_free rfl ?_
         have e12:vs 12=.pointer (some ⟨gi,j * 8,none⟩):=hd 12 (by decide)
         obtain⟨z0,z1⟩:=HC.out W hW
         go_simp
         exact⟨rfl,Below.refl _ _⟩
       case gdone=>
        intro vs W hW hf
        have f0:vs 0=.pointer (some ⟨w.heap.size+1,0,none⟩):=hf 0 (by decide)
        have f1:vs 1=.slice (some ⟨gi,0,none⟩) rs.length capi:=hf 1 (by decide)
        have f2:vs 2=.int .i64 (j:Int):=hf 2 (by decide)
        have f3:vs 3=.slice al ls.length capl:=hf 3 (by decide)
        have f4:vs 4=.slice (some ⟨gn,0,none⟩) rs.length capn:=hf 4 (by decide)
        have f5:vs 5=.int .i64 (j:Int):=hf 5 (by decide)
        have f6:vs 6=.pointer (some ⟨gn,j,none⟩):=hf 6 (by decide)
        have f7:vs 7=.string ⟨nm.toArray⟩:=hf 7 (by decide)
        have f8:vs 8=.pointer (some ⟨w.heap.size+1,0,none⟩):=hf 8 (by decide)
        have f9:vs 9=.slice (some ⟨gi,0,none⟩) rs.length capi:=hf 9 (by decide)
        have f10:vs 10=.int .i64 (rs.length:Int):=hf 10 (by decide)
        have f11:vs 11=.int .i64 fd:=hf 11 (by decide)
        have f12:vs 12=.pointer (some ⟨gi,j * 8,none⟩):=hf 12 (by decide)
        have f13:vs 13=.pointer (some ⟨gi,j * 8+7,none⟩):=hf 13 (by decide)
        simp only[f0,f1,f2,f3,f4,f5,f6,f7,f8,f9,f10,f11,f12,f13,List.drop_succ_cons,List.drop_zero]
        clear hf f0 f1 f2 f3 f4 f5 f6 f7 f8 f9 f10 f11 f12 f13
        replace hA:=hA.below hW
        obtain⟨gi2,hgi2,hgil2,_,ei,hfi2⟩:=hA.place hat
        obtain rfl:gi=gi2:=by injection hgi2 with h;injection h
        have HT:=Lib.hid (hA.to_ hat fd)
        have hmid:=(hfi2 (j * 8+7))
        clear hgil2 hgi2 hfi hfi2 HFD HC
        go_upto_region 36 with fail
        replace hA:=HT.out
        clear HT ei hmid hat
        rw[set_mid hdl] at hA
        simp only at hA
        generalize W.setCell ⟨gi,j * 8+7,none⟩ (.int .i64 fd)=y2 at *
        have hat:(done++(⟨op,d,s',t,u,a,k',fd⟩ :: (rs.drop (j+1)).map (·.1)))[j]?=some ⟨op,d,s',t,u,a,k',fd⟩:=by rw[←hdl];simp
        obtain⟨gi2,hgi2,hgil2,_,ei,_⟩:=hA.place hat
        obtain rfl:gi=gi2:=by injection hgi2 with h;injection h
        simp only at ei
        have o0:y2.cell? ⟨w.heap.size+1,0,none⟩=some (.slice (some ⟨gi,0,none⟩) rs.length capi):=hA.o.cell 0
        clear hgil2 hgi2 hat
        by_cases hfd:fd < 0
        ·have HR:Hid (asmL text=(Prg.zero,row,10)):=Lib.hid (by rw[HQ.out];unfold finishL;rw[HJB.out hfd])
         clear HJB HJN HQ
         obtain⟨gr2,hgr2,hgrl2,er⟩:=one_at hA.k HGK.out
         obtain rfl:gr=gr2:=by injection hgr2 with h;injection h
         clear hgr2 hgrl2
         go_upto_region 37 with fail
         clear o0 ei
         obtain⟨y0,y1,y2'⟩:y2.cell? ⟨w.heap.size,0,none⟩=some (.slice none 0 0)∧y2.cell? ⟨w.heap.size,1,none⟩=some (.int .i64 0)∧y2.cell? ⟨w.heap.size,2,none⟩=some (.int .i64 0):=⟨hA.r.cell 0,hA.r.cell 1,hA.r.cell 2⟩
         have yf:=hA.r.free
         have hrg:gr≠w.heap.size:=fun e=>own_unbk hA.k hA.r (by decide) (by rw[e];rfl)
         have h9:Bk (put3 y2 w.heap.size (.slice none 0 0) (.int .i64 0) (.int .i64 0)).drew _ _ _:=put3_bk hA.r (.slice none 0 0) (.int .i64 0) (.int .i64 0)
         have b9:=(put3_below hA.b (Nat.le_refl _) (.slice none 0 0) (.int .i64 0) (.int .i64 0)).drew
         go_region
         go_wp
         generalize hv:(((y2.setCell ⟨w.heap.size,0,none⟩ (.slice none 0 0)).setCell ⟨w.heap.size,1,none⟩ (.int .i64 0)).setCell ⟨w.heap.size,2,none⟩ (.int .i64 0)).drew=v9
         replace hv:(put3 y2 w.heap.size (.slice none 0 0) (.int .i64 0) (.int .i64 0)).drew=v9:=hv
         rw[hv] at h9 b9
         obtain⟨r0,r1,r2⟩:v9.cell? ⟨w.heap.size,0,none⟩=some (.slice none 0 0)∧v9.cell? ⟨w.heap.size,1,none⟩=some (.int .i64 0)∧v9.cell? ⟨w.heap.size,2,none⟩=some (.int .i64 0):=⟨h9.cell 0,h9.cell 1,h9.cell 2⟩
         exact bodyPost_ret (v:=.tuple #[.agg #[.slice none 0 0,.int .i64 0,.int .i64 0],.int .i64 row,.int .i64 10]) (by simp[results,Tryz.results28,go_sem,r0,r1,r2]) rfl (asmr_no HR.out b9)
        ·have HR:=Lib.hid (HJN.out (by omega))
         clear HJB HJN HQ HGK
         go_wp2
         go_roundg (gk - 1)
         case rel=>exact⟨j+1,done++[⟨op,d,s',t,u,a,k',fd⟩],by go_num,by omega,by simp[hdl],by simpa using hA,HR⟩
         case measure=>omega
     ·have hji:¬ (j:Int) < rs.length:=by omega
      obtain rfl:j=rs.length:=by omega
      rw[List.drop_of_length_le (Nat.le_refl _)] at hA HJ
      go_wp2
      go_meet
      case rel=>exact⟨done,hdl,by simpa using hA,Lib.hid (by rw[HJ.out];simp[asm2,joinR])⟩
   case rest=>
    obtain⟨done,hdl,hA,HJ⟩:=hcut
    generalize wc=y at *
    obtain⟨al2,capl2,hal,_,_,hLs⟩:=hA.ls_at
    simp only[Value.slice.injEq,true_and] at hal
    obtain⟨rfl,rfl⟩:=hal
    have HF1:Hid (∀ W,Below y.heap.size y W→Calls Tryz.prog 64 #[.slice al ls.length capl,.string ⟨#[108,111,99,107]⟩,.int .i64 (rs.length:Int)] W fun e w'=>e=.returned (.int .i64 (findL ls lockW rs.length))∧Below W.heap.size W w'):=Lib.hid fun W hW=>rFindA ls lockW (rs.length:Int) al capl W (hLs.below hW) (by omega)
    have HF2:Hid (∀ W,Below y.heap.size y W→Calls Tryz.prog 64 #[.slice al ls.length capl,.string ⟨#[117,110,108,111,99,107]⟩,.int .i64 (rs.length:Int)] W fun e w'=>e=.returned (.int .i64 (findL ls unlockW rs.length))∧Below W.heap.size W w'):=Lib.hid fun W hW=>rFindA ls unlockW (rs.length:Int) al capl W (hLs.below hW) (by omega)
    have HFN:Hid (asmL text=if findL ls lockW rs.length < 0∨findL ls unlockW rs.length < 0 then (Prg.zero,0,10) else (⟨done,findL ls lockW rs.length,findL ls unlockW rs.length⟩,0,0)):=Lib.hid (by rw[HQ.out];unfold finishL;rw[HJ.out])
    generalize findL ls lockW rs.length=fl at *
    generalize findL ls unlockW rs.length=fu at *
    have HC:Hid (∀ W,Below y.heap.size y W→W.cell? ⟨w.heap.size+1,0,none⟩=some (.slice ai rs.length capi)):=Lib.hid fun W hW=>(hW.cell (p:=⟨w.heap.size+1,0,none⟩) hA.o.lt).trans (hA.o.cell 0)
    clear HQ HJ hLs o0
    go_upto_region 39 with fail
    refine wp_region_tail 11 (fun vs=>{ tmps:=#[.string ⟨text.toArray⟩,undef,.pointer (some ⟨w.heap.size,0,none⟩),u3,u4,.pointer (some ⟨w.heap.size+1,0,none⟩),.slice al ls.length capl,.slice an rs.length capn,.slice ak rs.length capk,.int .i64 (fr:Int),.int .i64 (ln:Int),u11,u12,undef,u14,u15,u16,u17,u18,u19,u20,u21,u22,u23,u24,u25,u26,u27,u28,u29,u30,u31,u32,u33,u34,u35,u36,u37,u38,u39,u40,u41,u42,u43,u44,u45,u46,u47,u48,u49,u50,u51,u52,u53,u54,u55,u56,u57,u58,u59,u60,u61,u62,u63,u64,u65,u66,u67,u68,u69,u70,u71,u72,u73,u74,u75,u76,u77,u78,u79,u80,u81,u82,u83,u84,u85,u86,u87,u88,u89,u90,u91,u92,u93,u94,u95,u96,u97,u98,u99,u100,u101,u102,u103,u104,u105,u106,u107,u108,u109,u110,u111,u112,u113,u114,.int .i64 (fr:Int),.string ⟨text.toArray⟩,.int .i64 (text.length:Int),.bool false,undef,undef,undef,.pointer (some ⟨w.heap.size+1,0,none⟩),.slice ai rs.length capi,.int .i64 (rs.length:Int),u125,u126,u127,u128,u129,u130,u131,u132,u133,u134,u135,u136,u137,u138,u139,u140,u141,u142,u143,u144,u145,u146,u147,u148,u149,u150,u151,u152,u153,u154,u155,u156,u157,u158,u159,vs 0,vs 1,vs 2,vs 3,vs 4,vs 5,vs 6,vs 7,vs 8,vs 9,vs 10,undef,undef,undef,undef,undef,undef,undef,undef,undef,undef,undef],defers:=[] }) (valT [.slice al ls.length capl,.pointer (some ⟨w.heap.size+1,0,none⟩),.slice ai rs.length capi,.int .i64 (rs.length:Int),.int .i64 fl,.slice al ls.length capl,.pointer (some ⟨w.heap.size+1,0,none⟩),.slice ai rs.length capi,.int .i64 (rs.length:Int),.int .i64 fu,.pointer (some ⟨w.heap.size+1,1,none⟩)]) ?ghm ?ghr ?ght ?glit ?gstable ?gops ?gdone
    case ghm=>kernel_rfl
    case ghr=>kernel_rfl
    case ght=>kernel_rfl
    case glit=>intro vs;rfl
    case gstable=>exact valT_stable
    case gops=>
     simp only[List.take_succ_cons,List.take_zero]
     refine⟨?_,?_,?_,?_,?_,?_,?_,?_,?_,?_,?_,trivial⟩
     ·intro vs W hW hd
      refine leaves_free rfl ?_
      have z0:=HC.out W hW
      go_simp
      exact⟨rfl,Below.refl _ _⟩
     ·intro vs W hW hd
      refine leaves_free rfl ?_
      have z0:=HC.out W hW
      go_simp
      exact⟨rfl,Below.refl _ _⟩
     ·intro vs W hW hd
      refine leaves_free rfl ?_
      have e1:vs 1=.pointer (some ⟨w.heap.size+1,0,none⟩):=hd 1 (by decide)
      have z0:=HC.out W hW
      go_simp
      exact⟨rfl,Below.refl _ _⟩
     ·intro vs W hW hd
      refine leaves_free rfl ?_
      have e2:vs 2=.slice ai rs.length capi:=hd 2 (by decide)
      have z0:=HC.out W hW
      go_simp
      exact⟨rfl,Below.refl _ _⟩
     ·intro vs W hW hd
      refine leaves_free rfl ?_
      have e0:vs 0=.slice al ls.length capl:=hd 0 (by decide)
      have e3:vs 3=.int .i64 (rs.length:Int):=hd 3 (by decide)
      have z0:=HC.out W hW
      have HS:=Lib.hid (HF1.out W hW)
      clear hd
      go_simp
      refine HS.out.mono ?_
      rintro e y ⟨he,hy⟩
      exact⟨_,he,rfl,hy⟩
     ·intro vs W hW hd
      refine leaves_free rfl ?_
      have z0:=HC.out W hW
      go_simp
      exact⟨rfl,Below.refl _ _⟩
     ·intro vs W hW hd
      refine leaves_free rfl ?_
      have z0:=HC.out W hW
      go_simp
      exact⟨rfl,Below.refl _ _⟩
     ·intro vs W hW hd
      refine leaves_free rfl ?_
      have e6:vs 6=.pointer (some ⟨w.heap.size+1,0,none⟩):=hd 6 (by decide)
      have z0:=HC.out W hW
      go_simp
      exact⟨rfl,Below.refl _ _⟩
     ·intro vs W hW hd
      refine leaves_free rfl ?_
      have e7:vs 7=.slice ai rs.length capi:=hd 7 (by decide)
      have z0:=HC.out W hW
      go_simp
      exact⟨rfl,Below.refl _ _⟩
     ·intro vs W hW hd
      refine leaves_free rfl ?_
      have e5:vs 5=.slice al ls.length capl:=hd 5 (by decide)
      have e8:vs 8=.int .i64 (rs.length:Int):=hd 8 (by decide)
      have z0:=HC.out W hW
      have HS:=Lib.hid (HF2.out W hW)
      clear hd
      go_simp
      refine HS.out.mono ?_
      rintro e y ⟨he,hy⟩
      exact⟨_,he,rfl,hy⟩
     ·intro vs W hW hd
      refine leaves_free rfl ?_
      have z0:=HC.out W hW
      go_simp
      exact⟨rfl,Below.refl _ _⟩
    case gdone=>
     intro vs W hW hf
     have f0:vs 0=.slice al ls.length capl:=hf 0 (by decide)
     have f1:vs 1=.pointer (some ⟨w.heap.size+1,0,none⟩):=hf 1 (by decide)
     have f2:vs 2=.slice ai rs.length capi:=hf 2 (by decide)
     have f3:vs 3=.int .i64 (rs.length:Int):=hf 3 (by decide)
     have f4:vs 4=.int .i64 fl:=hf 4 (by decide)
     have f5:vs 5=.slice al ls.length capl:=hf 5 (by decide)
     have f6:vs 6=.pointer (some ⟨w.heap.size+1,0,none⟩):=hf 6 (by decide)
     have f7:vs 7=.slice ai rs.length capi:=hf 7 (by decide)
     have f8:vs 8=.int .i64 (rs.length:Int):=hf 8 (by decide)
     have f9:vs 9=.int .i64 fu:=hf 9 (by decide)
     have f10:vs 10=.pointer (some ⟨w.heap.size+1,1,none⟩):=hf 10 (by decide)
     simp only[f0,f1,f2,f3,f4,f5,f6,f7,f8,f9,f10,List.drop_succ_cons,List.drop_zero]
     clear hf f0 f1 f2 f3 f4 f5 f6 f7 f8 f9 f10
     replace hA:=hA.below hW
     clear HF1 HF2 HC hW
     have hO:=(hA.o.put 1 (.int .i64 fl)).put 2 (.int .i64 fu)
     have hR:=(hA.r.off (p:=⟨w.heap.size+1,1,none⟩) (by show w.heap.size≠w.heap.size+1;omega) (.int .i64 fl)).off (p:=⟨w.heap.size+1,2,none⟩) (by show w.heap.size≠w.heap.size+1;omega) (.int .i64 fu)
     have hb:=(hA.b.setCell (p:=⟨w.heap.size+1,1,none⟩) (by show w.heap.size≤w.heap.size+1;omega) (.int .i64 fl)).setCell (p:=⟨w.heap.size+1,2,none⟩) (by show w.heap.size≤w.heap.size+1;omega) (.int .i64 fu)
     have hI:=own_within hA.i (((Within.refl W (fun b=>b=w.heap.size+1)).put (w.heap.size+1) 1 (.int .i64 fl) (.inl rfl)).put (w.heap.size+1) 2 (.int .i64 fu) (.inl rfl)) (fun b e e2=>by subst e2;exact own_unbk hA.i hA.o (by decide) e.symm)
     obtain⟨o0,o1,o2⟩:W.cell? ⟨w.heap.size+1,0,none⟩=some (.slice ai rs.length capi)∧W.cell? ⟨w.heap.size+1,1,none⟩=some (.int .i64 0)∧W.cell? ⟨w.heap.size+1,2,none⟩=some (.int .i64 0):=⟨hA.o.cell 0,hA.o.cell 1,hA.o.cell 2⟩
     have of:=hA.o.free
     clear hA
     go_upto_region 40 with fail
     clear o0 o1 o2 of
     generalize (W.setCell ⟨w.heap.size+1,1,none⟩ (.int .i64 fl)).setCell ⟨w.heap.size+1,2,none⟩ (.int .i64 fu)=y2 at *
     obtain⟨o0,o1,o2⟩:y2.cell? ⟨w.heap.size+1,0,none⟩=some (.slice ai rs.length capi)∧y2.cell? ⟨w.heap.size+1,1,none⟩=some (.int .i64 fl)∧y2.cell? ⟨w.heap.size+1,2,none⟩=some (.int .i64 fu):=⟨hO.cell 0,hO.cell 1,hO.cell 2⟩
     obtain⟨y0,y1,y2'⟩:y2.cell? ⟨w.heap.size,0,none⟩=some (.slice none 0 0)∧y2.cell? ⟨w.heap.size,1,none⟩=some (.int .i64 0)∧y2.cell? ⟨w.heap.size,2,none⟩=some (.int .i64 0):=⟨hR.cell 0,hR.cell 1,hR.cell 2⟩
     have yf:=hR.free
     by_cases hfl:fl < 0
     ·have HR:Hid (asmL text=(Prg.zero,0,10)):=Lib.hid (by rw[HFN.out,if_pos (.inl hfl)])
      clear HFN
      have h9:=put3_bk hR (.slice none 0 0) (.int .i64 0) (.int .i64 0)
      have b9:=put3_below hb (Nat.le_refl _) (.slice none 0 0) (.int .i64 0) (.int .i64 0)
      go_upto_region 41 with fail
      go_wp
      generalize hv:(((y2.setCell ⟨w.heap.size,0,none⟩ (.slice none 0 0)).setCell ⟨w.heap.size,1,none⟩ (.int .i64 0)).setCell ⟨w.heap.size,2,none⟩ (.int .i64 0))=v9
      replace hv:put3 y2 w.heap.size (.slice none 0 0) (.int .i64 0) (.int .i64 0)=v9:=hv
      rw[hv] at h9 b9
      obtain⟨r0,r1,r2⟩:v9.cell? ⟨w.heap.size,0,none⟩=some (.slice none 0 0)∧v9.cell? ⟨w.heap.size,1,none⟩=some (.int .i64 0)∧v9.cell? ⟨w.heap.size,2,none⟩=some (.int .i64 0):=⟨h9.cell 0,h9.cell 1,h9.cell 2⟩
      exact bodyPost_ret (v:=.tuple #[.agg #[.slice none 0 0,.int .i64 0,.int .i64 0],.int .i64 0,.int .i64 10]) (by simp[results,Tryz.results28,go_sem,r0,r1,r2]) rfl (asmr_no HR.out b9)
     by_cases hfu:fu < 0
     ·have HR:Hid (asmL text=(Prg.zero,0,10)):=Lib.hid (by rw[HFN.out,if_pos (.inr hfu)])
      clear HFN
      have h9:=put3_bk hR (.slice none 0 0) (.int .i64 0) (.int .i64 0)
      have b9:=put3_below hb (Nat.le_refl _) (.slice none 0 0) (.int .i64 0) (.int .i64 0)
      go_upto_region 41 with fail
      go_wp
      generalize hv:(((y2.setCell ⟨w.heap.size,0,none⟩ (.slice none 0 0)).setCell ⟨w.heap.size,1,none⟩ (.int .i64 0)).setCell ⟨w.heap.size,2,none⟩ (.int .i64 0))=v9
      replace hv:put3 y2 w.heap.size (.slice none 0 0) (.int .i64 0) (.int .i64 0)=v9:=hv
      rw[hv] at h9 b9
      obtain⟨r0,r1,r2⟩:v9.cell? ⟨w.heap.size,0,none⟩=some (.slice none 0 0)∧v9.cell? ⟨w.heap.size,1,none⟩=some (.int .i64 0)∧v9.cell? ⟨w.heap.size,2,none⟩=some (.int .i64 0):=⟨h9.cell 0,h9.cell 1,h9.cell 2⟩
      exact bodyPost_ret (v:=.tuple #[.agg #[.slice none 0 0,.int .i64 0,.int .i64 0],.int .i64 0,.int .i64 10]) (by simp[results,Tryz.results28,go_sem,r0,r1,r2]) rfl (asmr_no HR.out b9)
     have HR:Hid (asmL text=(⟨done,fl,fu⟩,0,0)):=Lib.hid (by rw[HFN.out,if_neg (by omega)])
     clear HFN
     have h9:=put3_bk hR (.slice ai rs.length capi) (.int .i64 fl) (.int .i64 fu)
     have b9:=put3_below hb (Nat.le_refl _) (.slice ai rs.length capi) (.int .i64 fl) (.int .i64 fu)
     have i9:(put3 y2 w.heap.size (.slice ai rs.length capi) (.int .i64 fl) (.int .i64 fu)).ownsRow w.heap.size 125 8 (.slice ai rs.length capi) done.length (progC done):=own_within hI ((((Within.refl y2 (fun b=>b=w.heap.size)).put w.heap.size 0 (.slice ai rs.length capi) (.inl rfl)).put w.heap.size 1 (.int .i64 fl) (.inl rfl)).put w.heap.size 2 (.int .i64 fu) (.inl rfl)) (fun b e e2=>by subst e2;exact own_unbk hI hR (by decide) e.symm)
     go_upto_region 42 with fail
     go_wp
     generalize hv:(((y2.setCell ⟨w.heap.size,0,none⟩ (.slice ai rs.length capi)).setCell ⟨w.heap.size,1,none⟩ (.int .i64 fl)).setCell ⟨w.heap.size,2,none⟩ (.int .i64 fu))=v9
     replace hv:put3 y2 w.heap.size (.slice ai rs.length capi) (.int .i64 fl) (.int .i64 fu)=v9:=hv
     rw[hv] at h9 b9 i9
     obtain⟨r0,r1,r2⟩:v9.cell? ⟨w.heap.size,0,none⟩=some (.slice ai rs.length capi)∧v9.cell? ⟨w.heap.size,1,none⟩=some (.int .i64 fl)∧v9.cell? ⟨w.heap.size,2,none⟩=some (.int .i64 fu):=⟨h9.cell 0,h9.cell 1,h9.cell 2⟩
     refine bodyPost_ret (v:=.tuple #[.agg #[.slice ai rs.length capi,.int .i64 fl,.int .i64 fu],.int .i64 0,.int .i64 0]) (by simp[results,Tryz.results28,go_sem,r0,r1,r2]) rfl ?_
     unfold Asmr
     rw[HR.out]
     rw[←hdl] at i9 ⊢
     exact⟨_,rfl,⟨_,rfl,i9⟩,b9⟩
end Go.Proofs.YthdgehcghklflaaGreatDoor
