import Derived.Test.YtieiifdhdjhnoaaGreatDoorQInstH2
import Derived.Test.YtieiifdhdjhnoaaGreatDoorQInstH3
import Derived.Test.YtieiifdhdjhnoaaGreatDoorQInstH4
import Derived.Test.YtieiifdhdjhnoaaGreatDoorQInstH5
import Derived.Test.YtieiifdhdjhnoaaGreatDoorQInstH6
set_option linter.unusedVariables false
set_option maxHeartbeats 40000000
set_option maxRecDepth 100000
open Go.Value renaming int->I
open Go.IntKind renaming i64->Q,u32->N
open Option renaming none->O
open Bool renaming false->Z,true->V
open Go.Obj renaming cells->P
open Go.Lib renaming hid->S
open Nat renaming le_refl->T,le_of_lt->R
namespace Go.Proofs.YtieiifdhdjhnoaaGreatDoor
open Go.ChangeShapes Go.WideShapes Go.ChangeAt Go.RowKit
theorem Be (s:List UInt8)(hl:s.length<100000)(w:World):
 Calls Tryz.prog 103 #[bs s] w fun e w'=>e=.returned (kY s)/\Below w.heap.size w w':=by
 have HW:=S (fun W=>Bc s hl W)
 have hpos:=fZ s
 have HE:=S (show kY s=if ((aq s).tail.all ly && (au (aG (aq s)) 1073741824 && decide (ah (aG (aq s))=s)))=V then .tuple #[iv (aG (aq s)),.bool V] else .tuple #[iv aU.zero,.bool Z] from rfl)
 have HLE:=S (lA s)
 have hlen:=ik s
 generalize kY s=res at *
 generalize aq s=ws at *
 unfold bs
 go_enter Tryz.func103,Tryz.ntmps103
 go_wp2_with fail
 have b1:Below w.heap.size w (w.alloc (P #[I Q 0,I Q 0,I Q 0,I Q 0,I Q 0,I Q 0,I N 0,I Q 0] 123)):=(Below.refl _ _).alloc (T _) _
 have m1:Jb (w.alloc (P #[I Q 0,I Q 0,I Q 0,I Q 0,I Q 0,I Q 0,I N 0,I Q 0] 123)) w.heap.size aU.zero:=Bk.made _ _ _
 generalize w.alloc (P #[I Q 0,I Q 0,I Q 0,I Q 0,I Q 0,I Q 0,I N 0,I Q 0] 123)=x1 at *
 refine(HW.out x1).mono ?_
 rintro e x2 ⟨v,rfl,hV,b2⟩
 replace m1:=m1.below b2
 replace b1:=b1.trans (b2.mono b1.size)
 clear b2 x1
 obtain⟨gl,cap,rfl,hS⟩:=DG hV hpos
 clear hV HW
 have hlt2:w.heap.size<x2.heap.size:=Bk.lt m1
 go_upto_block 0 with fail
 have b5:Below w.heap.size w (x2.alloc (P #[I Q 0,I Q 0,I Q 0,I Q 0,I Q 0,I Q 0,I N 0,I Q 0] 123)):=b1.alloc b1.size _
 have m5:Jb (x2.alloc (P #[I Q 0,I Q 0,I Q 0,I Q 0,I Q 0,I Q 0,I N 0,I Q 0] 123)) x2.heap.size aU.zero:=Bk.made _ _ _
 have m1':Jb (x2.alloc (P #[I Q 0,I Q 0,I Q 0,I Q 0,I Q 0,I Q 0,I N 0,I Q 0] 123)) w.heap.size aU.zero:=Bk.alloc m1 _
 have hS':qn (x2.alloc (P #[I Q 0,I Q 0,I Q 0,I Q 0,I Q 0,I Q 0,I N 0,I Q 0] 123)) gl cap ws:=hS.below ((Below.refl _ _).alloc (T _) _)
 have hg5:gl≠x2.heap.size:=Nat.ne_of_lt hS.lt
 have h25:w.heap.size≠x2.heap.size:=Nat.ne_of_lt hlt2
 have h2l:w.heap.size<x2.heap.size:=hlt2
 clear m1 hS b1 hlt2
 generalize x2.heap.size=B5 at *
 generalize x2.alloc (P #[I Q 0,I Q 0,I Q 0,I Q 0,I Q 0,I Q 0,I N 0,I Q 0] 123)=x3 at *
 clear x2
 go_cut [] from 216 (fun wx=>Below w.heap.size w wx/\Jb wx w.heap.size aU.zero/\Jb wx B5 ⟨eZ (ws.getD 0 []) 23,0,0,0,0,0,0,0⟩/\qn wx gl cap ws)
 case first=>
  go_wp2
  go_loopw [6] (fun v x=>∃ n:Nat,n<=23/\v=I Q ((n:Int)+1)/\Below w.heap.size w x/\Jb x w.heap.size aU.zero/\Jb x B5 ⟨eZ (ws.getD 0 []) n,0,0,0,0,0,0,0⟩/\qn x gl cap ws) (fun v _=>24-(intOf v).toNat)
  case atStart=>exact⟨0,by omega,rfl,b5,m1',m5,hS'⟩
  case round=>
   clear b5 m5 m1' hS'
   obtain⟨n,hn,rfl,hb,hR,hI,hS⟩:=hrel
   generalize wr=x at *
   have hx2:w.heap.size<x.heap.size:=Bk.lt hR
   by_cases hlt:n<23
   ·have HN:=S (show ∀ W,Calls Tryz.prog 105 #[I Q ((n:Int)+1)] W fun e w'=>e=.returned (.string ⟨(bE ((n:Int)+1)).toArray⟩)/\Below W.heap.size W w' from fun W=>fq ((n:Int)+1) W)
    have ho:=xC (ws.getD 0 []) n
    have hc0:=hS.at_ 0 hpos
    have g0:∀ g:fL x,g.x.cell? ⟨gl,0,O⟩=some (.string ⟨(ws.getD 0 []).toArray⟩):=fun g=>g.cell hc0
    clear hc0
    generalize bE ((n:Int)+1)=nm at *
    generalize ws.getD 0 []=w0 at *
    generalize eZ w0 n=op at *
    have HO:=S ho
    clear ho
    have hle:(n:Int)+1<=23:=by omega
    have hlen0:(0:Int)<(ws.length:Int):=by omega
    by_cases he:nm=[]
    ·subst he
     rw[if_neg (by simp)] at HO
     go_wp2_with fail
     refine ap (by kernel_rfl) (by kernel_rfl) ?_
     repeat (go_big_quiet_step ((go_at_call 105;with_reducible exact ao (HN.out _))))
     refine wpQuiet_nil ?_
     rintro y ⟨⟨_,hy⟩,rfl⟩
     replace hb:=hb.trans (hy.mono (R hx2))
     replace hR:=hR.below hy
     replace hI:=hI.below hy
     replace hS:=hS.below hy
     clear g0 hy hx2
     go_wp2
     go_roundw
     case rel=>exact⟨n+1,by omega,by go_num,hb,hR,by rw[HO.out];exact hI,hS⟩
     case measure=>(simp[intOf] <;> omega)
    have he1:nm.isEmpty=Z:=by simpa using he
    by_cases hq:nm=w0
    ·subst hq
     rw[if_pos ⟨he1,rfl⟩] at HO
     have hq1:(nm==nm)=V:=by simp
     clear he
     go_wp2_with fail
     refine ap (by kernel_rfl) (by kernel_rfl) ?_
     repeat (go_big_quiet_step ((go_at_call 105;with_reducible exact ao (HN.out _))))
     refine wpQuiet_nil ?_
     rintro y ⟨⟨_,hy⟩,rfl⟩
     replace hb:=hb.trans (hy.mono (R hx2))
     replace hR:=hR.below hy
     replace hI:=hI.below hy
     replace hS:=hS.below hy
     clear g0 hy hx2
     obtain⟨c0,-⟩:=hI.cells
     have hf:=Bk.free hI
     go_wp2
     go_roundw
     case rel=>
      refine⟨n+1,by omega,by go_num,hb.setCell (p:=⟨B5,0,O⟩) (R h2l) _,Bk.off hR h25 _,?_,?_⟩
      ·rw[HO.out]
       exact Bk.put hI 0 (I Q ((n:Int)+1))
      ·refine⟨by simpa using hS.lt,hS.le,hS.small,fun j hj=>?_⟩
       rw[fI hg5]
       exact hS.at_ j hj
     case measure=>(simp[intOf] <;> omega)
    ·rw[if_neg (fun h=>hq h.2)] at HO
     have hq1:(nm==w0)=Z:=by simpa using hq
     clear he hq
     go_wp2_with fail
     refine ap (by kernel_rfl) (by kernel_rfl) ?_
     repeat (go_big_quiet_step ((go_at_call 105;with_reducible exact ao (HN.out _))))
     refine wpQuiet_nil ?_
     rintro y ⟨⟨_,hy⟩,rfl⟩
     replace hb:=hb.trans (hy.mono (R hx2))
     replace hR:=hR.below hy
     replace hI:=hI.below hy
     replace hS:=hS.below hy
     clear g0 hy hx2
     go_wp2
     go_roundw
     case rel=>exact⟨n+1,by omega,by go_num,hb,hR,by rw[HO.out];exact hI,hS⟩
     case measure=>(simp[intOf] <;> omega)
   ·obtain rfl:n=23:=by omega
    go_wp2
    go_meet
    case rel=>exact⟨hb,hR,hI,hS⟩
 case rest=>
 clear b5 m5 m1' hS'
 obtain⟨hb,hR,hI,hS⟩:=hcut
 generalize hop:eZ (ws.getD 0 []) 23=op at *
 have HOP:=S hop
 clear hop
 have hx2:w.heap.size<wc.heap.size:=Bk.lt hR
 have hSl:=hS.lt
 have hIl:=Bk.lt hI
 have hP:vT w wc wc.heap.size B5 gl cap ws op [] [] [] (.slice O 0 0) (.slice O 0 0):=
  ⟨hb,hR,hI,hS,ef.nil _ _ _,ef.nil _ _ _,(fun g e=>by cases e),(fun g e=>by cases e),(fun g e=>by cases e),T _,hx2,hIl,hSl⟩
 have hcl:=hS.le
 have hcm:=hS.small
 clear hb hR hI hS
 generalize wc.heap.size=H at *
 unfold maxLen at hcm
 have hw5:ws.length<=100001:=by omega
 obtain⟨A,hsl,hA⟩:=zW gl ws.length cap (by omega) hcl (by omega)
 have hws1:1<=(ws.length:Int):=by omega
 go_upto_block 2 with fail
 go_cut [7,8] from 216 (fun rv nv wx=>ws.tail.all ly=V/\vT w wx H B5 gl cap ws op ws.tail (bF ws.tail) (bX ws.tail) rv nv)
 case first=>
  go_wp2
  go_loopw [7,8,38] (fun rv nv c y=>∃ j:Nat,j<=ws.length-1/\c=I Q j/\(ws.tail.take j).all ly=V/\vT w y H B5 gl cap ws op (ws.tail.take j) (bF (ws.tail.take j)) (bX (ws.tail.take j)) rv nv) (fun _ _ c _=>ws.length-1-(intOf c).toNat)
  case atStart=>exact⟨0,Nat.zero_le _,rfl,rfl,hP⟩
  case round=>
   clear hP
   obtain⟨j,hj,rfl,hok,hP⟩:=hrel
   generalize wr=y at *
   by_cases hlt:j<ws.length-1
   ·obtain rfl:=hA (by omega)
    have hwc:=hP.words.at_ (j+1) (by omega)
    rw[Nat.add_comm j 1] at hwc
    have hsn:=xb ws j (by omega)
    have hwl:(ws.getD (1+j) []).length<100000:=by
     have:=HLE.out (ws.getD (1+j) []) (by simp[show 1+j<ws.length by omega])
     omega
    rw[Nat.add_comm j 1] at hsn
    have hrl:=nl (ws.tail.take j)
    have hnl:=np (ws.tail.take j)
    have htl:(ws.tail.take j).length<=100000:=by simp;omega
    have hokb:∀ b,ly (ws.getD (1+j) [])=b->b=Z->ws.tail.all ly=Z:=by
     intro b e1 e2
     rw[Bool.eq_false_iff]
     intro ha
     have:=List.all_eq_true.1 ha (ws.getD (1+j) []) (by
      have:(ws.getD (1+j) [])=ws.tail[j]'(by simp;omega):=by simp[Nat.add_comm 1 j,show j+1<ws.length by omega]
      rw[this]
      exact List.getElem_mem _)
     rw[e1,e2] at this
     cases this
    generalize hwd:ws.getD (1+j) []=wd at *
    generalize ws.tail.take j=l at *
    have HSN:=S hsn
    have HOK:=S hok
    have HOB:=S hokb
    clear hsn hok hwd hokb
    have HRg:=S (show Calls Tryz.prog 143 #[.string ⟨wd.toArray⟩] y fun e w'=>e=.returned (I Q (jH wd))/\y=w' from xl wd hwl y)
    have HNb:=S (show Calls Tryz.prog 144 #[.string ⟨wd.toArray⟩] y fun e w'=>e=.returned (I Q (mi wd))/\y=w' from Cw wd hwl y)
    have er:iU wd=if 0<=jH wd then [jH wd] else []:=rfl
    have en:iV wd=if 0<=jH wd then [] else if 0<=mi wd then [mi wd] else []:=rfl
    have ei:mj wd=(!decide (0<=jH wd) && (!decide (0<=mi wd) && decide (wd=[110,101]))):=rfl
    have eo:ly wd=(decide (0<=jH wd) || (decide (0<=mi wd) || (decide (wd=[110,101]) || (decide (wd=[101,113]) || decide (wd=[101,108,115,101]))))):=rfl
    have s1:=rZ l wd
    have s2:=so l wd
    have s3:=Az l wd
    generalize jH wd=rg at *
    generalize mi wd=nb at *
    have hlt2:(j:Int)<((ws.length-1:Nat):Int):=by omega
    have hj5:(j:Int)<=100000:=by omega
    by_cases h1:0<=rg
    ·rw[if_pos h1] at er en
     have e3:mj wd=Z:=by rw[ei];simp[h1]
     have e4:ly wd=V:=by rw[eo];simp[h1]
     rw[er] at s1
     rw[en,List.append_nil] at s2
     rw[e3,if_neg (by decide)] at s3
     have S1:=S s1
     have S2:=S s2
     have S3:=S s3
     have E4:=S e4
     clear s1 s2 s3 er en ei eo e3 e4
     go_wp2_with fail
     refine HRg.out.mono ?_
     rintro e w' ⟨rfl,rfl⟩
     go_wp2_with (at_builtin;refine fC (by rfl) _ _ 25 (by rfl) 8 Tryz.underlying25 (by kernel_rfl) (by decide) hP.regs (by rfl) rg (by rfl) (by omega) ?_;intro v' y' hL' hg hloc)
     go_roundw
     case rel=>first | exact⟨j+1,by omega,by go_num,by rw[Nat.add_comm j 1,HSN.out,List.all_append,HOK.out];simp[E4.out],by rw[Nat.add_comm j 1,HSN.out,S1.out,S2.out];exact hP.Fn hg hL' hloc S3.out⟩ | ((repeat apply Exists.intro);exact⟨⟨j+1,by omega,by go_num,by rw[Nat.add_comm j 1,HSN.out,List.all_append,HOK.out];simp[E4.out],by rw[Nat.add_comm j 1,HSN.out,S1.out,S2.out];exact hP.Fn hg hL' hloc S3.out⟩,rfl⟩)
     case measure=>(simp[intOf] <;> omega)
    have h1':decide (rg>=0)=Z:=by simpa using h1
    rw[if_neg h1] at er en
    rw[er,List.append_nil] at s1
    by_cases h2:0<=nb
    ·rw[if_pos h2] at en
     have e3:mj wd=Z:=by rw[ei];simp[h2]
     have e4:ly wd=V:=by rw[eo];simp[h2]
     rw[en] at s2
     rw[e3,if_neg (by decide)] at s3
     have S1:=S s1
     have S2:=S s2
     have S3:=S s3
     have E4:=S e4
     clear s1 s2 s3 er en ei eo e3 e4 h1
     go_wp2_with fail
     refine HRg.out.mono ?_
     rintro e w' ⟨rfl,rfl⟩
     go_wp2_with fail
     refine HNb.out.mono ?_
     rintro e w' ⟨rfl,rfl⟩
     go_wp2_with (at_builtin;refine fC (by rfl) _ _ 25 (by rfl) 8 Tryz.underlying25 (by kernel_rfl) (by decide) hP.nums (by rfl) nb (by rfl) (by omega) ?_;intro v' y' hL' hg hloc)
     go_roundw
     case rel=>first | exact⟨j+1,by omega,by go_num,by rw[Nat.add_comm j 1,HSN.out,List.all_append,HOK.out];simp[E4.out],by rw[Nat.add_comm j 1,HSN.out,S1.out,S2.out];exact hP.num hg hL' hloc S3.out⟩ | ((repeat apply Exists.intro);exact⟨⟨j+1,by omega,by go_num,by rw[Nat.add_comm j 1,HSN.out,List.all_append,HOK.out];simp[E4.out],by rw[Nat.add_comm j 1,HSN.out,S1.out,S2.out];exact hP.num hg hL' hloc S3.out⟩,rfl⟩)
     case measure=>(simp[intOf] <;> omega)
    have h2':decide (nb>=0)=Z:=by simpa using h2
    rw[if_neg h2] at en
    rw[en,List.append_nil] at s2
    have S1:=S s1
    have S2:=S s2
    clear s1 s2 er en
    by_cases h3:wd=[110,101]
    ·subst h3
     have e3:mj [110,101]=V:=by rw[ei];simp[h1,h2]
     have e4:ly [110,101]=V:=by rw[eo];simp
     rw[e3,if_pos rfl] at s3
     have S3:=S s3
     have E4:=S e4
     clear s3 ei eo e3 e4 h1 h2
     obtain⟨-,-,-,-,-,-,c6,-⟩:=hP.ins.cells
     simp only at c6
     have hf:=Bk.free hP.ins
     go_wp2_with fail
     refine HRg.out.mono ?_
     rintro e w' ⟨rfl,rfl⟩
     go_wp2_with fail
     refine HNb.out.mono ?_
     rintro e w' ⟨rfl,rfl⟩
     go_wp2
     go_roundw
     case rel=>first | exact⟨j+1,by omega,by go_num,by rw[Nat.add_comm j 1,HSN.out,List.all_append,HOK.out];simp[E4.out],by rw[Nat.add_comm j 1,HSN.out,S1.out,S2.out];exact hP.one h2l hg5 S3.out⟩ | ((repeat apply Exists.intro);exact⟨⟨j+1,by omega,by go_num,by rw[Nat.add_comm j 1,HSN.out,List.all_append,HOK.out];simp[E4.out],by rw[Nat.add_comm j 1,HSN.out,S1.out,S2.out];exact hP.one h2l hg5 S3.out⟩,rfl⟩)
     case measure=>(simp[intOf] <;> omega)
    have n3:(wd==[110,101])=Z:=by simpa using h3
    have e3:mj wd=Z:=by rw[ei];simp[h3]
    rw[e3,if_neg (by decide)] at s3
    have S3:=S s3
    clear s3 ei e3
    by_cases h4:wd=[101,113]\/wd=[101,108,115,101]
    ·have e4:ly wd=V:=by rw[eo];rcases h4 with h | h <;> simp[h]
     have E4:=S e4
     clear eo e4 h1 h2 h3
     rcases h4 with rfl|rfl
     all_goals
      go_wp2_with fail
      refine HRg.out.mono ?_
      rintro e w' ⟨rfl,rfl⟩
      go_wp2_with fail
      refine HNb.out.mono ?_
      rintro e w' ⟨rfl,rfl⟩
      go_wp2
      go_roundw
      case rel=>first | exact⟨j+1,by omega,by go_num,by rw[Nat.add_comm j 1,HSN.out,List.all_append,HOK.out];simp[E4.out],by rw[Nat.add_comm j 1,HSN.out,S1.out,S2.out];exact hP.skip S3.out⟩ | ((repeat apply Exists.intro);exact⟨⟨j+1,by omega,by go_num,by rw[Nat.add_comm j 1,HSN.out,List.all_append,HOK.out];simp[E4.out],by rw[Nat.add_comm j 1,HSN.out,S1.out,S2.out];exact hP.skip S3.out⟩,rfl⟩)
      case measure=>(simp[intOf] <;> omega)
    ·have n4:(wd==[101,113])=Z:=by simp;exact fun e=>h4 (.inl e)
     have n5:(wd==[101,108,115,101])=Z:=by simp;exact fun e=>h4 (.inr e)
     have m4:(wd != [101,113])=V:=by simp;exact fun e=>h4 (.inl e)
     have m5:(wd != [101,108,115,101])=V:=by simp;exact fun e=>h4 (.inr e)
     have e4:ly wd=Z:=by rw[eo];simp[h1,h2,h3];exact⟨fun e=>h4 (.inl e),fun e=>h4 (.inr e)⟩
     have E5:=S (HOB.out Z e4 rfl)
     clear eo e4 h1 h2 h3 h4
     go_wp2_with fail
     refine HRg.out.mono ?_
     rintro e w' ⟨rfl,rfl⟩
     go_wp2_with fail
     refine HNb.out.mono ?_
     rintro e w' ⟨rfl,rfl⟩
     obtain⟨q0,q1,q2,q3,q4,q5,q6,q7⟩:=hP.res.cells
     unfold aU.zero at q0 q1 q2 q3 q4 q5 q6 q7
     simp only at q0 q1 q2 q3 q4 q5 q6 q7
     have hfz:=Bk.free hP.res
     go_upto_region 21 with fail
     go_wp
     generalize hv:((((((((y.setCell ⟨w.heap.size,0,O⟩ (I Q 0)).setCell ⟨w.heap.size,1,O⟩ (I Q 0)).setCell ⟨w.heap.size,2,O⟩ (I Q 0)).setCell ⟨w.heap.size,3,O⟩ (I Q 0)).setCell ⟨w.heap.size,4,O⟩ (I Q 0)).setCell ⟨w.heap.size,5,O⟩ (I Q 0)).setCell ⟨w.heap.size,6,O⟩ (I N 0)).setCell ⟨w.heap.size,7,O⟩ (I Q 0))=v9
     have hv2:fN y w.heap.size aU.zero=v9:=hv
     clear hv
     have hA:=fA (i:=aU.zero) hP.res
     have hC:=aZ (i:=aU.zero) hP.below (T _)
     rw[hv2] at hA hC
     clear hv2 q0 q1 q2 q3 q4 q5 q6 q7
     obtain⟨q0,q1,q2,q3,q4,q5,q6,q7⟩:=hA.cells
     unfold aU.zero at q0 q1 q2 q3 q4 q5 q6 q7
     simp only at q0 q1 q2 q3 q4 q5 q6 q7
     refine bodyPost_ret (v:=.tuple #[.agg #[I Q 0,I Q 0,I Q 0,I Q 0,I Q 0,I Q 0,I N 0,I Q 0],.bool Z]) (by simp[results,Tryz.results103,go_sem,q0,q1,q2,q3,q4,q5,q6,q7]) rfl ⟨?_,hC⟩
     rw[HE.out,E5.out]
     rfl
   ·obtain rfl:j=ws.length-1:=by omega
    have htk:ws.tail.take (ws.length-1)=ws.tail:=List.take_of_length_le (by simp)
    rw[htk] at hok hP
    have HK:=S hok
    clear hok htk
    go_wp2
    go_meet
    case rel=>exact⟨HK.out,hP⟩
 case rest=>
 clear hP
 obtain⟨hok,hP⟩:=hcut
 have hrl:=nl ws.tail
 have hnl:=np ws.tail
 have htl:ws.tail.length<=100000:=by simp;omega
 have HDR:=S (show aG ws=db op (cC 4 0 (bF ws.tail)) (cC 2 (-1) (bX ws.tail)) (mF ws.tail) by unfold aG;rw[HOP.out])
 have HOK:=S hok
 clear hok hsl hA HLE hpos hlen hws1 hcl hcm
 generalize bF ws.tail=rs0 at *
 generalize bX ws.tail=ns0 at *
 generalize ws.tail=tl at *
 go_upto_block 4 with fail
 go_cut [7] from 216 (fun rv wx=>vT w wx H B5 gl cap ws op tl (cC 4 0 rs0) ns0 rv u8)
 case first=>
  go_wp2
  go_loopw [7] (fun rv z=>∃ k:Nat,k<=4-rs0.length/\vT w z H B5 gl cap ws op tl (rs0++List.replicate k 0) ns0 rv u8) (fun rv _=>4-ky rv)
  case atStart=>exact⟨0,Nat.zero_le _,by simpa using hP⟩
  case round=>
   clear hP
   obtain⟨k,hk,hP⟩:=hrel
   generalize wr=z at *
   have hln:(rs0++List.replicate k 0).length=rs0.length+k:=by simp
   have his:=hP.regs.is
   rw[hln] at his
   obtain⟨ra,rc,hrv,hr1,hr2,hr3⟩:=his
   have HRV:=S hrv
   have HR3:=S hr3
   clear hr3
   by_cases h4:rs0.length+k<4
   ·have h4':((rs0.length+k:Nat):Int)<4:=by omega
    have hlr:(rs0++List.replicate k 0).length<1000000:=by omega
    clear hln
    subst hrv
    go_wp2_with (at_builtin;refine fC (by rfl) _ _ 25 (by rfl) 8 Tryz.underlying25 (by kernel_rfl) (by decide) hP.regs (by rfl) 0 (by rfl) hlr ?_;intro v' y' hL' hg hloc)
    go_roundw
    case rel=>first | exact⟨k+1,by omega,by rw[<-kK];exact hP.Fn hg hL' hloc rfl⟩ | ((repeat apply Exists.intro);exact⟨⟨k+1,by omega,by rw[<-kK];exact hP.Fn hg hL' hloc rfl⟩,rfl⟩)
    case measure=>
     have hlv:=hL'.is
     obtain⟨qa,qc,hqv,-⟩:=hlv
     rw[hqv]
     simp[ky]
     omega
   ·obtain rfl:k=4-rs0.length:=by omega
    have h4':¬ ((rs0.length+(4-rs0.length):Nat):Int)<4:=by omega
    clear hln hk
    subst hrv
    generalize hm4:rs0.length+(4-rs0.length)=m4 at *
    have HM4:=S hm4
    clear hm4 HRV HR3 hr1 hr2
    go_wp2
    go_meet
    case rel=>exact hP
 case rest=>
 clear hP
 have hP:=hcut
 clear hcut
 have hlp:4<=(cC 4 0 rs0).length/\(cC 4 0 rs0).length<=100004:=by unfold cC;simp;omega
 generalize cC 4 0 rs0=rs at *
 go_upto_block 6 with fail
 go_cut [8] from 216 (fun nv wx=>vT w wx H B5 gl cap ws op tl rs (cC 2 (-1) ns0) u7 nv)
 case first=>
  go_wp2
  go_loopw [8] (fun nv y=>∃ k:Nat,k<=2-ns0.length/\vT w y H B5 gl cap ws op tl rs (ns0++List.replicate k (-1)) u7 nv) (fun nv _=>2-ky nv)
  case atStart=>exact⟨0,Nat.zero_le _,by simpa using hP⟩
  case round=>
   clear hP
   obtain⟨k,hk,hP⟩:=hrel
   generalize wr=y at *
   have hln:(ns0++List.replicate k (-1)).length=ns0.length+k:=by simp
   have his:=hP.nums.is
   rw[hln] at his
   obtain⟨na,nc,hnv,hn1,hn2,-⟩:=his
   by_cases h2:ns0.length+k<2
   ·have h2':((ns0.length+k:Nat):Int)<2:=by omega
    have hlr:(ns0++List.replicate k (-1)).length<1000000:=by omega
    clear hln
    subst hnv
    go_wp2_with (at_builtin;refine fC (by rfl) _ _ 25 (by rfl) 8 Tryz.underlying25 (by kernel_rfl) (by decide) hP.nums (by rfl) (-1) (by rfl) hlr ?_;intro v' y' hL' hg hloc)
    go_roundw
    case rel=>first | exact⟨k+1,by omega,by rw[<-kK];exact hP.num hg hL' hloc rfl⟩ | ((repeat apply Exists.intro);exact⟨⟨k+1,by omega,by rw[<-kK];exact hP.num hg hL' hloc rfl⟩,rfl⟩)
    case measure=>
     have hlv:=hL'.is
     obtain⟨qa,qc,hqv,-⟩:=hlv
     rw[hqv]
     simp[ky]
     omega
   ·obtain rfl:k=2-ns0.length:=by omega
    have h2':¬ ((ns0.length+(2-ns0.length):Nat):Int)<2:=by omega
    clear hln hk
    subst hnv
    generalize hm2:ns0.length+(2-ns0.length)=m2 at *
    have HM2:=S hm2
    clear hm2 hn1 hn2
    go_wp2
    go_meet
    case rel=>exact hP
 case rest=>
 clear hP
 have hP:=hcut
 clear hcut
 have hlp2:2<=(cC 2 (-1) ns0).length:=by unfold cC;simp;omega
 generalize cC 2 (-1) ns0=ns at *
 generalize wc=y at *
 obtain⟨ra,rc,hrv,-,-,-⟩:=hP.regs.is
 generalize hm4:rs.length=m4 at hrv
 have h44:4<=m4:=by omega
 clear hm4
 subst hrv
 obtain⟨na,nc,hnv,-,-,hnc⟩:=hP.nums.is
 obtain⟨gn,hna,-,-,hnd⟩:=hnc (by omega)
 subst hna
 generalize hm2:ns.length=m2 at hnv
 have h22:2<=m2:=by omega
 clear hm2
 subst hnv
 have hi2:(1:Int)<(m2:Int):=by omega
 have hi1:(0:Int)<(m2:Int):=by omega
 have d0:∀ G:fL y,G.x.cell? ⟨gn,0,O⟩=some (I Q (aD ns 0)):=fun G=>G.cell (hnd 0 (by omega))
 have d1:∀ G:fL y,G.x.cell? ⟨gn,1,O⟩=some (I Q (aD ns 1)):=fun G=>G.cell (hnd 1 (by omega))
 clear hnc hnd
 go_wp2
 refine ap (by kernel_rfl) (by kernel_rfl) ?_
 repeat (go_big_quiet_step ((fail)))
 refine wpQuiet_nil ?_
 rintro y2 ⟨⟨_,hy⟩,rfl⟩
 replace hP:=hP.later hy
 clear d0 d1 hy
 obtain⟨ra',rc',hr',-,-,hrc⟩:=hP.regs.is
 obtain⟨gr,hra,hgo,-,hrd⟩:=hrc (by omega)
 injection hr' with q1 q2 q3
 subst q1 hra
 have hgr:H<=gr:=hP.fr gr rfl
 have hgr5:gr≠B5:=by have:=hP.h5;omega
 have r0:=hrd 0 (by omega)
 have r1:=hrd 1 (by omega)
 have r2:=hrd 2 (by omega)
 have r3:=hrd 3 (by omega)
 have hoff:∀ (W:World) (u:Value) (i j:Nat),(W.setCell ⟨B5,i,O⟩ u).cell? ⟨gr,j,O⟩=W.cell? ⟨gr,j,O⟩:=fun W u i j=>fI hgr5
 clear hrc hrd hgo q2 q3
 have j0:(0:Int)<(m4:Int):=by omega
 have j1:(1:Int)<(m4:Int):=by omega
 have j2:(2:Int)<(m4:Int):=by omega
 have j3:(3:Int)<(m4:Int):=by omega
 have n0:0<m4:=by omega
 have n1:1<m4:=by omega
 have n2:2<m4:=by omega
 have n3:3<m4:=by omega
 have hkk:0<=mF tl/\mF tl<4294967296:=by unfold mF;split <;> omega
 have hins:=hP.ins
 have hres:=hP.res
 have hbel:=hP.below
 clear hP
 obtain⟨c0,c1,c2,c3,c4,c5,c6,c7⟩:=hins.cells
 simp only at c0 c1 c2 c3 c4 c5 c6 c7
 have hfI:=Bk.free hins
 have hsw:Sw w y2 B5 ⟨op,0,0,0,0,0,mF tl,0⟩:=⟨hins,hres,hbel,h2l⟩
 clear hins hres hbel
 generalize mF tl=kk at *
 go_upto_block 8 with fail
 go_cut [] from 81 to 88 (fun wx=>Sw w wx B5 (aG ws)/\0<=(aG ws).k/\(aG ws).k<4294967296)
 case first=>
  have hop:(op=1\/op=2\/op=3\/op=4\/op=5)\/(op=6\/op=7\/op=11\/op=22\/op=12\/op=13\/op=17)\/(op=8\/op=9\/op=10\/op=23\/(op≠1/\op≠2/\op≠3/\op≠4/\op≠5/\op≠6/\op≠7/\op≠8/\op≠9/\op≠10/\op≠11/\op≠12/\op≠13/\op≠16/\op≠17/\op≠18/\op≠19/\op≠20/\op≠21/\op≠22/\op≠23))\/(op=16\/op=18\/op=19)\/(op=20\/op=21):=by have:=cw op;omega
  rcases hop with hop | hop | hop | hop | hop
  ·exact Hf hsw hkk hgr5 r0 r1 r2 r3 h44 HDR.out hop (by assumption) (by assumption)
  ·exact He hsw hkk hgr5 r0 r1 r2 r3 h44 HDR.out hop (by assumption) (by assumption)
  ·exact Hc hsw hkk hgr5 r0 r1 r2 r3 h44 HDR.out hop (by assumption) (by assumption)
  ·exact Hb hsw hkk hgr5 r0 r1 r2 r3 h44 HDR.out hop (by assumption) (by assumption)
  ·exact Ha hsw hkk hgr5 r0 r1 r2 r3 h44 HDR.out hop (by assumption) (by assumption)
 case rest=>
  clear c0 c1 c2 c3 c4 c5 c6 c7 hfI r0 r1 r2 r3 hoff HDR hsw
  obtain⟨⟨hB,hR,hb,-⟩,k0,k1⟩:=hcut
  generalize wc=v at *
  generalize aG ws=F at *
  obtain⟨fop,fd,fs,ft,fu,fa,fk,fpl⟩:=F
  have HR:=S (fun W=>Bd ⟨fop,fd,fs,ft,fu,fa,fk,fpl⟩ 1073741824 k0 k1 W)
  have HT:=S (fun h W=>Ag ⟨fop,fd,fs,ft,fu,fa,fk,fpl⟩ h k0 k1 W)
  obtain⟨c0,c1,c2,c3,c4,c5,c6,c7⟩:=hB.cells
  simp only at c0 c1 c2 c3 c4 c5 c6 c7
  clear k0 k1
  unfold iv at HR HT
  go_wp2_with fail
  refine(HR.out _).mono ?_
  rintro e y3 ⟨rfl,hy3⟩
  clear HR c0 c1 c2 c3 c4 c5 c6 c7
  replace hb:=hb.trans (hy3.mono hb.size)
  replace hB:=hB.below hy3
  replace hR:=hR.below hy3
  clear hy3
  obtain⟨c0,c1,c2,c3,c4,c5,c6,c7⟩:=hB.cells
  simp only at c0 c1 c2 c3 c4 c5 c6 c7
  generalize y3=v at *
  generalize au ⟨fop,fd,fs,ft,fu,fa,fk,fpl⟩ 1073741824=rb at *
  cases rb with
  | false=>
   clear HT
   obtain⟨q0,q1,q2,q3,q4,q5,q6,q7⟩:=hR.cells
   unfold aU.zero at q0 q1 q2 q3 q4 q5 q6 q7
   simp only at q0 q1 q2 q3 q4 q5 q6 q7
   have hfz:=Bk.free hR
   go_upto_region 63 with fail
   go_wp
   generalize hv:((((((((v.setCell ⟨w.heap.size,0,O⟩ (I Q 0)).setCell ⟨w.heap.size,1,O⟩ (I Q 0)).setCell ⟨w.heap.size,2,O⟩ (I Q 0)).setCell ⟨w.heap.size,3,O⟩ (I Q 0)).setCell ⟨w.heap.size,4,O⟩ (I Q 0)).setCell ⟨w.heap.size,5,O⟩ (I Q 0)).setCell ⟨w.heap.size,6,O⟩ (I N 0)).setCell ⟨w.heap.size,7,O⟩ (I Q 0))=v9
   have hv2:fN v w.heap.size aU.zero=v9:=hv
   clear hv
   have hA:=fA (i:=aU.zero) hR
   have hC:=aZ (i:=aU.zero) hb (T _)
   rw[hv2] at hA hC
   clear hv2 q0 q1 q2 q3 q4 q5 q6 q7
   obtain⟨q0,q1,q2,q3,q4,q5,q6,q7⟩:=hA.cells
   unfold aU.zero at q0 q1 q2 q3 q4 q5 q6 q7
   simp only at q0 q1 q2 q3 q4 q5 q6 q7
   refine bodyPost_ret (v:=.tuple #[.agg #[I Q 0,I Q 0,I Q 0,I Q 0,I Q 0,I Q 0,I N 0,I Q 0],.bool Z]) (by simp[results,Tryz.results103,go_sem,q0,q1,q2,q3,q4,q5,q6,q7]) rfl ⟨?_,hC⟩
   rw[HE.out]
   simp[iv,aU.zero]
  | true=>
   go_wp2_with fail
   refine(HT.out (by trivial) _).mono ?_
   rintro e y4 ⟨rfl,hy4⟩
   clear HT c0 c1 c2 c3 c4 c5 c6 c7
   replace hb:=hb.trans (hy4.mono hb.size)
   replace hB:=hB.below hy4
   replace hR:=hR.below hy4
   clear hy4
   obtain⟨c0,c1,c2,c3,c4,c5,c6,c7⟩:=hB.cells
   simp only at c0 c1 c2 c3 c4 c5 c6 c7
   generalize y4=v at *
   generalize ah ⟨fop,fd,fs,ft,fu,fa,fk,fpl⟩=tx at *
   unfold bs
   by_cases htx:tx=s
   ·have hq:(tx==s)=V:=by simpa using htx
    obtain⟨q0,q1,q2,q3,q4,q5,q6,q7⟩:=hR.cells
    unfold aU.zero at q0 q1 q2 q3 q4 q5 q6 q7
    simp only at q0 q1 q2 q3 q4 q5 q6 q7
    have hfz:=Bk.free hR
    go_upto_region 64 with fail
    go_wp
    generalize hv:((((((((v.setCell ⟨w.heap.size,0,O⟩ (I Q fop)).setCell ⟨w.heap.size,1,O⟩ (I Q fd)).setCell ⟨w.heap.size,2,O⟩ (I Q fs)).setCell ⟨w.heap.size,3,O⟩ (I Q ft)).setCell ⟨w.heap.size,4,O⟩ (I Q fu)).setCell ⟨w.heap.size,5,O⟩ (I Q fa)).setCell ⟨w.heap.size,6,O⟩ (I N fk)).setCell ⟨w.heap.size,7,O⟩ (I Q fpl))=v9
    have hv2:fN v w.heap.size ⟨fop,fd,fs,ft,fu,fa,fk,fpl⟩=v9:=hv
    clear hv
    have hA:=fA (i:=⟨fop,fd,fs,ft,fu,fa,fk,fpl⟩) hR
    have hC:=aZ (i:=⟨fop,fd,fs,ft,fu,fa,fk,fpl⟩) hb (T _)
    rw[hv2] at hA hC
    clear hv2 q0 q1 q2 q3 q4 q5 q6 q7
    obtain⟨q0,q1,q2,q3,q4,q5,q6,q7⟩:=hA.cells
    simp only at q0 q1 q2 q3 q4 q5 q6 q7
    refine bodyPost_ret (v:=.tuple #[.agg #[I Q fop,I Q fd,I Q fs,I Q ft,I Q fu,I Q fa,I N fk,I Q fpl],.bool V]) (by simp[results,Tryz.results103,go_sem,q0,q1,q2,q3,q4,q5,q6,q7]) rfl ⟨?_,hC⟩
    rw[HE.out]
    simp[iv,HOK.out,htx]
   ·have hq:(tx==s)=Z:=by simpa using htx
    obtain⟨q0,q1,q2,q3,q4,q5,q6,q7⟩:=hR.cells
    unfold aU.zero at q0 q1 q2 q3 q4 q5 q6 q7
    simp only at q0 q1 q2 q3 q4 q5 q6 q7
    have hfz:=Bk.free hR
    go_upto_region 63 with fail
    go_wp
    generalize hv:((((((((v.setCell ⟨w.heap.size,0,O⟩ (I Q 0)).setCell ⟨w.heap.size,1,O⟩ (I Q 0)).setCell ⟨w.heap.size,2,O⟩ (I Q 0)).setCell ⟨w.heap.size,3,O⟩ (I Q 0)).setCell ⟨w.heap.size,4,O⟩ (I Q 0)).setCell ⟨w.heap.size,5,O⟩ (I Q 0)).setCell ⟨w.heap.size,6,O⟩ (I N 0)).setCell ⟨w.heap.size,7,O⟩ (I Q 0))=v9
    have hv2:fN v w.heap.size aU.zero=v9:=hv
    clear hv
    have hA:=fA (i:=aU.zero) hR
    have hC:=aZ (i:=aU.zero) hb (T _)
    rw[hv2] at hA hC
    clear hv2 q0 q1 q2 q3 q4 q5 q6 q7
    obtain⟨q0,q1,q2,q3,q4,q5,q6,q7⟩:=hA.cells
    unfold aU.zero at q0 q1 q2 q3 q4 q5 q6 q7
    simp only at q0 q1 q2 q3 q4 q5 q6 q7
    refine bodyPost_ret (v:=.tuple #[.agg #[I Q 0,I Q 0,I Q 0,I Q 0,I Q 0,I Q 0,I N 0,I Q 0],.bool Z]) (by simp[results,Tryz.results103,go_sem,q0,q1,q2,q3,q4,q5,q6,q7]) rfl ⟨?_,hC⟩
    rw[HE.out]
    simp[iv,aU.zero,htx]
