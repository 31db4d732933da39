import Derived.Test.YthdgehcghklflaaGreatDoorRPrgM
import Derived.Test.YthdgehcghklflaaGreatDoorRMem
import Derived.Test.YthdgehcghklflaaGreatDoorRWdA
import Derived.Test.YthdgehcghklflaaGreatDoorRInstA
import Derived.Deep.RegionHeld3
import Derived.Deep.Cut
import Derived.Deep.QuietTactic
import Derived.BigQuiet
import Derived.Deep.DeepCutAuto
import Derived.Deep.CutBlock
import Derived.ProofKit
import Derived.OpenShut
import Derived.Deep.Fields
import Derived.Lib.SmallJoins
import Derived.Deep.Slices
import Derived.ChangeSame
import Derived.Test.YthdgehcghklflaaGreatDoorTie
import Derived.Test.YthdgehcghklflaaGreatDoorCards
import Derived.Lay
import Derived.Handed
import Derived.PinnedBridge
import Derived.SevenTiedAt
import Derived.Shelf.Vars
import Derived.Lib.LaidTab
import Derived.Stop.LaidErr
import Derived.Deep.Onto
import Derived.Deep.LoopGhost
set_option linter.unusedVariables false
namespace Go.Proofs.YthdgehcghklflaaGreatDoor
open Go.ChangeShapes Go.WideShapes Go.ChangeAt Go.RowKit
theorem refInfo:(Tryz.prog.info? 125).map (fun i=>(i.zero,i.size,i.bytes))=some (some (.agg #[.int .i64 0,.int .i64 0,.int .i64 0,.int .i64 0,.int .i64 0,.int .i64 0,.int .u32 0,.int .i64 0]),8,64):=by kernel_rfl
theorem take_snoc {l:List Ins}{k:Nat}(h:k < l.length):l.take (k+1)=l.take k++[l[k]]:=by simp
theorem ref_end {w x y w':World}{o:Obj}{lo un:Int}{k:Nat}{l:List Ins}{v v':Value}{i:Ins}{R O:Nat}{rs:Array Value}(hb:Below w.heap.size w x)(hO:Bk x O 35 #[v,.int .i64 lo,.int .i64 un])(hR:Bk x R 35 rs)(hne:R≠O)(hwO:w.heap.size≤O)
 (hv:x.ownsRow w.heap.size 125 8 v k (progC l)) (hy:Below x.heap.size x y) (hw:w'.ownsRow w.heap.size 125 8 v' (k+1) (progC l++insC i)) (hg:(y.alloc o).grownBy w' v.ownBlock):
 Below w.heap.size w (w'.setCell ⟨O,0,none⟩ v')∧Bk (w'.setCell ⟨O,0,none⟩ v') O 35 #[v',.int .i64 lo,.int .i64 un]∧Bk (w'.setCell ⟨O,0,none⟩ v') R 35 rs∧(w'.setCell ⟨O,0,none⟩ v').ownsRow w.heap.size 125 8 v' (k+1) (progC (l++[i])):=by
 have hA:Within x (y.alloc o) (fun _=>False):=(within_of_below hy).alloc o
 have hB:Within (y.alloc o) w' (fun b=>some b=v.ownBlock):=.of_grown hg (by rintro i e;exact .inl e.symm)
 have hC:Within x w' (fun b=>some b=v.ownBlock):=(hA.wide (by simp)).then_ hB (by rintro i e;exact .inl e)
 have un_:∀ {g:Nat} {cs:Array Value},Bk x g 35 cs→Bk w' g 35 cs:=fun hk=>hk.within hC fun e=>by
  obtain⟨cs,hcs⟩:=own_bk hv e.symm
  exact Bk.unlike hcs hk (by decide) rfl
 have hO2:=un_ hO
 have hR2:=un_ hR
 have hb2:Below w.heap.size w w':=by
  refine hb.trans ⟨hC.os,hC.tape,hC.output,hC.size,fun i hi=>hC.block i (Nat.lt_of_lt_of_le hi hb.size) fun e=>?_⟩
  have:=(World.ownsRow.lt hv i e.symm).1
  omega
 refine⟨hb2.setCell hwO _,hO2.put 0 v',hR2.off hne _,?_⟩
 rw[progC_snoc]
 refine own_within hw ((Within.refl w' (fun b=>b=O)).put O 0 v' (.inl rfl)) fun b e e2=>?_
 obtain⟨cs,hcs⟩:=own_bk hw e
 exact Bk.unlike hcs hO2 (by decide) e2
set_option maxHeartbeats 1000000 in
theorem lRefO (c:Prg)(v:Value)(w:World)(hv:Pv w v c)(hl:c.l.length≤1000):
 Calls Tryz.prog 31 #[v] w fun e w'=>∃ sl,e=.returned (.agg #[sl,.int .i64 c.lo,.int .i64 c.un])∧w'.ownsRow w.heap.size 125 8 sl c.l.length (progC c.l)∧Below w.heap.size w w':=by
 obtain⟨a,ca,rfl,hc1,hc2,_,ha⟩:=hv
 obtain⟨l,lo,un⟩:=c
 simp only at hl hc1 ha ⊢
 have q0:=((Bk.made w 25 #[.slice a l.length ca,.int .i64 lo,.int .i64 un]).alloc (.cells #[.slice none 0 0,.int .i64 0,.int .i64 0] 35))
 have q1:=Bk.made (w.alloc (.cells #[.slice a l.length ca,.int .i64 lo,.int .i64 un] 25)) 35 #[.slice none 0 0,.int .i64 0,.int .i64 0]
 rw[World.size_alloc] at q1
 have b0:Below w.heap.size w ((w.alloc (.cells #[.slice a l.length ca,.int .i64 lo,.int .i64 un] 25)).alloc (.cells #[.slice none 0 0,.int .i64 0,.int .i64 0] 35)):=((Below.refl _ _).alloc (Nat.le_refl _) _).alloc (by simp) _
 go_enter Tryz.func31,Tryz.ntmps31
 go_upto_region 1 with fail
 generalize (w.alloc (.cells #[.slice a l.length ca,.int .i64 lo,.int .i64 un] 25)).alloc (.cells #[.slice none 0 0,.int .i64 0,.int .i64 0] 35)=x at *
 obtain⟨x0,x1,x2⟩:x.cell? ⟨w.heap.size,0,none⟩=some (.slice a l.length ca)∧x.cell? ⟨w.heap.size,1,none⟩=some (.int .i64 lo)∧x.cell? ⟨w.heap.size,2,none⟩=some (.int .i64 un):=⟨q0.cell 0,q0.cell 1,q0.cell 2⟩
 go_upto_region 2 with fail
 have O0:=Bk.made x 35 #[.slice none 0 0,.int .i64 lo,.int .i64 un]
 have hxw:w.heap.size+1 < x.heap.size:=q1.lt
 replace q0:=q0.alloc (.cells #[.slice none 0 0,.int .i64 lo,.int .i64 un] 35)
 replace q1:=q1.alloc (.cells #[.slice none 0 0,.int .i64 lo,.int .i64 un] 35)
 replace b0:=b0.alloc (o:=.cells #[.slice none 0 0,.int .i64 lo,.int .i64 un] 35) b0.size
 generalize x.heap.size=O at *
 generalize x.alloc (.cells #[.slice none 0 0,.int .i64 lo,.int .i64 un] 35)=x at *
 have z0:x.cell? ⟨w.heap.size,0,none⟩=some (.slice a l.length ca):=q0.cell 0
 clear x0 x1 x2 q0
 go_wp2
 go_loopw [14] (fun i wr=>∃ (k:Nat) (v:Value),i=.int .i64 k∧k≤l.length∧Below w.heap.size w wr∧Bk wr O 35 #[v,.int .i64 lo,.int .i64 un]∧Bk wr (w.heap.size+1) 35 #[.slice none 0 0,.int .i64 0,.int .i64 0]∧wr.ownsRow w.heap.size 125 8 v k (progC (l.take k))) (fun i _=>l.length - (intOf i).toNat)
 case atStart=>exact⟨0,.slice none 0 0,rfl,Nat.zero_le _,b0,O0,q1,World.ownsRow_nil _ _ _ _⟩
 case round=>
  obtain⟨k,v,rfl,hk,hb,hO,hR,hv⟩:=hrel
  clear z0 O0 q1 b0
  by_cases hlt:k < l.length
  ·have hki:(k:Int) < l.length:=by omega
   obtain⟨g,off,rfl,hgl,e0,e1,e2,e3,e4,e5,e6,e7⟩:=(ha.below hb).at_ (List.getElem?_eq_getElem hlt)
   have HT:=Lib.hid (take_snoc hlt)
   generalize l[k]=i at *
   have HF:=Lib.hid (fun W=>rRef i W)
   obtain⟨op,d,s,t,u,a',k',pl⟩:=i
   simp only at e0 e1 e2 e3 e4 e5 e6 e7
   unfold iv at HF
   simp only at HF
   obtain⟨a2,cap2,rfl,hcap2,hmax2,_⟩:=own_is hv
   go_upto_region 5 with fail
   have m2:=Ib.made wr op d s t u a' k' pl
   replace hb:=hb.alloc (o:=.cells #[.int .i64 op,.int .i64 d,.int .i64 s,.int .i64 t,.int .i64 u,.int .i64 a',.int .u32 k',.int .i64 pl] 119) hb.size
   replace hO:=hO.alloc (.cells #[.int .i64 op,.int .i64 d,.int .i64 s,.int .i64 t,.int .i64 u,.int .i64 a',.int .u32 k',.int .i64 pl] 119)
   replace hR:=hR.alloc (.cells #[.int .i64 op,.int .i64 d,.int .i64 s,.int .i64 t,.int .i64 u,.int .i64 a',.int .u32 k',.int .i64 pl] 119)
   replace hv:=World.ownsRow.alloc hv (.cells #[.int .i64 op,.int .i64 d,.int .i64 s,.int .i64 t,.int .i64 u,.int .i64 a',.int .u32 k',.int .i64 pl] 119)
   clear e0 e1 e2 e3 e4 e5 e6 e7
   generalize wr.heap.size=q at *
   generalize wr.alloc (.cells #[.int .i64 op,.int .i64 d,.int .i64 s,.int .i64 t,.int .i64 u,.int .i64 a',.int .u32 k',.int .i64 pl] 119)=x at *
   obtain⟨e0,e1,e2,e3,e4,e5,e6,e7⟩:=m2.cells
   simp only at e0 e1 e2 e3 e4 e5 e6 e7
   have v0:x.cell? ⟨O,0,none⟩=some (.slice a2 k cap2):=hO.cell 0
   have HV0:Hid (∀ y,Below x.heap.size x y→y.cell? ⟨O,0,none⟩=some (.slice a2 k cap2)):=Lib.hid fun y hy=>(hy.cell (p:=⟨O,0,none⟩) hO.lt).trans v0
   have HV1:Hid (∀ y,Below x.heap.size x y→∀ o,(y.alloc o).cell? ⟨O,0,none⟩=some (.slice a2 k cap2)):=Lib.hid fun y hy o=>(Bk.alloc ((hy.block _ hO.lt).trans hO) o).cell 0
   have HOW:Hid (∀ y,Below x.heap.size x y→(y.alloc (.cells #[.int .i64 op,.int .i64 d,.int .i64 s,.int .i64 t,.int .i64 u,.int .i64 a',.int .u32 k',.int .i64 pl] 125)).ownsRow w.heap.size 125 8 (.slice a2 k cap2) k (progC (l.take k))):=Lib.hid fun y hy=>World.ownsRow.alloc (own_within hv (within_of_below hy) (by simp)) _
   have HNW:Hid (∀ y:World,∀ (j:Nat) (uu:Value),[Value.int .i64 op,.int .i64 d,.int .i64 s,.int .i64 t,.int .i64 u,.int .i64 a',.int .u32 k',.int .i64 pl][j]?=some uu→(y.alloc (.cells #[.int .i64 op,.int .i64 d,.int .i64 s,.int .i64 t,.int .i64 u,.int .i64 a',.int .u32 k',.int .i64 pl] 125)).cell? ((⟨y.heap.size,0,none⟩:Addr).add j)=some uu):=Lib.hid fun y=>news_bk (Bk.made y 125 #[.int .i64 op,.int .i64 d,.int .i64 s,.int .i64 t,.int .i64 u,.int .i64 a',.int .u32 k',.int .i64 pl])
   have HBS:Hid (∀ y,Below x.heap.size x y→w.heap.size≤(y.alloc (.cells #[.int .i64 op,.int .i64 d,.int .i64 s,.int .i64 t,.int .i64 u,.int .i64 a',.int .u32 k',.int .i64 pl] 125)).heap.size):=Lib.hid fun y hy=>by rw[World.size_alloc];have:=hb.size;have:=hy.size;omega
   have HEND:Hid (∀ y,Below x.heap.size x y→∀ (w':World) (v':Value),w'.ownsRow w.heap.size 125 8 v' (k+1) (progC (l.take k)++insC ⟨op,d,s,t,u,a',k',pl⟩)→(y.alloc (.cells #[.int .i64 op,.int .i64 d,.int .i64 s,.int .i64 t,.int .i64 u,.int .i64 a',.int .u32 k',.int .i64 pl] 125)).grownBy w' (Value.slice a2 k cap2).ownBlock→
    Below w.heap.size w (w'.setCell ⟨O,0,none⟩ v')∧Bk (w'.setCell ⟨O,0,none⟩ v') O 35 #[v',.int .i64 lo,.int .i64 un]∧Bk (w'.setCell ⟨O,0,none⟩ v') (w.heap.size+1) 35 #[.slice none 0 0,.int .i64 0,.int .i64 0]∧(w'.setCell ⟨O,0,none⟩ v').ownsRow w.heap.size 125 8 v' (k+1) (progC (l.take (k+1)))):=
    Lib.hid fun y hy w' v' h1 h2=>by rw[HT.out];exact ref_end hb hO hR (by omega) (by omega) hv hy h1 h2
   have HKO:Hid (∀ y,Below x.heap.size x y→∀ (w':World),(y.alloc (.cells #[.int .i64 op,.int .i64 d,.int .i64 s,.int .i64 t,.int .i64 u,.int .i64 a',.int .u32 k',.int .i64 pl] 125)).grownBy w' (Value.slice a2 k cap2).ownBlock→Bk w' O 35 #[.slice a2 k cap2,.int .i64 lo,.int .i64 un]):=Lib.hid fun y hy w' hg=>
    Bk.grown (Bk.alloc ((hy.block _ hO.lt).trans hO) _) hg fun e=>by
     obtain⟨cs,hcs⟩:=own_bk hv e.symm
     exact Bk.unlike hcs hO (by decide) rfl
   clear hO hR hv hb m2 ha HT
   go_region_law (first
    | (have hy9:=hy;refine step_own rfl (.tmp 19) (.tmp 22) 33 rfl _ 64 Tryz.underlying33 refInfo rfl (by omega) (by omega) (HOW.out y hy) (by simp[Act.eval]) (insC ⟨op,d,s,t,u,a',k',pl⟩) rfl (insC_one _) y.heap.size (by simp[Act.eval]) (HNW.out y) (by omega) (HBS.out y hy) ?_;intro v' w' hown hgr hloc;have hko:=HKO.out y hy w' hgr;have ck0:w'.cell? ⟨O,0,none⟩=some (.slice a2 k cap2):=hko.cell 0;have cf0:=hko.free 0;obtain⟨a3,cap3,rfl,_,_,_⟩:=own_is hown)
    | (go_simp;go_at_call 65;refine(HF.out _).mono ?_;rintro e y ⟨rfl,hy0⟩;have hy:Below x.heap.size x y:=below_of_drew hy0;have hyv:=HV0.out y hy;have hyo:=HV1.out y hy))
   all_goals (
    have HS:=Lib.hid (HEND.out y hy w' _ hown hgr)
    clear HOW HNW HBS HEND HKO HV0 HV1 HF hgr hown hloc
    go_wp2
    obtain⟨s1,s2,s3,s4⟩:=HS.out
    go_roundw
    case rel=>exact⟨k+1,_,by go_num,by omega,s1,s2,s3,s4⟩
    case measure=>
     show l.length - ((k:Int)+1).toNat < l.length - (k:Int).toNat
     omega)
  ·obtain rfl:k=l.length:=by omega
   have hki:¬ (l.length:Int) < l.length:=by omega
   rw[List.take_length] at hv
   obtain⟨a2,cap2,rfl,hcap2,hmax2,_⟩:=own_is hv
   obtain⟨y0,y1,y2⟩:wr.cell? ⟨O,0,none⟩=some (.slice a2 l.length cap2)∧wr.cell? ⟨O,1,none⟩=some (.int .i64 lo)∧wr.cell? ⟨O,2,none⟩=some (.int .i64 un):=⟨hO.cell 0,hO.cell 1,hO.cell 2⟩
   obtain⟨z0,z1,z2⟩:wr.cell? ⟨w.heap.size+1,0,none⟩=some (.slice none 0 0)∧wr.cell? ⟨w.heap.size+1,1,none⟩=some (.int .i64 0)∧wr.cell? ⟨w.heap.size+1,2,none⟩=some (.int .i64 0):=⟨hR.cell 0,hR.cell 1,hR.cell 2⟩
   have zf:=hR.free
   clear ha
   go_wp2
   have h9:=put3_bk hR (.slice a2 l.length cap2) (.int .i64 lo) (.int .i64 un)
   have b9:=put3_below hb (by show w.heap.size≤w.heap.size+1;omega) (.slice a2 l.length cap2) (.int .i64 lo) (.int .i64 un)
   have o9:(put3 wr (w.heap.size+1) (.slice a2 l.length cap2) (.int .i64 lo) (.int .i64 un)).ownsRow w.heap.size 125 8 (.slice a2 l.length cap2) l.length (progC l):=own_within hv ((((Within.refl wr (fun b=>b=w.heap.size+1)).put (w.heap.size+1) 0 (.slice a2 l.length cap2) (.inl rfl)).put (w.heap.size+1) 1 (.int .i64 lo) (.inl rfl)).put (w.heap.size+1) 2 (.int .i64 un) (.inl rfl)) (fun b e e2=>by
    obtain⟨cs,hcs⟩:=own_bk hv e
    exact Bk.unlike hcs hR (by decide) e2)
   generalize hv9:(((wr.setCell ⟨w.heap.size+1,0,none⟩ (.slice a2 l.length cap2)).setCell ⟨w.heap.size+1,1,none⟩ (.int .i64 lo)).setCell ⟨w.heap.size+1,2,none⟩ (.int .i64 un))=v9
   replace hv9:put3 wr (w.heap.size+1) (.slice a2 l.length cap2) (.int .i64 lo) (.int .i64 un)=v9:=hv9
   rw[hv9] at h9 b9 o9
   obtain⟨q0,q1,q2⟩:v9.cell? ⟨w.heap.size+1,0,none⟩=some (.slice a2 l.length cap2)∧v9.cell? ⟨w.heap.size+1,1,none⟩=some (.int .i64 lo)∧v9.cell? ⟨w.heap.size+1,2,none⟩=some (.int .i64 un):=⟨h9.cell 0,h9.cell 1,h9.cell 2⟩
   refine bodyPost_ret (v:=.agg #[.slice a2 l.length cap2,.int .i64 lo,.int .i64 un]) (by simp[results,Tryz.results31,go_sem,q0,q1,q2]) rfl ⟨.slice a2 l.length cap2,rfl,o9,b9⟩
theorem own_pv {w:World}{base:Nat}{t:TypeId}{sl:Value}{c:Prg}(h:w.ownsRow base t 8 sl c.l.length (progC c.l)):Pv w (.agg #[sl,.int .i64 c.lo,.int .i64 c.un]) c:=by
 obtain⟨a,cap,rfl,h1,h2,_⟩:=own_is h
 exact⟨a,cap,rfl,h1,h2,own_nil h,sli_own h⟩
theorem two_boxes (w:World)(t:TypeId)(xs ys:Array Value):Below w.heap.size w ((w.alloc (.cells xs t)).alloc (.cells ys t))∧Bk ((w.alloc (.cells xs t)).alloc (.cells ys t)) w.heap.size t xs∧Bk ((w.alloc (.cells xs t)).alloc (.cells ys t)) (w.heap.size+1) t ys:=by
 have h:=Bk.made (w.alloc (.cells xs t)) t ys
 rw[World.size_alloc] at h
 exact⟨((Below.refl _ _).alloc (Nat.le_refl _) _).alloc (by simp) _,(Bk.made w t xs).alloc _,h⟩
end Go.Proofs.YthdgehcghklflaaGreatDoor
namespace Go.Proofs.YthdgehcghklflaaGreatDoor
def tkWk (act la:Int):Nat:=if act=1 then (if la=1 then 4 else 3) else if act=2 then 2 else if act=3 then 1 else 0
def tkW (r:Rn)(t:Nat):Nat:=tkWk (r.act t) (lastD r.l t)
def tkEn (r:Rn)(t:Nat):Prop:=r.act t≠0∧(lastD r.l t=2→(faRun r.l).q.head?=some (t:Int)∧(faRun r.l).ow=-1)
section
variable {n:Nat}{st:Int}{s:Nat}{r:Rn}{t:Nat}
theorem tk_turned (h:TkI n st s r)(hn:n≤64)(ht:t < n):Turned tkW tkEn r (turnOp (tkK n) r t) t:=by
 rcases h.th t ht with h1 | h1 | h1 | h1 | h1
 ·rw[turnOp_idle h1.1]
  exact⟨fun he=>absurd h1.1 he.1,fun _ _=>rfl,fun _=>⟨rfl,fun _ _ h=>h⟩,fun e=>by omega,fun e=>by omega,fun e=>by omega⟩
 ·obtain⟨ha,hla,a,b,hc⟩:=h1
  rw[turn_step h.bad ht (.inl ha),tk_0 hc h.ws,came_mark]
  refine⟨fun _=>?_,fun t' hne=>?_,fun he=>absurd ⟨by omega,fun e=>by omega⟩ he,fun _=>.inl ha,fun e=>by omega,fun e=>by omega⟩
  ·unfold tkW
   simp only
   rw[last_same,hla,ha]
   decide
  ·unfold tkW
   simp only
   rw[last_other _ _ _ _ hne]
 ·obtain⟨ha,hla⟩:=h1
  obtain⟨m1,m2,m3⟩:=mem_q _ h.tr
  obtain⟨j,hj⟩:=List.getElem?_of_mem ((m1 t).2 hla)
  obtain⟨_,b,hc⟩:=h.qs j t hj
  have hjl:j < (faRun r.l).q.length:=(List.getElem?_eq_some_iff.1 hj).1
  have hfew:=nodup_few n _ m2 m3
  have ho:ow1 r.l≤1:=by unfold ow1;split <;> omega
  rw[turn_step h.bad ht (.inl ha),tk_2 hc h.ws]
  by_cases e:tw (st+s)=tw (st+s+ow1 r.l+j)
  ·rw[if_pos e,came_got (by exact ha)]
   refine⟨fun _=>?_,fun t' hne=>?_,fun he=>?_,fun _=>.inr (updN_same _ _ _),fun e=>by omega,fun e=>by omega⟩
   ·unfold tkW
    simp only
    rw[updN_same,last_same,ha,hla]
    decide
   ·unfold tkW
    simp only
    rw[updN_other hne,last_other _ _ _ _ hne,last_other _ _ _ _ hne]
   ·exfalso
    have hz:ow1 r.l=0∧j=0:=by unfold tw at e;omega
    refine he ⟨by omega,fun _=>⟨?_,?_⟩⟩
    ·rw[List.head?_eq_getElem?,←hz.2];exact hj
    ·have:=hz.1
     unfold ow1 at this
     by_cases hh:(faRun r.l).ow=-1
     ·exact hh
     ·rw[if_neg hh] at this;omega
  ·rw[if_neg e,came_nothing]
   refine⟨fun he=>?_,fun _ _=>rfl,fun _=>⟨rfl,fun _ _ h=>h⟩,fun _=>.inl ha,fun e=>by omega,fun e=>by omega⟩
   exfalso
   obtain⟨h1,h2⟩:=he.2 hla
   rw[List.head?_eq_getElem?] at h1
   have hj0:j=0:=by
    rcases Nat.decEq j 0 with hh | hh
    ·exfalso
     have hlt:0 < (faRun r.l).q.length:=by omega
     rw[List.getElem?_eq_getElem hlt] at h1
     rw[List.getElem?_eq_getElem hjl] at hj
     have:=(List.getElem_inj m2).1 ((Option.some.inj hj).trans (Option.some.inj h1).symm)
     exact hh this
    ·exact hh
   subst hj0
   refine e ?_
   unfold ow1
   rw[if_pos h2]
   congr 1
   omega
 ·obtain⟨ha,hla,b,hc⟩:=h1
  rw[turn_unlock h.bad ht ha,tk_unlock hc,came_nothing]
  refine⟨fun _=>?_,fun t' hne=>?_,fun he=>absurd ⟨by omega,fun e=>by omega⟩ he,fun e=>by omega,fun _=>.inr (updN_same _ _ _),fun e=>by omega⟩
  ·unfold tkW
   simp only
   rw[updN_same,last_same,ha,hla]
   decide
  ·unfold tkW
   simp only
   rw[updN_other hne,last_other _ _ _ _ hne]
 ·obtain⟨ha,hla,b,hc⟩:=h1
  rw[turn_step h.bad ht (.inr ha),tk_6 hc h.ws,came_over (by exact ha)]
  refine⟨fun _=>?_,fun t' hne=>?_,fun he=>absurd ⟨by omega,fun e=>by omega⟩ he,fun e=>by omega,fun e=>by omega,fun _=>.inl (updN_same _ _ _)⟩
  ·unfold tkW
   simp only
   rw[updN_same,last_same,ha,hla]
   decide
  ·unfold tkW
   simp only
   rw[updN_other hne,last_other _ _ _ _ hne,last_other _ _ _ _ hne]
theorem tk_called (h:TkI n st s r)(ht:t < n)(ha:r.act t=0):(opR (tkK n) r ⟨1,t,false⟩).act t=1∧(opR (tkK n) r ⟨1,t,false⟩).l=r.l++[⟨1,t,0⟩]∧TkI n st s (opR (tkK n) r ⟨1,t,false⟩):=by
 have hk:=tk_call h ht ha
 rw[turn_call h.bad ht ha]
 obtain⟨a,b,pc,hc⟩:∃ a b pc,r.m.cs t=tc a b pc:=by
  rcases h.th t ht with h1 | h1 | h1 | h1 | h1
  ·exact h1.2.2
  all_goals (exfalso;have:=h1.1;omega)
 rw[tk_lock hc,came_nothing] at hk ⊢
 exact⟨updN_same _ _ _,rfl,hk⟩
def tkS (n:Nat)(st:Int)(hn:n≤64):Simple (tkK n) where
 I r:=∃ s,TkI n st s r
 W:=tkW
 c:=4
 En:=tkEn
 few r t:=by
  unfold tkW tkWk
  repeat' split
  all_goals omega
 zero r t h:=by
  unfold tkW tkWk
  rw[h];simp
 range r t:=by
  rintro⟨s,h⟩ ht
  rcases h.th t ht with h1 | h1 | h1 | h1 | h1 <;> have:=h1.1 <;> omega
 keep r o h:=tk_op hn o h
 turned r t:=by
  rintro⟨s,h⟩ ht
  exact tk_turned h hn ht
 called r t:=by
  rintro⟨s,h⟩ ht ha
  obtain⟨e1,e2,_⟩:=tk_called h ht ha
  refine⟨.inl e1,fun t' hne=>?_⟩
  unfold tkW
  rw[opR_act (by simp only;omega),e2,last_other _ _ _ _ hne]
 idle r t _ _ he:=he.1
 some_ r:=by
  rintro⟨s,h⟩ hi
  obtain⟨m1,m2,m3⟩:=mem_q _ h.tr
  have:∃ t,t < n∧r.act t≠0:=by
   by_cases hh:∃ t,t < n∧r.act t≠0
   ·exact hh
   ·exfalso
    refine hi fun t ht=>?_
    by_cases h0:r.act t=0
    ·exact h0
    ·exact absurd ⟨t,ht,h0⟩ hh
  obtain⟨t,ht,h0⟩:=this
  by_cases h2:lastD r.l t=2
  ·cases hq:(faRun r.l).q with
   | nil=>
    have:=(m1 t).2 h2
    rw[hq] at this;simp at this
   | cons x rest=>
    have hx:=m3 x (by rw[hq];simp)
    by_cases ho:(faRun r.l).ow=-1
    ·refine⟨x.toNat,by show x.toNat < n;omega,?_,fun _=>⟨by rw[hq];simp;omega,ho⟩⟩
     have hl2:=(m1 x).1 (by rw[hq];simp)
     rcases h.th x.toNat (by omega) with h1 | h1 | h1 | h1 | h1
     ·have:=h1.2.1
      rw[show ((x.toNat:Nat):Int)=x by omega] at this
      omega
     all_goals (have:=h1.1;omega)
    ·obtain⟨o1,o2,o3,_⟩:=owner_iff _ h.tr
     have hk:=(o1 (faRun r.l).ow).2 ⟨rfl,by omega⟩
     -- the owner is a thread
     have hlt:(faRun r.l).ow < n:=(last_thread _ h.tr _ (fun e=>by rw[e] at hk;simp[ownK] at hk)).2
     refine⟨(faRun r.l).ow.toNat,by show (faRun r.l).ow.toNat < n;omega,?_,fun e=>?_⟩
     ·rcases h.th (faRun r.l).ow.toNat (by omega) with h1 | h1 | h1 | h1 | h1
      ·have:=h1.2.1
       rw[show (((faRun r.l).ow.toNat:Nat):Int)=(faRun r.l).ow by omega] at this
       rcases this with this | this <;> rw[this] at hk <;> simp[ownK] at hk
      all_goals (have:=h1.1;omega)
     ·rw[show (((faRun r.l).ow.toNat:Nat):Int)=(faRun r.l).ow by omega] at e
      rw[e] at hk
      simp[ownK] at hk
  ·exact⟨t,ht,h0,fun e=>absurd e h2⟩
theorem tk_rest (h:TkI n st s r)(hi:Idle n r):(faRun r.l).q=[]∧(faRun r.l).ow=-1:=by
 obtain⟨m1,m2,m3⟩:=mem_q _ h.tr
 obtain⟨o1,o2,o3,_⟩:=owner_iff _ h.tr
 constructor
 ·cases hq:(faRun r.l).q with
  | nil=>rfl
  | cons x rest=>
   exfalso
   have hx:=m3 x (by rw[hq];simp)
   have:=(h.qs 0 x.toNat (by rw[hq];simp;omega)).1
   have:=hi x.toNat (by omega)
   omega
 ·by_cases hh:(faRun r.l).ow=-1
  ·exact hh
  ·exfalso
   have hk:=(o1 (faRun r.l).ow).2 ⟨rfl,by omega⟩
   have hlt:=(last_thread _ h.tr _ (fun e=>by rw[e] at hk;simp[ownK] at hk)).2
   have h0:=hi (faRun r.l).ow.toNat (by omega)
   rcases h.th (faRun r.l).ow.toNat (by omega) with h1 | h1 | h1 | h1 | h1
   ·have:=h1.2.1
    rw[show (((faRun r.l).ow.toNat:Nat):Int)=(faRun r.l).ow by omega] at this
    rcases this with this | this <;> rw[this] at hk <;> simp[ownK] at hk
   all_goals (have:=h1.1;omega)
theorem tk_alone (h:TkI n st s r)(hn:n≤64)(ht:t < n)(hi:Idle n r):
 let r1:=opR (tkK n) r ⟨1,t,false⟩
 let r3:=opR (tkK n) (opR (tkK n) r1 ⟨3,t,false⟩) ⟨3,t,false⟩
 let r5:=opR (tkK n) (opR (tkK n) r3 ⟨2,t,false⟩) ⟨3,t,false⟩
 r3.act t=2∧r5.act t=0∧∃ s,TkI n st s r5:=by
 obtain⟨a1,a2,h1⟩:=tk_called h ht (hi t ht)
 obtain⟨hq,ho⟩:=tk_rest h hi
 have hl0:lastD r.l t=0∨lastD r.l t=10:=by
  rcases h.th t ht with h2 | h2 | h2 | h2 | h2
  ·exact h2.2.1
  all_goals (exfalso;have:=h2.1;have:=hi t ht;omega)
 have q1:(faRun (opR (tkK n) r ⟨1,t,false⟩).l).q=[]:=by rw[a2,q_other h.tr (by simp) (by show lastD r.l t≠2;omega),hq]
 have o1:(faRun (opR (tkK n) r ⟨1,t,false⟩).l).ow=-1:=by rw[a2,ow_other h.tr (by simp) rfl (by show ownK (lastD r.l t)=false;rcases hl0 with e | e <;> rw[e] <;> rfl),ho]
 have l1:lastD (opR (tkK n) r ⟨1,t,false⟩).l t=1:=by rw[a2];exact last_same _ _ _
 intro r1 r3 r5
 obtain⟨a,b,hc⟩:∃ a b,r1.m.cs t=tc a b 0:=by
  rcases h1.th t ht with h2 | h2 | h2 | h2 | h2
  ·have:=h2.1;omega
  ·exact h2.2.2
  all_goals (have:=h2.2;omega)
 -- the first step
 have h2:=tk_s0 h1 ht a1 l1 hc false
 have e2:opR (tkK n) r1 ⟨3,t,false⟩=cameR { r1 with m:=(stepM (tkK n) r1.m t false).1 } t (stepM (tkK n) r1.m t false).2:=by
  rw[op3_turn (by rw[show r1.act t=1 from a1];decide),turn_step h1.bad ht (.inl a1)]
 rw[←e2] at h2
 have e3:=e2
 rw[tk_0 hc h1.ws,came_mark] at e3
 have b1:(opR (tkK n) r1 ⟨3,t,false⟩).act t=1:=by rw[e3];exact a1
 have b2:(opR (tkK n) r1 ⟨3,t,false⟩).l=r1.l++[⟨markK 1,(t:Int),0⟩]:=by rw[e3]
 have b3:tkEn (opR (tkK n) r1 ⟨3,t,false⟩) t:=by
  refine⟨by omega,fun _=>?_⟩
  rw[b2,q_enq h1.tr rfl (by show lastD r1.l t≠2;rw[show lastD r1.l t=1 from l1];decide),ow_other h1.tr (by simp) rfl (by show ownK (lastD r1.l t)=false;rw[show lastD r1.l t=1 from l1];rfl)]
  rw[show (faRun r1.l).q=[] from q1]
  exact⟨rfl,o1⟩
 have b4:lastD (opR (tkK n) r1 ⟨3,t,false⟩).l t=2:=by rw[b2];exact last_same _ _ _
 -- the second one
 have T3:=tk_turned h2 hn ht
 have e4:r3=turnOp (tkK n) (opR (tkK n) r1 ⟨3,t,false⟩) t:=op3_turn (by omega)
 rw[←e4] at T3
 have c1:r3.act t=2:=by
  have w:=T3.less b3
  have w2:tkW (opR (tkK n) r1 ⟨3,t,false⟩) t=3:=by unfold tkW;rw[b1,b4];rfl
  rcases T3.a1 b1 with e | e
  ·exfalso
   have:3≤tkW r3 t:=by
    unfold tkW tkWk
    rw[if_pos e];split <;> omega
   omega
  ·exact e
 obtain⟨s3,h3⟩:∃ s,TkI n st s r3:=tk_op hn _ ⟨s,h2⟩
 -- unlock
 have T4:=tk_turned h3 hn ht
 have e5:opR (tkK n) r3 ⟨2,t,false⟩=turnOp (tkK n) r3 t:=op2_turn c1
 rw[←e5] at T4
 obtain⟨s4,h4⟩:∃ s,TkI n st s (opR (tkK n) r3 ⟨2,t,false⟩):=tk_op hn _ ⟨s3,h3⟩
 have d1:=T4.a2 c1
 have T5:=tk_turned h4 hn ht
 have e6:r5=turnOp (tkK n) (opR (tkK n) r3 ⟨2,t,false⟩) t:=op3_turn (by omega)
 rw[←e6] at T5
 refine⟨c1,?_,tk_op hn _ ⟨s4,h4⟩⟩
 rcases d1 with e | e
 ·rw[e6,turnOp_idle e];exact e
 ·have hen:tkEn (opR (tkK n) r3 ⟨2,t,false⟩) t:=by
   refine⟨by omega,fun e2=>?_⟩
   exfalso
   rcases h4.th t ht with h5 | h5 | h5 | h5 | h5
   all_goals (have h6:=h5.1;first | omega | (have:=h5.2.1;omega))
  have w:=T5.less hen
  have w2:tkW (opR (tkK n) r3 ⟨2,t,false⟩) t=1:=by
   unfold tkW tkWk
   rw[e]
   simp
  rcases T5.a3 e with e7 | e7
  ·exact e7
  ·exfalso
   have:tkW r5 t=1:=by
    unfold tkW tkWk
    rw[e7]
    simp
   omega
end
end Go.Proofs.YthdgehcghklflaaGreatDoor
namespace Go.Proofs.YthdgehcghklflaaGreatDoor
open Go.ChangeShapes Go.WideShapes Go.ChangeAt Go.RowKit
def corC (xs:List Int)(pc:Int):List Value:=xs.map (Value.int .u32)++[.int .i64 pc]
def cv (xs:List Int)(pc:Int):Value:=.agg (corC xs pc).toArray
set_option maxRecDepth 100000
theorem celInfo:(Tryz.prog.info? 153).map (fun i=>(i.zero,i.size,i.bytes))=some (some (.agg #[.int .i64 0,.int .i64 0]),2,16):=by kernel_rfl
theorem celC_one (c:Nat×Nat):∀ u∈celC c,u.oneCell'=true:=by
 intro u hu
 simp[celC] at hu
 rcases hu with rfl | rfl <;> rfl
def Cs (base:Nat)(w:World)(v:Value)(l:List (Nat×Nat)):Prop:=w.ownsRow base 153 2 v l.length (celsC l)
section
variable {base:Nat}{w w':World}{v:Value}{l:List (Nat×Nat)}
theorem Cs.nil (base:Nat)(w:World):Cs base w (.slice none 0 0) []:=World.ownsRow_nil _ _ _ _
theorem Cs.within {S:Nat→Prop}(h:Cs base w v l)(hk:Within w w' S)(hn:∀ g,v.ownBlock=some g→¬ S g):Cs base w' v l:=own_within h hk hn
theorem Cs.lt (h:Cs base w v l){g:Nat}(e:v.ownBlock=some g):base≤g∧g < w.heap.size:=World.ownsRow.lt h g e
theorem Cs.is (h:Cs base w v l):∃ a cap,v=.slice a l.length cap∧l.length≤cap∧cap≤maxLen∧(0 < l.length→∃ g,a=some ⟨g,0,none⟩∧v.ownBlock=some g∧base≤g∧g < w.heap.size∧(∀ i,w.frozen? ⟨g,i,none⟩=false)∧∀ i c,l[i]?=some c→w.cell? ⟨g,i * 2,none⟩=some (.int .i64 c.1)∧w.cell? ⟨g,i * 2+1,none⟩=some (.int .i64 c.2)):=by
 obtain⟨a,cap,e,h1,h2,h3⟩:=own_is h
 refine⟨a,cap,e,h1,h2,fun h0=>?_⟩
 obtain⟨g,e1,e2,e3,e4,e5,e6⟩:=h3 h0
 refine⟨g,e1,e2,e3,e4,e5,fun i c hi=>?_⟩
 have hlt:i < l.length:=(List.getElem?_eq_some_iff.1 hi).1
 obtain⟨q1,q2⟩:=celsC_at l i c hi
 rw[e6 _ (by omega),e6 _ (by omega),q1,q2]
 exact⟨rfl,rfl⟩
end
def CellsPost (w:World)(zs:List Int)(e:Ending)(w':World):Prop:=
 w.grownBy w' none∧((RightZ zs∧∃ v,e=.returned (.tuple #[v,.bool (decide ((tot zs:Int)≤8192))])∧Cs w.heap.size w' v (cels zs))∨(¬ RightZ zs∧e=.returned (.tuple #[.slice none 0 0,.bool false])))
theorem pre_few {zs:List Int}:∀ k,(∀ i,i < k→0≤nth zs i∧nth zs i≤4096)→pre zs k≤4096 * k
 | 0,_=>Nat.le_refl _
 | k+1,h=>by
  have h1:=pre_few k fun i hi=>h i (by omega)
  have h2:=h k (by omega)
  rw[pre_succ];unfold sz;omega
theorem cs_next {w wr:World}{o:Value}{zs:List Int}{k i:Nat}(ho:Cs w.heap.size wr o (celPart zs k i))(hg:w.grownBy wr none)(w':World)(v':Value)(h1:w'.ownsRow w.heap.size 153 2 v' ((celPart zs k i).length+1) (celsC (celPart zs k i)++celC (k,i)))
 (h2:(wr.alloc (.cells #[.int .i64 k,.int .i64 i] 153)).grownBy w' o.ownBlock):Cs w.heap.size w' v' (celPart zs k (i+1))∧w.grownBy w' none:=by
 constructor
 ·unfold Cs
  rw[celPart_next,celsC_snoc,List.length_append]
  exact h1
 ·exact grown_then (grown_then hg (grown_made _ _ none) (.inl rfl)) h2 (.inr fun x e=>(ho.lt e).1)
set_option maxHeartbeats 1000000 in
theorem rCells {w:World}{a:Option Addr}{zs:List Int}(h:Given .i64 w a zs)(hm:zs.length≤maxLen)(cap:Nat):
 Calls Tryz.prog 32 #[.slice a zs.length cap] w (CellsPost w zs):=by
 unfold maxLen at hm
 by_cases h8:8 < zs.length
 ·go_enter Tryz.func32,Tryz.ntmps32
  go_wp2
  go_ret2
  exact⟨grown_refl _ _,.inr ⟨fun hz=>by have:=hz.1;omega,rfl⟩⟩
 go_enter Tryz.func32,Tryz.ntmps32
 go_wp2
 go_loopw [4,13] (fun o t wr=>∃ k:Nat,k≤zs.length∧t=.int .i64 k∧Hid (∀ i,i < k→0≤nth zs i∧nth zs i≤4096)∧Cs w.heap.size wr o (celTo zs k)∧w.grownBy wr none) (fun _ t _=>zs.length - (intOf t).toNat)
 case atStart=>exact⟨0,Nat.zero_le _,rfl,Lib.hid (fun i hi=>by omega),Cs.nil _ _,grown_refl _ _⟩
 case round=>
  obtain⟨k,hk,rfl,HA,ho,hg⟩:=hrel
  by_cases hlt:k < zs.length
  ·obtain⟨b,off,rfl,hc⟩:=(h.grown hg).here hlt
   rcases(show nth zs k < 0∨(0≤nth zs k∧4096 < nth zs k)∨(0≤nth zs k∧nth zs k≤4096) by omega) with h1 | h1 | h1
   ·go_wp2
    go_ret2
    exact⟨hg,.inr ⟨fun hz=>by have:=hz.2 k hlt;omega,rfl⟩⟩
   ·go_wp2
    go_ret2
    exact⟨hg,.inr ⟨fun hz=>by have:=hz.2 k hlt;omega,rfl⟩⟩
   ·obtain⟨n,hn⟩:∃ n,sz zs k=n:=⟨_,rfl⟩
    have hzn:nth zs k=(n:Int):=by unfold sz at hn;omega
    have hn4:n≤4096:=by omega
    rw[hzn] at hc
    have HZ:=Lib.hid hzn
    have HN:=Lib.hid hn
    have hpk:=pre_few k HA.out
    have HP:Hid (pre zs k≤40000):=Lib.hid (by omega)
    rw[←celPart_0] at ho
    clear h1 hzn hn hpk
    go_wp2
    go_loopw [4,7] (fun o t wr=>∃ i:Nat,i≤n∧t=.int .i64 i∧Cs w.heap.size wr o (celPart zs k i)∧w.grownBy wr none) (fun _ t _=>n - (intOf t).toNat)
    case atStart=>exact⟨0,Nat.zero_le _,rfl,ho,hg⟩
    case round=>
     clear ho hg hc
     obtain⟨i,hi,rfl,ho,hg⟩:=hrel
     by_cases hin:i < n
     ·have HO:=Lib.hid (World.ownsRow.alloc ho (.cells #[.int .i64 k,.int .i64 i] 153))
      have HNW:Hid (∀ (j:Nat) (u:Value),(celC (k,i))[j]?=some u→(wr.alloc (.cells #[.int .i64 k,.int .i64 i] 153)).cell? ((⟨wr.heap.size,0,none⟩:Addr).add j)=some u):=Lib.hid (news_bk (Bk.made wr 153 #[.int .i64 k,.int .i64 i]))
      have HBS:Hid (w.heap.size≤(wr.alloc (.cells #[.int .i64 k,.int .i64 i] 153)).heap.size):=Lib.hid (by rw[World.size_alloc];have:=hg.size;omega)
      have HL:Hid ((celPart zs k i).length < 100000):=Lib.hid (by rw[celPart_len];have:=HP.out;omega)
      have HEND:=Lib.hid (cs_next (k:=k) (i:=i) ho hg)
      clear ho hg
      go_wp2_with (at_builtin;refine wpOwn rfl _ _ 77 rfl _ 16 Tryz.underlying77 celInfo rfl (by omega) (by omega) HO.out rfl (celC (k,i)) rfl (celC_one _) wr.heap.size rfl HNW.out HL.out HBS.out ?_;intro v' w' hown hgr hloc)
      obtain⟨s1,s2⟩:=HEND.out _ _ hown hgr
      go_roundw
      case rel=>exact⟨i+1,by omega,by go_num,s1,s2⟩
      case measure=>simp[intOf];omega
     ·obtain rfl:i=n:=by omega
      rw[←HN.out,celPart_all] at ho
      go_wp2
      go_roundw
      case rel=>
       refine⟨k+1,by omega,by go_num,Lib.hid fun j hj=>?_,ho,hg⟩
       by_cases e:j=k
       ·subst e;have:=HZ.out;omega
       ·exact HA.out j (by omega)
      case measure=>simp[intOf];omega
  ·obtain rfl:k=zs.length:=by omega
   have hz:RightZ zs:=⟨by omega,HA.out⟩
   obtain⟨oa,oc,rfl,_,hoc,_⟩:=ho.is
   rw[show celTo zs zs.length=cels zs from rfl,cels_len] at *
   have ht:=tot_le hz
   go_wp2
   go_ret2
   exact⟨hg,.inl ⟨hz,_,rfl,ho⟩⟩
section
variable {base:Nat}{w:World}{v:Value}{zs:List Int}
set_option maxHeartbeats 400000 in
theorem rFind (h:Cs base w v (cels zs))(hz:RightZ zs)(A P:Nat)(x:Int)(h0:0≤x)(h1:x < 4294967296)(hA:A < zs.length)(hP:P < sz zs A)(hx:x % 4096=P):
 Calls Tryz.prog 53 #[v,.int .i64 A,.int .u32 x] w fun e w'=>e=.returned (.int .i64 ((pre zs A+P:Nat):Int))∧w.grownBy w' none:=by
 obtain⟨a,cap,rfl,hlc,hcm,hat⟩:=h.is
 have hlt:=pre_lt hA hP
 rw[cels_len] at *
 obtain⟨g,rfl,_,_,hgl,hfr,hcl⟩:=hat (by omega)
 have ht:=tot_le hz
 go_enter Tryz.func53,Tryz.ntmps53
 go_wp2
 go_loopw [11] (fun t wr=>∃ k:Nat,k≤pre zs A+P∧t=.int .i64 k∧w.grownBy wr none) (fun t _=>tot zs - (intOf t).toNat)
 case atStart=>exact⟨0,Nat.zero_le _,rfl,grown_refl _ _⟩
 case round=>
  obtain⟨k,hk,rfl,hg⟩:=hrel
  obtain⟨ca,cp,q1,q2,q3⟩:=tot_split (zs:=zs) (i:=k) (by omega)
  obtain⟨c1,c2⟩:=hcl k (ca,cp) (by rw[q3];exact cels_at q1 q2)
  have d1:=((below_of_grown hg).cell (p:=⟨g,k * 2,none⟩) hgl).trans c1
  have d2:=((below_of_grown hg).cell (p:=⟨g,k * 2+1,none⟩) hgl).trans c2
  simp only at d1 d2
  have hkt:k < tot zs:=by omega
  have HQ:=Lib.hid q3
  clear q3 hcl hat
  have hgn:w.grownBy (wr.alloc (.cells #[.int .i64 ca,.int .i64 cp] 153)) none:=grown_then hg (grown_made _ _ none) (.inl rfl)
  by_cases e:ca=A
  ·subst e
   by_cases e2:cp=P
   ·subst e2
    have t2:((cp:Int)==x % 4096)=true:=by simp;omega
    go_wp2
    go_ret
    exact⟨ret_int (by have:=HQ.out;omega),hgn⟩
   ·have t2:((cp:Int)==x % 4096)=false:=by simp;omega
    go_wp2
    go_roundw
    case rel=>exact⟨k+1,by have:=HQ.out;omega,by go_num,hgn⟩
    case measure=>simp[intOf];omega
  ·have t1:((ca:Int)==(A:Int))=false:=by simp;omega
   have hne:k≠pre zs A+P:=fun e3=>by
    have u1:=cels_at q1 q2
    have u2:=cels_at hA hP
    rw[←HQ.out,e3,u2] at u1
    simp at u1
    exact e u1.1.symm
   go_wp2
   go_roundw
   case rel=>exact⟨k+1,by omega,by go_num,hgn⟩
   case measure=>simp[intOf];omega
set_option maxHeartbeats 400000 in
theorem rFindNo (h:Cs base w v (cels zs))(hz:RightZ zs)(area x:Int)(h0:0≤x)(h1:x < 4294967296)(hno:area < 0∨(zs.length:Int)≤area∨(sz zs area.toNat:Int)≤x % 4096):
 Calls Tryz.prog 53 #[v,.int .i64 area,.int .u32 x] w fun e w'=>e=.returned (.int .i64 (-1))∧w.grownBy w' none:=by
 obtain⟨a,cap,rfl,hlc,hcm,hat⟩:=h.is
 rw[cels_len] at *
 have ht:=tot_le hz
 have HNO:=Lib.hid hno
 clear hno
 go_enter Tryz.func53,Tryz.ntmps53
 go_wp2
 go_loopw [11] (fun t wr=>∃ k:Nat,k≤tot zs∧t=.int .i64 k∧w.grownBy wr none) (fun t _=>tot zs - (intOf t).toNat)
 case atStart=>exact⟨0,Nat.zero_le _,rfl,grown_refl _ _⟩
 case round=>
  obtain⟨k,hk,rfl,hg⟩:=hrel
  by_cases hkt:k < tot zs
  ·obtain⟨g,rfl,_,_,hgl,hfr,hcl⟩:=hat (by omega)
   obtain⟨ca,cp,q1,q2,q3⟩:=tot_split hkt
   obtain⟨c1,c2⟩:=hcl k (ca,cp) (by rw[q3];exact cels_at q1 q2)
   have d1:=((below_of_grown hg).cell (p:=⟨g,k * 2,none⟩) hgl).trans c1
   have d2:=((below_of_grown hg).cell (p:=⟨g,k * 2+1,none⟩) hgl).trans c2
   simp only at d1 d2
   clear q3 hcl hat
   have hgn:w.grownBy (wr.alloc (.cells #[.int .i64 ca,.int .i64 cp] 153)) none:=grown_then hg (grown_made _ _ none) (.inl rfl)
   by_cases e:(ca:Int)=area
   ·subst e
    have t2:((cp:Int)==x % 4096)=false:=by
     have:=HNO.out
     rw[Int.toNat_natCast] at this
     simp
     omega
    go_wp2
    go_roundw
    case rel=>exact⟨k+1,by omega,by go_num,hgn⟩
    case measure=>simp[intOf];omega
   ·have t1:((ca:Int)==area)=false:=by simpa using e
    go_wp2
    go_roundw
    case rel=>exact⟨k+1,by omega,by go_num,hgn⟩
    case measure=>simp[intOf];omega
  ·obtain rfl:k=tot zs:=by omega
   go_wp2
   go_ret
   exact⟨rfl,hg⟩
end
end Go.Proofs.YthdgehcghklflaaGreatDoor
namespace Go.Proofs.YthdgehcghklflaaGreatDoor
open Go.Joins Go.ChangeShapes Go.WideShapes Go.ChangeAt Go.RowKit Go.Deep
theorem star: "*errors.errorString" = "*"++ "errors.errorString":=by decide
theorem errRow (u:TypeId)(h:Tryz.prog.typeName? 3 u=some "*errors.errorString"):u=311:=
 typeName_ptr_named (nm:= "errors.errorString") (by rw[←star];kernel_rfl) (by kernel_rfl) (by decide) u (by rw[←star];exact h)
theorem lb_of {W:World}(hL:laidMet Tryz.prog [("math/bits.deBruijn32tab",Rows.laid_math_bits_deBruijn32tab),("math/bits.deBruijn64tab",Rows.laid_math_bits_deBruijn64tab),("internal/strconv.uint64pow10",Rows.laid_internal_strconv_uint64pow10),("unicode/utf8.acceptRanges",Rows.laid_unicode_utf8_acceptRanges),("strconv.ErrRange",Rows.laid_strconv_ErrRange),("strconv.ErrSyntax",Rows.laid_strconv_ErrSyntax),("unicode/utf8.first",Rows.laid_unicode_utf8_first)] W)(hsh:W.ShapedOpen Tryz.prog):Lb W:=by
 have h2:=hL.tail.tail
 have h4:=h2.tail.tail
 have tab:Lib.TabIs Tryz.prog W "internal/strconv.uint64pow10" .u64 Lib.pow10Tab:=
  Lib.tabIs_of_head (g:=5) (by kernel_rfl) (by kernel_rfl) Tryz.underlying315 Tryz.underlying291 (by kernel_rfl) (by kernel_rfl) h2
 obtain⟨a1,_,hv1,_⟩:=laid_sentinel h4 (g:=2) (by kernel_rfl) (by kernel_rfl) Tryz.underlying274 (errRow) Tryz.underlying311 Tryz.underlying313 rfl rfl Tryz.underlying9 (by kernel_rfl) (by kernel_rfl)
 obtain⟨a2,_,hv2,_⟩:=laid_sentinel h4.tail (g:=1) (by kernel_rfl) (by kernel_rfl) Tryz.underlying274 (errRow) Tryz.underlying311 Tryz.underlying313 rfl rfl Tryz.underlying9 (by kernel_rfl) (by kernel_rfl)
 obtain⟨m,hm⟩:=Tryz.laysM147.s1_3 W hsh
 have c0:W.cell? ⟨0,0,none⟩=some (.int .i64 m):=hm
 have c1:=tab.cell (g:=5) (by kernel_rfl) 0 (by decide)
 have c2:=World.var?_cell (g:=1) (by kernel_rfl) hv2 0
 have c3:=World.var?_cell (g:=2) (by kernel_rfl) hv1 0
 exact⟨tab,⟨_,_,hv2⟩,⟨_,_,hv1⟩,⟨m,c0⟩,World.block_lt_of_cell? W _ c0,World.block_lt_of_cell? W _ c1,World.block_lt_of_cell? W _ c2,World.block_lt_of_cell? W _ c3⟩
theorem returns_laid {H:Type}{enc:TypeId×Value→H}{a:Assume}{C:Checked}{os:Os}{f:FuncId}{fn:Func}{s:ChangeSpec}{conds:List PathCond}{apart fresh handsOn again:Bool}{X:World→Array Value→Prop}
 (hX:∀ (w w':World) (args:Array Value),w.heap=w'.heap→X w args→X w' args)
 (own:ownKnob C.prog.godebug=none) (started:os.Started) (noInit:C.prog.inits.idxOf? f=none) (hfn:C.prog.funcs[f]?=some fn)
 (witness:∃ (w:World) (tape:Tape) (i:Input),w.os=os∧(w.forCall tape i).Shaped C.prog∧i.vars=[]∧Input.okWide C.prog (w.forCall tape i) .any w.heap.size f i∧
  ((s.pre enc C.prog fn conds apart (w.forCall tape i).memory i.args∧X (w.forCall tape i).memory i.args)∧sizedMet enc C.prog fn (OpenSpec.ofChange s) apart (w.forCall tape i).memory i.args)∧a.holds C.prog (lone (Frame.enter C.prog f i.args .normal) [] (w.forCall tape i)))
 (walk:∀ (W:World) (base:Nat) (args:Array Value) (ds gs:List (DataW H)) (before:List MemPlace),
  (∀ (j:Nat) t v,fn.params[j]?=some t→args[j]?=some v→Value.okWide C.prog W .any base t v)→
  DataW.Whole enc C.prog fn.params.toList s.vars apart W args.toList ds gs before→X W args→W.ShapedOpen C.prog→
  Calls C.prog f args W fun e W'=>∃ v,e=.returned v∧s.post enc C.prog fn apart fresh handsOn again W args v W'):
 ReturnsInHanded a C os f .any (fun w args=>(s.pre enc C.prog fn conds apart w args∧X w args)∧sizedMet enc C.prog fn (OpenSpec.ofChange s) apart w args) (s.post enc C.prog fn apart fresh handsOn again):=by
 refine returnsInHanded_of_calls own started noInit witness fun w tape i _ hsh _ hok hpre _=>?_
 obtain⟨_,_,_,fn',hfn',_,_,_,_,hval⟩:=hok
 obtain rfl:fn'=fn:=Option.some.inj (hfn'.symm.trans hfn)
 obtain⟨⟨⟨ds,gs,before,hw,_⟩,hx⟩,_⟩:=hpre
 refine(walk (w.forCall tape i) w.heap.size i.args ds gs before hval (DataW.Whole.of_heap (by rfl) hw) (hX _ _ _ (by rfl) hx) hsh).mono fun e W' ⟨v,he,hp⟩=>?_
 subst he
 exact ChangeSpec.post_blind hp
end Go.Proofs.YthdgehcghklflaaGreatDoor
namespace Go.Proofs.YthdgehcghklflaaGreatDoor
set_option maxRecDepth 100000
open Go.ChangeShapes Go.WideShapes Go.ChangeAt Go.RowKit
def Sv (w:World)(v:Value)(c:Prg)(zs init r7:List Int)(each:Int):Prop:=
 ∃ aL cL aS cS aI cI aR cR,v=.agg #[.slice aL c.l.length cL,.int .i64 c.lo,.int .i64 c.un,.slice aS zs.length cS,.slice aI init.length cI,.int .i64 each,.slice aR r7.length cR]∧
  Pv w (.agg #[.slice aL c.l.length cL,.int .i64 c.lo,.int .i64 c.un]) c∧Given .i64 w aS zs∧Given .u32 w aI init∧Given .u32 w aR r7∧zs.length≤maxLen∧init.length≤maxLen∧r7.length≤maxLen
theorem Given.below {k:IntKind}{w w':World}{a:Option Addr}{xs:List Int}(h:Given k w a xs)(hb:Below w.heap.size w w'):Given k w' a xs:=by
 intro h0
 obtain⟨b,off,e,hlt,hc⟩:=h h0
 exact⟨b,off,e,Nat.lt_of_lt_of_le hlt hb.size,fun i hi=>(hb.cell (p:=⟨b,off+i,none⟩) hlt).trans (hc i hi)⟩
theorem Sv.below {w w':World}{v:Value}{c:Prg}{zs init r7:List Int}{each:Int}(h:Sv w v c zs init r7 each)(hb:Below w.heap.size w w'):Sv w' v c zs init r7 each:=by
 obtain⟨aL,cL,aS,cS,aI,cI,aR,cR,e,h1,h2,h3,h4,h5⟩:=h
 exact⟨aL,cL,aS,cS,aI,cI,aR,cR,e,h1.below hb,h2.below hb,h3.below hb,h4.below hb,h5⟩
theorem own_below {W W':World}{base n sz:Nat}{t:TypeId}{v:Value}{xs:List Value}(h:W.ownsRow base t sz v n xs)(hb:Below W.heap.size W W'):W'.ownsRow base t sz v n xs:=own_within h (within_of_below hb) (by simp)
theorem own_safe {W W':World}{base n sz b:Nat}{t u:TypeId}{v:Value}{xs:List Value}{cs:Array Value}(h:W.ownsRow base t sz v n xs)(hw:Within W W' (fun i=>i=b))(hb:Bk W b u cs)(hne:t≠u):W'.ownsRow base t sz v n xs:=
 own_within h hw fun g e e2=>by
  obtain⟨cs',hcs⟩:=own_bk h e
  exact Bk.unlike hcs hb hne e2
def put7 (y:World)(g:Nat)(a b c d e f h:Value):World:=((((((y.setCell ⟨g,0,none⟩ a).setCell ⟨g,1,none⟩ b).setCell ⟨g,2,none⟩ c).setCell ⟨g,3,none⟩ d).setCell ⟨g,4,none⟩ e).setCell ⟨g,5,none⟩ f).setCell ⟨g,6,none⟩ h
theorem put7_bk {y:World}{g:Nat}{t:TypeId}{x0 x1 x2 x3 x4 x5 x6:Value}(hb:Bk y g t #[x0,x1,x2,x3,x4,x5,x6])(a b c d e f h:Value):Bk (put7 y g a b c d e f h) g t #[a,b,c,d,e,f,h]:=by
 have h8:=((((((hb.put 0 a).put 1 b).put 2 c).put 3 d).put 4 e).put 5 f).put 6 h
 unfold put7
 simpa only[List.setIfInBounds_toArray,List.set_cons_zero,List.set_cons_succ] using h8
theorem put7_within {y:World}{g:Nat}(a b c d e f h:Value):Within y (put7 y g a b c d e f h) (fun i=>i=g):=by
 unfold put7
 exact(((((((Within.refl y (fun i=>i=g)).put g 0 a (.inl rfl)).put g 1 b (.inl rfl)).put g 2 c (.inl rfl)).put g 3 d (.inl rfl)).put g 4 e (.inl rfl)).put g 5 f (.inl rfl)).put g 6 h (.inl rfl)
theorem put7_below {B:Nat}{w y:World}{g:Nat}(hb:Below B w y)(hg:B≤g)(a b c d e f h:Value):Below B w (put7 y g a b c d e f h):=
 ((((((hb.setCell hg _).setCell hg _).setCell hg _).setCell hg _).setCell hg _).setCell hg _).setCell hg _
def Rv (base:Nat)(w:World)(v:Value)(c:Prg)(zs init r7:List Int)(each:Int):Prop:=
 ∃ sl aS cS aI cI aR cR,v=.agg #[sl,.int .i64 c.lo,.int .i64 c.un,.slice aS zs.length cS,.slice aI init.length cI,.int .i64 each,.slice aR r7.length cR]∧
  w.ownsRow base 125 8 sl c.l.length (progC c.l)∧Given .i64 w aS zs∧Given .u32 w aI init∧Given .u32 w aR r7∧zs.length≤maxLen∧init.length≤maxLen∧r7.length≤maxLen
theorem Rv.below {base:Nat}{w w':World}{v:Value}{c:Prg}{zs init r7:List Int}{each:Int}(h:Rv base w v c zs init r7 each)(hb:Below w.heap.size w w'):Rv base w' v c zs init r7 each:=by
 obtain⟨sl,aS,cS,aI,cI,aR,cR,e,h1,h2,h3,h4,h5⟩:=h
 exact⟨sl,aS,cS,aI,cI,aR,cR,e,own_below h1 hb,h2.below hb,h3.below hb,h4.below hb,h5⟩
set_option maxHeartbeats 1000000 in
theorem lRef10 {w:World}{v:Value}{c:Prg}{zs init r7:List Int}{each:Int}(hv:Sv w v c zs init r7 each)(hc:c.l.length≤1000):
 Calls Tryz.prog 11 #[v] w fun e w'=>∃ v',e=.returned v'∧Rv w.heap.size w' v' c zs init r7 each∧Below w.heap.size w w':=by
 obtain⟨aL,cL,aS,cS,aI,cI,aR,cR,rfl,hpv,hgS,hgI,hgR,hm1,hm2,hm3⟩:=hv
 have q0:=(Bk.made w 29 #[.slice aL c.l.length cL,.int .i64 c.lo,.int .i64 c.un,.slice aS zs.length cS,.slice aI init.length cI,.int .i64 each,.slice aR r7.length cR]).alloc (.cells #[.slice none 0 0,.int .i64 0,.int .i64 0,.slice none 0 0,.slice none 0 0,.int .i64 0,.slice none 0 0] 37)
 have q1:=Bk.made (w.alloc (.cells #[.slice aL c.l.length cL,.int .i64 c.lo,.int .i64 c.un,.slice aS zs.length cS,.slice aI init.length cI,.int .i64 each,.slice aR r7.length cR] 29)) 37 #[.slice none 0 0,.int .i64 0,.int .i64 0,.slice none 0 0,.slice none 0 0,.int .i64 0,.slice none 0 0]
 rw[World.size_alloc] at q1
 have b0:Below w.heap.size w ((w.alloc (.cells #[.slice aL c.l.length cL,.int .i64 c.lo,.int .i64 c.un,.slice aS zs.length cS,.slice aI init.length cI,.int .i64 each,.slice aR r7.length cR] 29)).alloc (.cells #[.slice none 0 0,.int .i64 0,.int .i64 0,.slice none 0 0,.slice none 0 0,.int .i64 0,.slice none 0 0] 37)):=((Below.refl _ _).alloc (Nat.le_refl _) _).alloc (by simp) _
 go_enter Tryz.func11,Tryz.ntmps11
 go_upto_region 1 with fail
 generalize (w.alloc (.cells #[.slice aL c.l.length cL,.int .i64 c.lo,.int .i64 c.un,.slice aS zs.length cS,.slice aI init.length cI,.int .i64 each,.slice aR r7.length cR] 29)).alloc (.cells #[.slice none 0 0,.int .i64 0,.int .i64 0,.slice none 0 0,.slice none 0 0,.int .i64 0,.slice none 0 0] 37)=y at *
 have HRF:=Lib.hid (fun W (hW:Below w.heap.size w W)=>lRefO c _ W (hpv.below hW) hc)
 have kx:∀ (W:World) (u:Value) (i j:Nat),(W.setCell ⟨w.heap.size+1,i,none⟩ u).cell? ⟨w.heap.size,j,none⟩=W.cell? ⟨w.heap.size,j,none⟩:=fun W u i j=>cell_off (by omega)
 have HQ:Hid (∀ W,Below y.heap.size y W→Bk W w.heap.size 29 _∧Bk W (w.heap.size+1) 37 _∧Below w.heap.size w W):=Lib.hid fun W hW=>⟨(hW.block _ q0.lt).trans q0,(hW.block _ q1.lt).trans q1,b0.trans (hW.mono b0.size)⟩
 obtain⟨f0,f1,f2,f3,f4,f5,f6⟩:y.cell? ⟨w.heap.size,0,none⟩=some (.slice aL c.l.length cL)∧y.cell? ⟨w.heap.size,1,none⟩=some (.int .i64 c.lo)∧y.cell? ⟨w.heap.size,2,none⟩=some (.int .i64 c.un)∧y.cell? ⟨w.heap.size,3,none⟩=some (.slice aS zs.length cS)∧y.cell? ⟨w.heap.size,4,none⟩=some (.slice aI init.length cI)∧y.cell? ⟨w.heap.size,5,none⟩=some (.int .i64 each)∧y.cell? ⟨w.heap.size,6,none⟩=some (.slice aR r7.length cR):=⟨q0.cell 0,q0.cell 1,q0.cell 2,q0.cell 3,q0.cell 4,q0.cell 5,q0.cell 6⟩
 refine wp_region_flow [12] (fun j W=>match j with | 0=>Below y.heap.size y W | _=>∃ sl,W.ownsRow w.heap.size 125 8 sl c.l.length (progC c.l)∧Bk W (w.heap.size+1) 37 #[sl,.int .i64 c.lo,.int .i64 c.un,.slice aS zs.length cS,.slice aI init.length cI,.int .i64 each,.slice aR r7.length cR]∧Below w.heap.size w W) (fun _ W W2=>Within W W2 (fun i=>i=w.heap.size+1)∧Bk W (w.heap.size+1) 37 #[.slice none 0 0,.int .i64 0,.int .i64 0,.slice none 0 0,.slice none 0 0,.int .i64 0,.slice none 0 0]) (fun vs=>{ tmps:=#[.agg #[.slice aL c.l.length cL,.int .i64 c.lo,.int .i64 c.un,.slice aS zs.length cS,.slice aI init.length cI,.int .i64 each,.slice aR r7.length cR],.pointer (some ⟨w.heap.size,0,none⟩),.pointer (some ⟨w.heap.size+1,0,none⟩),vs 0,vs 1,vs 2,vs 3,vs 4,vs 5,vs 6,vs 7,vs 8,vs 9,vs 10,vs 11],defers:=[] }) (mixT [(2,(fun v W=>∃ sl,v=.agg #[sl,.int .i64 c.lo,.int .i64 c.un]∧W.ownsRow w.heap.size 125 8 sl c.l.length (progC c.l))),(11,(fun v W=>∃ sl,v=.agg #[sl,.int .i64 c.lo,.int .i64 c.un,.slice aS zs.length cS,.slice aI init.length cI,.int .i64 each,.slice aR r7.length cR]∧W.ownsRow w.heap.size 125 8 sl c.l.length (progC c.l)))] [.pointer (some ⟨w.heap.size,0,none⟩),.agg #[.slice aL c.l.length cL,.int .i64 c.lo,.int .i64 c.un],undef,.pointer (some ⟨w.heap.size,3,none⟩),.slice aS zs.length cS,.pointer (some ⟨w.heap.size,4,none⟩),.slice aI init.length cI,.pointer (some ⟨w.heap.size,5,none⟩),.int .i64 each,.pointer (some ⟨w.heap.size,6,none⟩),.slice aR r7.length cR,undef,undef]) ?ghm ?ghr ?ghc ?ghnd ?ghlit ?gh0 ?ghW ?ghF ?ghS ?gops ?gdone
 case ghm=>kernel_rfl
 case ghr=>kernel_rfl
 case ghc=>kernel_rfl
 case ghnd=>decide
 case ghlit=>intro vs;rfl
 case gh0=>exact Below.refl _ _
 case ghW=>exact fun kk W W2 h hb=>match kk,h with
  | 0,h=>h.trans (hb.mono h.size)
  | _+1,⟨sl,h1,h2,h3⟩=>⟨sl,own_below h1 hb,(hb.block _ h2.lt).trans h2,h3.trans (hb.mono h3.size)⟩
 case ghF=>exact mixT_stable (by
  intro p0 hp
  simp only[List.mem_cons,List.not_mem_nil,or_false] at hp
  rcases hp with rfl | rfl
  ·rintro v W W2 ⟨sl,e,h⟩ hb;exact⟨sl,e,own_below h hb⟩
  ·rintro v W W2 ⟨sl,e,h⟩ hb;exact⟨sl,e,own_below h hb⟩)
 case ghS=>exact fun kk W W2 _ hs i v h=>mixT_keep (R:=fun W W2=>Within W W2 (fun i=>i=w.heap.size+1)∧Bk W (w.heap.size+1) 37 #[.slice none 0 0,.int .i64 0,.int .i64 0,.slice none 0 0,.slice none 0 0,.int .i64 0,.slice none 0 0]) (ps:=[(2,(fun v W=>∃ sl,v=.agg #[sl,.int .i64 c.lo,.int .i64 c.un]∧W.ownsRow w.heap.size 125 8 sl c.l.length (progC c.l))),(11,(fun v W=>∃ sl,v=.agg #[sl,.int .i64 c.lo,.int .i64 c.un,.slice aS zs.length cS,.slice aI init.length cI,.int .i64 each,.slice aR r7.length cR]∧W.ownsRow w.heap.size 125 8 sl c.l.length (progC c.l)))]) (l:=[.pointer (some ⟨w.heap.size,0,none⟩),.agg #[.slice aL c.l.length cL,.int .i64 c.lo,.int .i64 c.un],undef,.pointer (some ⟨w.heap.size,3,none⟩),.slice aS zs.length cS,.pointer (some ⟨w.heap.size,4,none⟩),.slice aI init.length cI,.pointer (some ⟨w.heap.size,5,none⟩),.int .i64 each,.pointer (some ⟨w.heap.size,6,none⟩),.slice aR r7.length cR,undef,undef]) (by
  intro p0 hp
  simp only[List.mem_cons,List.not_mem_nil,or_false] at hp
  rcases hp with rfl | rfl
  ·rintro v W W2 ⟨sl,e,h⟩ hs;exact⟨sl,e,own_safe h hs.1 hs.2 (by decide)⟩
  ·rintro v W W2 ⟨sl,e,h⟩ hs;exact⟨sl,e,own_safe h hs.1 hs.2 (by decide)⟩) i v W W2 h hs
 case gops=>
  refine⟨?_,?_,?_,?_,?_,?_,?_,?_,?_,?_,?_,?_,?_,trivial⟩
  ·intro vs W kk h1 h2 hW hd
   obtain rfl:kk=0:=Nat.le_zero.1 h2
   refine leaves_free rfl ?_
   clear hd
   go_simp
   exact⟨rfl,Below.refl _ _⟩
  ·intro vs W kk h1 h2 hW hd
   obtain rfl:kk=0:=Nat.le_zero.1 h2
   refine leaves_free rfl ?_
   have e0:vs 0=.pointer (some ⟨w.heap.size,0,none⟩):=hd 0 (by decide)
   have hq:=(HQ.out W hW).1;obtain⟨f0,f1,f2,f3,f4,f5,f6⟩:W.cell? ⟨w.heap.size,0,none⟩=some (.slice aL c.l.length cL)∧W.cell? ⟨w.heap.size,1,none⟩=some (.int .i64 c.lo)∧W.cell? ⟨w.heap.size,2,none⟩=some (.int .i64 c.un)∧W.cell? ⟨w.heap.size,3,none⟩=some (.slice aS zs.length cS)∧W.cell? ⟨w.heap.size,4,none⟩=some (.slice aI init.length cI)∧W.cell? ⟨w.heap.size,5,none⟩=some (.int .i64 each)∧W.cell? ⟨w.heap.size,6,none⟩=some (.slice aR r7.length cR):=⟨hq.cell 0,hq.cell 1,hq.cell 2,hq.cell 3,hq.cell 4,hq.cell 5,hq.cell 6⟩;have hr:=(HQ.out W hW).2.1;obtain⟨z0,z1,z2,z3,z4,z5,z6⟩:W.cell? ⟨w.heap.size+1,0,none⟩=some (.slice none 0 0)∧W.cell? ⟨w.heap.size+1,1,none⟩=some (.int .i64 0)∧W.cell? ⟨w.heap.size+1,2,none⟩=some (.int .i64 0)∧W.cell? ⟨w.heap.size+1,3,none⟩=some (.slice none 0 0)∧W.cell? ⟨w.heap.size+1,4,none⟩=some (.slice none 0 0)∧W.cell? ⟨w.heap.size+1,5,none⟩=some (.int .i64 0)∧W.cell? ⟨w.heap.size+1,6,none⟩=some (.slice none 0 0):=⟨hr.cell 0,hr.cell 1,hr.cell 2,hr.cell 3,hr.cell 4,hr.cell 5,hr.cell 6⟩;have zf:=Bk.free hr;clear hq
   clear hd
   go_simp
   exact⟨rfl,Below.refl _ _⟩
  ·intro vs W kk h1 h2 hW hd
   obtain rfl:kk=0:=Nat.le_zero.1 h2
   refine leaves_free rfl ?_
   have e1:vs 1=.agg #[.slice aL c.l.length cL,.int .i64 c.lo,.int .i64 c.un]:=hd 1 (by decide)
   have HS:=Lib.hid (HRF.out W (HQ.out W hW).2.2)
   have hsz:=(HQ.out W hW).2.2.size
   clear hd
   go_simp
   refine HS.out.mono ?_
   rintro e zz ⟨sl,he,ho,hb⟩
   exact⟨_,he,⟨sl,rfl,World.ownsRow.mono (base':=w.heap.size) ho hsz⟩,hb⟩
  ·intro vs W kk h1 h2 hW hd
   obtain rfl:kk=0:=Nat.le_zero.1 h2
   refine leaves_free rfl ?_
   clear hd
   go_simp
   exact⟨rfl,Below.refl _ _⟩
  ·intro vs W kk h1 h2 hW hd
   obtain rfl:kk=0:=Nat.le_zero.1 h2
   refine leaves_free rfl ?_
   have e3:vs 3=.pointer (some ⟨w.heap.size,3,none⟩):=hd 3 (by decide)
   have hq:=(HQ.out W hW).1;obtain⟨f0,f1,f2,f3,f4,f5,f6⟩:W.cell? ⟨w.heap.size,0,none⟩=some (.slice aL c.l.length cL)∧W.cell? ⟨w.heap.size,1,none⟩=some (.int .i64 c.lo)∧W.cell? ⟨w.heap.size,2,none⟩=some (.int .i64 c.un)∧W.cell? ⟨w.heap.size,3,none⟩=some (.slice aS zs.length cS)∧W.cell? ⟨w.heap.size,4,none⟩=some (.slice aI init.length cI)∧W.cell? ⟨w.heap.size,5,none⟩=some (.int .i64 each)∧W.cell? ⟨w.heap.size,6,none⟩=some (.slice aR r7.length cR):=⟨hq.cell 0,hq.cell 1,hq.cell 2,hq.cell 3,hq.cell 4,hq.cell 5,hq.cell 6⟩;have hr:=(HQ.out W hW).2.1;obtain⟨z0,z1,z2,z3,z4,z5,z6⟩:W.cell? ⟨w.heap.size+1,0,none⟩=some (.slice none 0 0)∧W.cell? ⟨w.heap.size+1,1,none⟩=some (.int .i64 0)∧W.cell? ⟨w.heap.size+1,2,none⟩=some (.int .i64 0)∧W.cell? ⟨w.heap.size+1,3,none⟩=some (.slice none 0 0)∧W.cell? ⟨w.heap.size+1,4,none⟩=some (.slice none 0 0)∧W.cell? ⟨w.heap.size+1,5,none⟩=some (.int .i64 0)∧W.cell? ⟨w.heap.size+1,6,none⟩=some (.slice none 0 0):=⟨hr.cell 0,hr.cell 1,hr.cell 2,hr.cell 3,hr.cell 4,hr.cell 5,hr.cell 6⟩;have zf:=Bk.free hr;clear hq
   clear hd
   go_simp
   exact⟨rfl,Below.refl _ _⟩
  ·intro vs W kk h1 h2 hW hd
   obtain rfl:kk=0:=Nat.le_zero.1 h2
   refine leaves_free rfl ?_
   clear hd
   go_simp
   exact⟨rfl,Below.refl _ _⟩
  ·intro vs W kk h1 h2 hW hd
   obtain rfl:kk=0:=Nat.le_zero.1 h2
   refine leaves_free rfl ?_
   have e5:vs 5=.pointer (some ⟨w.heap.size,4,none⟩):=hd 5 (by decide)
   have hq:=(HQ.out W hW).1;obtain⟨f0,f1,f2,f3,f4,f5,f6⟩:W.cell? ⟨w.heap.size,0,none⟩=some (.slice aL c.l.length cL)∧W.cell? ⟨w.heap.size,1,none⟩=some (.int .i64 c.lo)∧W.cell? ⟨w.heap.size,2,none⟩=some (.int .i64 c.un)∧W.cell? ⟨w.heap.size,3,none⟩=some (.slice aS zs.length cS)∧W.cell? ⟨w.heap.size,4,none⟩=some (.slice aI init.length cI)∧W.cell? ⟨w.heap.size,5,none⟩=some (.int .i64 each)∧W.cell? ⟨w.heap.size,6,none⟩=some (.slice aR r7.length cR):=⟨hq.cell 0,hq.cell 1,hq.cell 2,hq.cell 3,hq.cell 4,hq.cell 5,hq.cell 6⟩;have hr:=(HQ.out W hW).2.1;obtain⟨z0,z1,z2,z3,z4,z5,z6⟩:W.cell? ⟨w.heap.size+1,0,none⟩=some (.slice none 0 0)∧W.cell? ⟨w.heap.size+1,1,none⟩=some (.int .i64 0)∧W.cell? ⟨w.heap.size+1,2,none⟩=some (.int .i64 0)∧W.cell? ⟨w.heap.size+1,3,none⟩=some (.slice none 0 0)∧W.cell? ⟨w.heap.size+1,4,none⟩=some (.slice none 0 0)∧W.cell? ⟨w.heap.size+1,5,none⟩=some (.int .i64 0)∧W.cell? ⟨w.heap.size+1,6,none⟩=some (.slice none 0 0):=⟨hr.cell 0,hr.cell 1,hr.cell 2,hr.cell 3,hr.cell 4,hr.cell 5,hr.cell 6⟩;have zf:=Bk.free hr;clear hq
   clear hd
   go_simp
   exact⟨rfl,Below.refl _ _⟩
  ·intro vs W kk h1 h2 hW hd
   obtain rfl:kk=0:=Nat.le_zero.1 h2
   refine leaves_free rfl ?_
   clear hd
   go_simp
   exact⟨rfl,Below.refl _ _⟩
  ·intro vs W kk h1 h2 hW hd
   obtain rfl:kk=0:=Nat.le_zero.1 h2
   refine leaves_free rfl ?_
   have e7:vs 7=.pointer (some ⟨w.heap.size,5,none⟩):=hd 7 (by decide)
   have hq:=(HQ.out W hW).1;obtain⟨f0,f1,f2,f3,f4,f5,f6⟩:W.cell? ⟨w.heap.size,0,none⟩=some (.slice aL c.l.length cL)∧W.cell? ⟨w.heap.size,1,none⟩=some (.int .i64 c.lo)∧W.cell? ⟨w.heap.size,2,none⟩=some (.int .i64 c.un)∧W.cell? ⟨w.heap.size,3,none⟩=some (.slice aS zs.length cS)∧W.cell? ⟨w.heap.size,4,none⟩=some (.slice aI init.length cI)∧W.cell? ⟨w.heap.size,5,none⟩=some (.int .i64 each)∧W.cell? ⟨w.heap.size,6,none⟩=some (.slice aR r7.length cR):=⟨hq.cell 0,hq.cell 1,hq.cell 2,hq.cell 3,hq.cell 4,hq.cell 5,hq.cell 6⟩;have hr:=(HQ.out W hW).2.1;obtain⟨z0,z1,z2,z3,z4,z5,z6⟩:W.cell? ⟨w.heap.size+1,0,none⟩=some (.slice none 0 0)∧W.cell? ⟨w.heap.size+1,1,none⟩=some (.int .i64 0)∧W.cell? ⟨w.heap.size+1,2,none⟩=some (.int .i64 0)∧W.cell? ⟨w.heap.size+1,3,none⟩=some (.slice none 0 0)∧W.cell? ⟨w.heap.size+1,4,none⟩=some (.slice none 0 0)∧W.cell? ⟨w.heap.size+1,5,none⟩=some (.int .i64 0)∧W.cell? ⟨w.heap.size+1,6,none⟩=some (.slice none 0 0):=⟨hr.cell 0,hr.cell 1,hr.cell 2,hr.cell 3,hr.cell 4,hr.cell 5,hr.cell 6⟩;have zf:=Bk.free hr;clear hq
   clear hd
   go_simp
   exact⟨rfl,Below.refl _ _⟩
  ·intro vs W kk h1 h2 hW hd
   obtain rfl:kk=0:=Nat.le_zero.1 h2
   refine leaves_free rfl ?_
   clear hd
   go_simp
   exact⟨rfl,Below.refl _ _⟩
  ·intro vs W kk h1 h2 hW hd
   obtain rfl:kk=0:=Nat.le_zero.1 h2
   refine leaves_free rfl ?_
   have e9:vs 9=.pointer (some ⟨w.heap.size,6,none⟩):=hd 9 (by decide)
   have hq:=(HQ.out W hW).1;obtain⟨f0,f1,f2,f3,f4,f5,f6⟩:W.cell? ⟨w.heap.size,0,none⟩=some (.slice aL c.l.length cL)∧W.cell? ⟨w.heap.size,1,none⟩=some (.int .i64 c.lo)∧W.cell? ⟨w.heap.size,2,none⟩=some (.int .i64 c.un)∧W.cell? ⟨w.heap.size,3,none⟩=some (.slice aS zs.length cS)∧W.cell? ⟨w.heap.size,4,none⟩=some (.slice aI init.length cI)∧W.cell? ⟨w.heap.size,5,none⟩=some (.int .i64 each)∧W.cell? ⟨w.heap.size,6,none⟩=some (.slice aR r7.length cR):=⟨hq.cell 0,hq.cell 1,hq.cell 2,hq.cell 3,hq.cell 4,hq.cell 5,hq.cell 6⟩;have hr:=(HQ.out W hW).2.1;obtain⟨z0,z1,z2,z3,z4,z5,z6⟩:W.cell? ⟨w.heap.size+1,0,none⟩=some (.slice none 0 0)∧W.cell? ⟨w.heap.size+1,1,none⟩=some (.int .i64 0)∧W.cell? ⟨w.heap.size+1,2,none⟩=some (.int .i64 0)∧W.cell? ⟨w.heap.size+1,3,none⟩=some (.slice none 0 0)∧W.cell? ⟨w.heap.size+1,4,none⟩=some (.slice none 0 0)∧W.cell? ⟨w.heap.size+1,5,none⟩=some (.int .i64 0)∧W.cell? ⟨w.heap.size+1,6,none⟩=some (.slice none 0 0):=⟨hr.cell 0,hr.cell 1,hr.cell 2,hr.cell 3,hr.cell 4,hr.cell 5,hr.cell 6⟩;have zf:=Bk.free hr;clear hq
   clear hd
   go_simp
   exact⟨rfl,Below.refl _ _⟩
  ·intro vs W kk h1 h2 hW hd
   obtain rfl:kk=0:=Nat.le_zero.1 h2
   refine leaves_free rfl ?_
   have e4:vs 4=.slice aS zs.length cS:=hd 4 (by decide)
   have e6:vs 6=.slice aI init.length cI:=hd 6 (by decide)
   have e8:vs 8=.int .i64 each:=hd 8 (by decide)
   have e10:vs 10=.slice aR r7.length cR:=hd 10 (by decide)
   obtain⟨sl,e2,ho⟩:∃ sl,vs 2=.agg #[sl,.int .i64 c.lo,.int .i64 c.un]∧W.ownsRow w.heap.size 125 8 sl c.l.length (progC c.l):=hd 2 (by decide)
   clear hd
   go_simp
   exact⟨⟨sl,rfl,ho⟩,Below.refl _ _⟩
  ·intro vs W hW hd
   obtain⟨sl,e11,ho⟩:∃ sl,vs 11=.agg #[sl,.int .i64 c.lo,.int .i64 c.un,.slice aS zs.length cS,.slice aI init.length cI,.int .i64 each,.slice aR r7.length cR]∧W.ownsRow w.heap.size 125 8 sl c.l.length (progC c.l):=hd 11 (by decide)
   obtain⟨aL9,cL9,rfl,-⟩:=own_is ho
   have hq:=(HQ.out W hW).1;obtain⟨f0,f1,f2,f3,f4,f5,f6⟩:W.cell? ⟨w.heap.size,0,none⟩=some (.slice aL c.l.length cL)∧W.cell? ⟨w.heap.size,1,none⟩=some (.int .i64 c.lo)∧W.cell? ⟨w.heap.size,2,none⟩=some (.int .i64 c.un)∧W.cell? ⟨w.heap.size,3,none⟩=some (.slice aS zs.length cS)∧W.cell? ⟨w.heap.size,4,none⟩=some (.slice aI init.length cI)∧W.cell? ⟨w.heap.size,5,none⟩=some (.int .i64 each)∧W.cell? ⟨w.heap.size,6,none⟩=some (.slice aR r7.length cR):=⟨hq.cell 0,hq.cell 1,hq.cell 2,hq.cell 3,hq.cell 4,hq.cell 5,hq.cell 6⟩;have hr:=(HQ.out W hW).2.1;obtain⟨z0,z1,z2,z3,z4,z5,z6⟩:W.cell? ⟨w.heap.size+1,0,none⟩=some (.slice none 0 0)∧W.cell? ⟨w.heap.size+1,1,none⟩=some (.int .i64 0)∧W.cell? ⟨w.heap.size+1,2,none⟩=some (.int .i64 0)∧W.cell? ⟨w.heap.size+1,3,none⟩=some (.slice none 0 0)∧W.cell? ⟨w.heap.size+1,4,none⟩=some (.slice none 0 0)∧W.cell? ⟨w.heap.size+1,5,none⟩=some (.int .i64 0)∧W.cell? ⟨w.heap.size+1,6,none⟩=some (.slice none 0 0):=⟨hr.cell 0,hr.cell 1,hr.cell 2,hr.cell 3,hr.cell 4,hr.cell 5,hr.cell 6⟩;have zf:=Bk.free hr;clear hq
   refine leavesIf_free rfl ?_
   clear hd
   go_simp
   exact⟨rfl,⟨.slice aL9 c.l.length cL9,own_safe ho (put7_within (y:=W) (g:=w.heap.size+1) (.slice aL9 c.l.length cL9) (.int .i64 c.lo) (.int .i64 c.un) (.slice aS zs.length cS) (.slice aI init.length cI) (.int .i64 each) (.slice aR r7.length cR)) hr (by decide),put7_bk hr (.slice aL9 c.l.length cL9) (.int .i64 c.lo) (.int .i64 c.un) (.slice aS zs.length cS) (.slice aI init.length cI) (.int .i64 each) (.slice aR r7.length cR),put7_below (HQ.out W hW).2.2 (by omega) (.slice aL9 c.l.length cL9) (.int .i64 c.lo) (.int .i64 c.un) (.slice aS zs.length cS) (.slice aI init.length cI) (.int .i64 each) (.slice aR r7.length cR)⟩,put7_within (y:=W) (g:=w.heap.size+1) (.slice aL9 c.l.length cL9) (.int .i64 c.lo) (.int .i64 c.un) (.slice aS zs.length cS) (.slice aI init.length cI) (.int .i64 each) (.slice aR r7.length cR)⟩
 case gdone=>
  intro vs W hW hf
  have f0:vs 0=.pointer (some ⟨w.heap.size,0,none⟩):=hf 0 (by decide)
  have f1:vs 1=.agg #[.slice aL c.l.length cL,.int .i64 c.lo,.int .i64 c.un]:=hf 1 (by decide)
  have f3:vs 3=.pointer (some ⟨w.heap.size,3,none⟩):=hf 3 (by decide)
  have f4:vs 4=.slice aS zs.length cS:=hf 4 (by decide)
  have f5:vs 5=.pointer (some ⟨w.heap.size,4,none⟩):=hf 5 (by decide)
  have f6:vs 6=.slice aI init.length cI:=hf 6 (by decide)
  have f7:vs 7=.pointer (some ⟨w.heap.size,5,none⟩):=hf 7 (by decide)
  have f8:vs 8=.int .i64 each:=hf 8 (by decide)
  have f9:vs 9=.pointer (some ⟨w.heap.size,6,none⟩):=hf 9 (by decide)
  have f10:vs 10=.slice aR r7.length cR:=hf 10 (by decide)
  simp only[f0,f1,f3,f4,f5,f6,f7,f8,f9,f10]
  clear f0 f1 f3 f4 f5 f6 f7 f8 f9 f10
  obtain⟨sl,ho,hB,hb⟩:∃ sl,W.ownsRow w.heap.size 125 8 sl c.l.length (progC c.l)∧Bk W (w.heap.size+1) 37 #[sl,.int .i64 c.lo,.int .i64 c.un,.slice aS zs.length cS,.slice aI init.length cI,.int .i64 each,.slice aR r7.length cR]∧Below w.heap.size w W:=hW
  clear hf HQ HRF kx f0 f1 f2 f3 f4 f5 f6 q0 q1
  obtain⟨f0,f1,f2,f3,f4,f5,f6⟩:W.cell? ⟨w.heap.size+1,0,none⟩=some sl∧W.cell? ⟨w.heap.size+1,1,none⟩=some (.int .i64 c.lo)∧W.cell? ⟨w.heap.size+1,2,none⟩=some (.int .i64 c.un)∧W.cell? ⟨w.heap.size+1,3,none⟩=some (.slice aS zs.length cS)∧W.cell? ⟨w.heap.size+1,4,none⟩=some (.slice aI init.length cI)∧W.cell? ⟨w.heap.size+1,5,none⟩=some (.int .i64 each)∧W.cell? ⟨w.heap.size+1,6,none⟩=some (.slice aR r7.length cR):=⟨hB.cell 0,hB.cell 1,hB.cell 2,hB.cell 3,hB.cell 4,hB.cell 5,hB.cell 6⟩
  go_wp
  exact bodyPost_ret (v:=.agg #[sl,.int .i64 c.lo,.int .i64 c.un,.slice aS zs.length cS,.slice aI init.length cI,.int .i64 each,.slice aR r7.length cR]) (by simp[results,Tryz.results11,go_sem,f0,f1,f2,f3,f4,f5,f6]) rfl ⟨_,rfl,⟨sl,aS,cS,aI,cI,aR,cR,rfl,ho,hgS.below hb,hgI.below hb,hgR.below hb,hm1,hm2,hm3⟩,hb⟩
def put9 (y:World)(g:Nat)(a b c d e f h i j:Value):World:=((((((((y.setCell ⟨g,0,none⟩ a).setCell ⟨g,1,none⟩ b).setCell ⟨g,2,none⟩ c).setCell ⟨g,3,none⟩ d).setCell ⟨g,4,none⟩ e).setCell ⟨g,5,none⟩ f).setCell ⟨g,6,none⟩ h).setCell ⟨g,7,none⟩ i).setCell ⟨g,8,none⟩ j
theorem put9_bk {y:World}{g:Nat}{t:TypeId}{x0 x1 x2 x3 x4 x5 x6 x7 x8:Value}(hb:Bk y g t #[x0,x1,x2,x3,x4,x5,x6,x7,x8])(a b c d e f h i j:Value):Bk (put9 y g a b c d e f h i j) g t #[a,b,c,d,e,f,h,i,j]:=by
 have h8:=((((((((hb.put 0 a).put 1 b).put 2 c).put 3 d).put 4 e).put 5 f).put 6 h).put 7 i).put 8 j
 unfold put9
 simpa only[List.setIfInBounds_toArray,List.set_cons_zero,List.set_cons_succ] using h8
theorem put9_below {B:Nat}{w y:World}{g:Nat}(hb:Below B w y)(hg:B≤g)(a b c d e f h i j:Value):Below B w (put9 y g a b c d e f h i j):=
 ((((((((hb.setCell hg _).setCell hg _).setCell hg _).setCell hg _).setCell hg _).setCell hg _).setCell hg _).setCell hg _).setCell hg _
theorem put9_off {y:World}{g b:Nat}{t:TypeId}{cs:Array Value}(hk:Bk y b t cs)(hne:b≠g)(a' b' c d e f h i j:Value):Bk (put9 y g a' b' c d e f h i j) b t cs:=
 ((((((((hk.off hne _).off hne _).off hne _).off hne _).off hne _).off hne _).off hne _).off hne _).off hne _
def rorC (xs:List Int)(pc:Int):List Value:=xs.map (Value.int .i64)++[.int .i64 pc]
def rv (xs:List Int)(pc:Int):Value:=.agg (rorC xs pc).toArray
theorem rorC_at {xs:List Int}{pc:Int}(h:xs.length=8){k:Nat}(hk:k < 8):(rorC xs pc).toArray[k]?=some (.int .i64 (nth xs k)):=by
 rw[List.getElem?_toArray,rorC,List.getElem?_append_left (by simp;omega),List.getElem?_map,nth_get (by omega)]
 rfl
theorem rorC_pc {xs:List Int}{pc:Int}(h:xs.length=8):(rorC xs pc).toArray[8]?=some (.int .i64 pc):=by
 rw[List.getElem?_toArray,rorC,List.getElem?_append_right (by simp;omega)]
 simp[h]
theorem rorC_set {xs:List Int}{pc:Int}(h:xs.length=8)(k:Nat)(hk:k < 8)(v:Int):(rorC xs pc).toArray.setIfInBounds k (.int .i64 v)=(rorC (xs.set k v) pc).toArray:=by
 rw[List.setIfInBounds_toArray,rorC,rorC,List.set_append_left _ _ (by simp;omega),List.map_set]
theorem rorC_setpc {xs:List Int}{pc:Int}(h:xs.length=8)(v:Int):(rorC xs pc).toArray.setIfInBounds 8 (.int .i64 v)=(rorC xs v).toArray:=by
 rw[List.setIfInBounds_toArray,rorC,rorC,List.set_append_right _ _ (by simp;omega)]
 simp[h]
def Rb (w:World)(g:Nat)(xs:List Int)(pc:Int):Prop:=Bk w g 112 (rorC xs pc).toArray
section
variable {w w':World}{g:Nat}{xs:List Int}{pc:Int}
theorem Rb.made (w:World)(xs:List Int)(pc:Int):Rb (w.alloc (.cells (rorC xs pc).toArray 112)) w.heap.size xs pc:=Bk.made _ _ _
theorem Rb.at_ (h:Rb w g xs pc)(h8:xs.length=8){k:Nat}(hk:k < 8):w.cell? ⟨g,k,none⟩=some (.int .i64 (nth xs k)):=(Bk.cell h k).trans (rorC_at h8 hk)
theorem Rb.cells {r0 r1 r2 r3 r4 r5 r6 r7:Int}(h:Rb w g [r0,r1,r2,r3,r4,r5,r6,r7] pc):
 w.cell? ⟨g,0,none⟩=some (.int .i64 r0)∧w.cell? ⟨g,1,none⟩=some (.int .i64 r1)∧w.cell? ⟨g,2,none⟩=some (.int .i64 r2)∧w.cell? ⟨g,3,none⟩=some (.int .i64 r3)∧
 w.cell? ⟨g,4,none⟩=some (.int .i64 r4)∧w.cell? ⟨g,5,none⟩=some (.int .i64 r5)∧w.cell? ⟨g,6,none⟩=some (.int .i64 r6)∧w.cell? ⟨g,7,none⟩=some (.int .i64 r7)∧w.cell? ⟨g,8,none⟩=some (.int .i64 pc):=
 ⟨Bk.cell h 0,Bk.cell h 1,Bk.cell h 2,Bk.cell h 3,Bk.cell h 4,Bk.cell h 5,Bk.cell h 6,Bk.cell h 7,Bk.cell h 8⟩
theorem Rb.below (h:Rb w g xs pc)(hb:Below w.heap.size w w'):Rb w' g xs pc:=(hb.block g (Bk.lt h)).trans h
theorem Rb.set (h:Rb w g xs pc)(h8:xs.length=8){k:Nat}(hk:k < 8)(v:Int):Rb (w.setCell ⟨g,k,none⟩ (.int .i64 v)) g (xs.set k v) pc:=by
 unfold Rb
 rw[←rorC_set h8 k hk v]
 exact Bk.put h k _
theorem Rb.setpc (h:Rb w g xs pc)(h8:xs.length=8)(v:Int):Rb (w.setCell ⟨g,8,none⟩ (.int .i64 v)) g xs v:=by
 unfold Rb
 rw[←rorC_setpc h8 v]
 exact Bk.put h 8 _
end
theorem pow2 (k:Nat)(h:k≤61):(1:Int)≤2 ^ k∧(2:Int) ^ k≤2305843009213693952∧(2:Int) ^ (k+1)=2 ^ k * 2:=by
 have a:=Nat.one_le_two_pow (n:=k)
 have b:=Nat.pow_le_pow_right (n:=2) (by omega) h
 have e:((2 ^ k:Nat):Int)=(2:Int) ^ k:=by simp
 exact⟨by omega,by omega,Int.pow_succ 2 k⟩
theorem rPow (n:Nat)(hn:n≤62)(w:World):Calls Tryz.prog 153 #[.int .i64 n] w fun e w'=>e=.returned (.int .i64 (2 ^ n))∧w=w':=by
 go_enter Tryz.func153,Tryz.ntmps153
 go_wp2
 go_loopw [3,4] (fun x i wr=>∃ k:Nat,x=.int .i64 (2 ^ k)∧i=.int .i64 k∧k≤n∧wr=w) (fun _ i _=>n - (intOf i).toNat)
 case atStart=>exact⟨0,rfl,rfl,Nat.zero_le _,rfl⟩
 case round=>
  obtain⟨k,rfl,rfl,hk,rfl⟩:=hrel
  by_cases hlt:k < n
  ·have hki:(k:Int) < n:=by omega
   obtain⟨p0,p1,p2⟩:=pow2 k (by omega)
   have HP:=Lib.hid p2
   clear p2
   generalize (2:Int) ^ k=p at *
   go_wp2
   go_roundw
   case rel=>exact⟨k+1,by rw[HP.out],rfl,by omega,trivial⟩
   case measure=>
    show n - ((k:Int)+1).toNat < n - (k:Int).toNat
    omega
  ·have hki:¬ (k:Int) < n:=by omega
   obtain rfl:k=n:=by omega
   go_wp2
   go_ret
   exact⟨rfl,rfl⟩
theorem bit_le (x k:Nat):x / 2 ^ k % 2=0∨x / 2 ^ k % 2=1:=by omega
theorem half_bit (x k:Nat)(hx:(x:Int) < 4294967296):(wrap64 ((x:Int) / 2 ^ k)).tmod 2=((x / 2 ^ k % 2:Nat):Int):=by
 have e:(x:Int) / 2 ^ k=((x / 2 ^ k:Nat):Int):=by simp
 have hle:x / 2 ^ k≤x:=Nat.div_le_self _ _
 rw[e]
 generalize x / 2 ^ k=q at *
 rw[IntWalk.wrap64_in _ (by omega),Int.tmod_eq_emod_of_nonneg (by omega)]
 omega
set_option maxHeartbeats 1000000 in
theorem rBits (a b:Int)(both:Bool)(h0:0≤a)(h1:a < 4294967296)(h2:0≤b)(h3:b < 4294967296)(w:World):
 Calls Tryz.prog 152 #[.int .i64 a,.int .i64 b,.int .i64 (if both then 1 else 0)] w fun e w'=>e=.returned (.int .i64 (if both then andI a b else orI a b))∧∃ m,w'=w.drewN m:=by
 have HE:=Lib.hid (bitN_is both a b h0 h1 h2 h3)
 generalize (if both then andI a b else orI a b)=R at *
 obtain⟨x,rfl⟩:∃ n:Nat,a=n:=⟨a.toNat,by omega⟩
 obtain⟨y,rfl⟩:∃ n:Nat,b=n:=⟨b.toNat,by omega⟩
 simp only[Int.toNat_natCast] at HE
 have HW:=Lib.hid (fun(k:Nat) (hk:k≤62) (W:World)=>(rPow k hk W).mono fun e w' ⟨he,hw⟩=>(show e=Ending.returned (.int .i64 (2 ^ k))∧w'=W from⟨he,hw.symm⟩))
 have HL:=Lib.hid (bitN_le both x y)
 have HB:=Lib.hid (show ∀ k,bitN both x y (k+1)=bitN both x y k+(if (if both then x / 2 ^ k % 2+y / 2 ^ k % 2=2 else 0 < x / 2 ^ k % 2+y / 2 ^ k % 2) then 2 ^ k else 0) from fun k=>rfl)
 generalize hbo:(if both=true then (1:Int) else 0)=bo
 go_enter Tryz.func152,Tryz.ntmps152
 go_wp2
 go_loopw [7,8] (fun o i wr=>∃ k m:Nat,o=.int .i64 (bitN both x y k:Nat)∧i=.int .i64 k∧k≤32∧wr=w.drewN m) (fun _ i _=>32 - (intOf i).toNat)
 case atStart=>exact⟨0,0,rfl,rfl,Nat.zero_le _,rfl⟩
 case round=>
  obtain⟨k,m,rfl,rfl,hk,hwr⟩:=hrel
  have HWr:=Lib.hid hwr
  clear hwr
  by_cases hlt:k < 32
  ·have hki:(k:Int) < 32:=by omega
   obtain⟨p0,p1,p2⟩:=pow2 k (by omega)
   have HS:=Lib.hid (HB.out k)
   have hBk:((bitN both x y k:Nat):Int) < 4294967296:=by
    have:=Nat.pow_le_pow_right (n:=2) (by omega) (show k≤32 by omega)
    have:=HL.out k
    omega
   have hBk0:(0:Int)≤((bitN both x y k:Nat):Int):=by omega
   have HW2:=Lib.hid (HW.out k (by omega))
   have EA:=half_bit x k h1
   have EB:=half_bit y k h3
   have HA:=Lib.hid (bit_le x k)
   have HBB:=Lib.hid (bit_le y k)
   have HE1:=Lib.hid EA
   have HE2:=Lib.hid EB
   clear p2 HE HB HL HW EA EB
   go_upto_region 5 with fail
   go_quiet ((go_at_call 153;with_reducible exact Calls.quiet_of_same (HW2.out _)))
   rw[HE1.out,HE2.out]
   replace HWr:Hid (∃ q,wr.drewN nq=w.drewN q):=Lib.hid ⟨m+nq,by rw[HWr.out];simp[World.drewN,Nat.add_assoc]⟩
   generalize wr.drewN nq=wr at *
   have HA2:=HA.out
   have HB2:=HBB.out
   generalize x / 2 ^ k % 2=A at *
   generalize y / 2 ^ k % 2=B at *
   clear HE1 HE2 HA HBB
   cases both
   ·obtain rfl:bo=0:=by rw[←hbo];rfl
    clear hbo
    simp only[Bool.false_eq_true,if_false] at HS
    rcases HA2 with rfl | rfl <;> rcases HB2 with rfl | rfl
    ·go_wp2
     obtain⟨q,hq⟩:=HWr.out
     go_roundw
     case rel=>exact⟨k+1,q,by rw[HS.out];simp,rfl,by omega,hq⟩
     case measure=>
      show 32 - ((k:Int)+1).toNat < 32 - (k:Int).toNat
      omega
    ·go_wp2_with fail
     refine(HW2.out _).mono ?_
     rintro e w' ⟨rfl,rfl⟩
     go_wp2
     obtain⟨q,hq⟩:=HWr.out
     go_roundw
     case rel=>exact⟨k+1,q,by rw[HS.out];simp,rfl,by omega,hq⟩
     case measure=>
      show 32 - ((k:Int)+1).toNat < 32 - (k:Int).toNat
      omega
    ·go_wp2_with fail
     refine(HW2.out _).mono ?_
     rintro e w' ⟨rfl,rfl⟩
     go_wp2
     obtain⟨q,hq⟩:=HWr.out
     go_roundw
     case rel=>exact⟨k+1,q,by rw[HS.out];simp,rfl,by omega,hq⟩
     case measure=>
      show 32 - ((k:Int)+1).toNat < 32 - (k:Int).toNat
      omega
    ·go_wp2_with fail
     refine(HW2.out _).mono ?_
     rintro e w' ⟨rfl,rfl⟩
     go_wp2
     obtain⟨q,hq⟩:=HWr.out
     go_roundw
     case rel=>exact⟨k+1,q,by rw[HS.out];simp,rfl,by omega,hq⟩
     case measure=>
      show 32 - ((k:Int)+1).toNat < 32 - (k:Int).toNat
      omega
   ·obtain rfl:bo=1:=by rw[←hbo];rfl
    clear hbo
    simp only[if_true] at HS
    rcases HA2 with rfl | rfl <;> rcases HB2 with rfl | rfl
    ·go_wp2
     obtain⟨q,hq⟩:=HWr.out
     go_roundw
     case rel=>exact⟨k+1,q,by rw[HS.out];simp,rfl,by omega,hq⟩
     case measure=>
      show 32 - ((k:Int)+1).toNat < 32 - (k:Int).toNat
      omega
    ·go_wp2
     obtain⟨q,hq⟩:=HWr.out
     go_roundw
     case rel=>exact⟨k+1,q,by rw[HS.out];simp,rfl,by omega,hq⟩
     case measure=>
      show 32 - ((k:Int)+1).toNat < 32 - (k:Int).toNat
      omega
    ·go_wp2
     obtain⟨q,hq⟩:=HWr.out
     go_roundw
     case rel=>exact⟨k+1,q,by rw[HS.out];simp,rfl,by omega,hq⟩
     case measure=>
      show 32 - ((k:Int)+1).toNat < 32 - (k:Int).toNat
      omega
    ·go_wp2_with fail
     refine(HW2.out _).mono ?_
     rintro e w' ⟨rfl,rfl⟩
     go_wp2
     obtain⟨q,hq⟩:=HWr.out
     go_roundw
     case rel=>exact⟨k+1,q,by rw[HS.out];simp,rfl,by omega,hq⟩
     case measure=>
      show 32 - ((k:Int)+1).toNat < 32 - (k:Int).toNat
      omega
  ·have hki:¬ (k:Int) < 32:=by omega
   obtain rfl:k=32:=by omega
   go_wp2
   go_ret
   exact⟨ret_int HE.out,_,HWr.out⟩
theorem below_drawnV (z:World)(n:Nat):Below z.heap.size z (z.drewN n):=⟨rfl,rfl,rfl,Nat.le_refl _,fun _ _=>rfl⟩
end Go.Proofs.YthdgehcghklflaaGreatDoor
