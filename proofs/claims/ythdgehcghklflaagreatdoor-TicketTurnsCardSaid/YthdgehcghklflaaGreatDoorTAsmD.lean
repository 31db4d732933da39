import Derived.Test.YthdgehcghklflaaGreatDoorTPrgM
import Derived.Test.YthdgehcghklflaaGreatDoorTLnA
import Derived.Test.YthdgehcghklflaaGreatDoorTAsmB
import Derived.Test.YthdgehcghklflaaGreatDoorTAsmC
import Derived.Test.YthdgehcghklflaaGreatDoorTCoreU
import Derived.Test.YthdgehcghklflaaGreatDoorTCoreV
import Derived.Test.YthdgehcghklflaaGreatDoorTMem
import Derived.Test.YthdgehcghklflaaGreatDoorTInstA
import Derived.Test.YthdgehcghklflaaGreatDoorTWdA
import Derived.Test.YthdgehcghklflaaGreatDoorTPool
import Derived.Test.YthdgehcghklflaaGreatDoorTRefP
import Derived.Test.YthdgehcghklflaaGreatDoorTTkD
import Derived.Test.YthdgehcghklflaaGreatDoorTInstP
import Derived.ProofKit
import Derived.OpenShut
import Derived.Deep.Fields
import Derived.Deep.Slices
import Derived.ChangeSame
import Derived.Lib.SmallJoins
import Derived.ChangeArms
import Derived.DataReads
import Derived.Laws.CopyOwn
import Derived.Deep.DeepCutAuto
import Derived.Deep.CutBlock
import Derived.Deep.RegionHeld3
import Derived.Deep.QuietTactic
import Derived.Deep.Onto
import Derived.Laws.Cover3
import Derived.BigQuiet
set_option linter.unusedVariables false
namespace Go.Proofs.YthdgehcghklflaaGreatDoor
open Go.ChangeShapes Go.WideShapes Go.ChangeAt Go.RowKit Go.Shelf
theorem lb_snoc (t:List UInt8):lbB (t++[58])=nameB t:=by
 unfold lbB
 simp
theorem lb_not {s:List UInt8}(h:∀ t,s≠t++[58]):lbB s=false:=by
 rw[Bool.eq_false_iff]
 intro e
 unfold lbB at e
 simp only[Bool.and_eq_true,decide_eq_true_eq,Bool.not_eq_true',List.isEmpty_eq_false_iff] at e
 obtain⟨h1,h2,_⟩:=e
 refine h s.dropLast ?_
 have:=List.dropLast_concat_getLast h1
 have h3:(s.dropLast++[s.getLast h1]).getLastD 0=58:=by rw[this];exact h2
 simp at h3
 rw[h3] at this
 exact this.symm
def addL (s:List UInt8)(n:Int)(ls:List (List UInt8×Int))(rs:List Rw):Int×List (List UInt8×Int)×List Rw:=
 if lbB s=true then (if labB ls s.dropLast=true then (2,ls,rs) else (0,ls++[(s.dropLast,(rs.length:Int))],rs))
 else match lineL s with
  | none=>(8,ls,rs)
  | some (i,nm)=>if 64≤rs.length then (9,ls,rs) else (0,ls,rs++[(i,nm,n)])
section
variable {w:World}{p m lo:Nat}{ls:List (List UInt8×Int)}{rs:List Rw}
theorem cAddEnd (h:Dr w p m lo ls rs)(s:List UInt8)(hs:∀ t,s≠t++[10])(hl:s.length < 100000)(n:Int):
 Calls Tryz.prog 60 #[.pointer (some ⟨p,0,none⟩),.int .i64 n,bs s] w fun e w'=>e=.returned (.int .i64 8)∧w=w':=by
 have HC:=Lib.hid (fun W=>lCut s [10] (by omega) W)
 rw[(suf_no hs).1,(suf_no hs).2] at HC
 unfold bs
 go_enter Tryz.func60,Tryz.ntmps60
 go_wp2_with fail
 refine(HC.out _).mono ?_
 rintro e w' ⟨rfl,rfl⟩
 unfold bs
 go_wp2
 go_ret
 exact⟨rfl,rfl⟩
def Added (w:World)(p m lo:Nat)(q:Int×List (List UInt8×Int)×List Rw)(e:Ending)(w':World):Prop:=e=.returned (.int .i64 q.1)∧Dr w' p m lo q.2.1 q.2.2∧Within w w' (InDr p m lo)
set_option maxHeartbeats 1000000 in
theorem cAddA (h:Dr w p m lo ls rs)(hlo:lo≤w.heap.size)(L:Lb w)(s:List UInt8)(hl:s.length < 90000)(n:Int)(hls:ls.length < 1000000)(hrs:rs.length≤64):
 Calls Tryz.prog 60 #[.pointer (some ⟨p,0,none⟩),.int .i64 n,bs (s++[10])] w (Added w p m lo (addL s n ls rs)):=by
 have HC:=Lib.hid (fun W=>lCut (s++[10]) [10] (by simp;omega) W)
 rw[(suf_yes s 10).1,(suf_yes s 10).2] at HC
 have HK:=Lib.hid (fun W=>lCut s [58] (by omega) W)
 have HI:=Lib.hid (fun W LW=>cInstOf s (by omega) W LW)
 have HB:Hid (∀ W,Below w.heap.size w W→Dr W p m lo ls rs∧Within w W (InDr p m lo)):=Lib.hid fun W hW=>⟨h.within (within_of_below hW) (by simp) (by simp) (by simp),(within_of_below hW).wide (by simp)⟩
 have HLB:=Lib.hid (fun W (hW:Below w.heap.size w W)=>L.below hW)
 rcases suf_or s 58 with ⟨nm,hnm⟩ | hno
 case' inl=>
  have e1:=(suf_yes nm 58).1
  have e2:=(suf_yes nm 58).2
  rw[←hnm] at e1 e2
  rw[e1,e2] at HK
  have HN:=Lib.hid (fun W=>cIsName nm W)
  have hlb:lbB s=nameB nm:=by rw[hnm];exact lb_snoc nm
  have hdl:s.dropLast=nm:=by rw[hnm];simp
  have HD:=Lib.hid hdl
  have hnl:nm.length≤1000000:=by rw[hnm] at hl;simp at hl;omega
  clear e1 e2 hdl
  clear hnm
  unfold bs
  go_enter Tryz.func60,Tryz.ntmps60
  go_wp2_with fail
  refine(HC.out _).mono ?_
  rintro e w' ⟨rfl,rfl⟩
  unfold bs
  go_wp2_with fail
  refine(HK.out _).mono ?_
  rintro e w' ⟨rfl,rfl⟩
  unfold bs
  go_wp2_with fail
  refine(HN.out _).mono ?_
  rintro e x ⟨rfl,bb⟩
  rcases hq:nameB nm
  case' true=>
   rw[hq] at hlb
   have HLBL:=Lib.hid hlb
   clear HI HC HK HN hq hlb
   obtain⟨hD,hW⟩:=HB.out x bb
   rcases hk:labB ls nm
   ·have HA:=Lib.hid (cAddLabel hD nm hnl hls hrs hk)
    go_wp2_with fail
    refine HA.out.mono ?_
    rintro e y ⟨rfl,hD2,hW2⟩
    go_wp2
    go_ret
    have:addL s n ls rs=(0,ls++[(nm,(rs.length:Int))],rs):=by
     unfold addL
     rw[if_pos HLBL.out,HD.out,if_neg (by rw[hk];simp)]
    unfold Added
    rw[this]
    exact⟨rfl,hD2,hW.then_ hW2 fun i hi=>.inl hi⟩
   ·have HA:=Lib.hid (cAddLabelNo hD nm hnl hk)
    go_wp2_with fail
    refine HA.out.mono ?_
    rintro e y ⟨rfl,rfl⟩
    go_wp2
    go_ret
    have:addL s n ls rs=(2,ls,rs):=by
     unfold addL
     rw[if_pos HLBL.out,HD.out,if_pos hk]
    unfold Added
    rw[this]
    exact⟨rfl,hD,hW⟩
  case' false=>
   rw[hq] at hlb
   have HLBL:=Lib.hid hlb
   clear HC HK HN hq hlb HD
   go_wp2_with fail
 case' inr=>
  rw[(suf_no hno).1,(suf_no hno).2] at HK
  have HLBL:=Lib.hid (lb_not hno)
  clear hno
  unfold bs
  go_enter Tryz.func60,Tryz.ntmps60
  go_wp2_with fail
  refine(HC.out _).mono ?_
  rintro e w' ⟨rfl,rfl⟩
  unfold bs
  go_wp2_with fail
  refine(HK.out _).mono ?_
  rintro e w' ⟨rfl,rfl⟩
  unfold bs
  have bb:=Below.refl w.heap.size w
  clear HC HK
  go_wp2_with fail
 all_goals (
  refine(HI.out _ (HLB.out _ bb)).mono ?_
  rintro e y ⟨rfl,hby⟩
  replace bb:=bb.trans (hby.mono bb.size)
  clear hby HI
  rcases hq:lineL s with _ | ⟨⟨op,d,s',t,u,a,k,pl⟩,nm2⟩
  ·have e:instOfV s=.tuple #[.agg #[.int .i64 0,.int .i64 0,.int .i64 0,.int .i64 0,.int .i64 0,.int .i64 0,.int .u32 0,.int .i64 0],.string ⟨#[]⟩,.bool false]:=by unfold instOfV;rw[hq];rfl
   have ea:addL s n ls rs=(8,ls,rs):=by unfold addL;rw[if_neg (by rw[HLBL.out];simp),hq]
   have EA:=Lib.hid ea
   rw[e]
   clear e hq HLBL ea
   go_wp2
   go_ret
   unfold Added
   rw[EA.out]
   exact⟨rfl,HB.out _ (bb.alloc bb.size _)⟩
  ·have e:instOfV s=.tuple #[.agg #[.int .i64 op,.int .i64 d,.int .i64 s',.int .i64 t,.int .i64 u,.int .i64 a,.int .u32 k,.int .i64 pl],.string ⟨nm2.toArray⟩,.bool true]:=by unfold instOfV;rw[hq];rfl
   have ea:addL s n ls rs=if 64≤rs.length then (9,ls,rs) else (0,ls,rs++[(⟨op,d,s',t,u,a,k,pl⟩,nm2,n)]):=by unfold addL;rw[if_neg (by rw[HLBL.out];simp),hq]
   have EA:=Lib.hid ea
   rw[e]
   clear e hq HLBL ea
   go_upto_region 8 with fail
   have m2:=Ib.made y op d s' t u a k pl
   replace bb:=bb.alloc (o:=.cells #[.int .i64 op,.int .i64 d,.int .i64 s',.int .i64 t,.int .i64 u,.int .i64 a,.int .u32 k,.int .i64 pl] 119) bb.size
   generalize y.heap.size=g at *
   generalize y.alloc (.cells #[.int .i64 op,.int .i64 d,.int .i64 s',.int .i64 t,.int .i64 u,.int .i64 a,.int .u32 k,.int .i64 pl] 119)=x3 at *
   obtain⟨c0,c1,c2,c3,c4,c5,c6,c7⟩:=m2.cells
   simp only at c0 c1 c2 c3 c4 c5 c6 c7
   obtain⟨hD,hW⟩:=HB.out x3 bb
   go_wp2_with fail
   by_cases h64:rs.length < 64
   ·refine(cAddRow hD h64 (Nat.le_trans hlo bb.size) (⟨op,d,s',t,u,a,k,pl⟩,nm2,n)).mono ?_
    rintro e z ⟨rfl,hD2,hW2⟩
    go_wp2
    go_ret
    unfold Added
    rw[EA.out,if_neg (by omega)]
    exact⟨rfl,hD2,hW.then_ hW2 fun i hi=>.inl hi⟩
   ·refine(cAddRowNo hD (by omega) (⟨op,d,s',t,u,a,k,pl⟩,nm2,n)).mono ?_
    rintro e z ⟨rfl,hz⟩
    go_wp2
    go_ret
    unfold Added
    rw[EA.out,if_pos (by omega)]
    exact⟨rfl,HB.out _ (bb.trans (hz.mono bb.size))⟩)
end
end Go.Proofs.YthdgehcghklflaaGreatDoor
namespace Go.Proofs.YthdgehcghklflaaGreatDoor
set_option maxRecDepth 100000
open Go.Joins Go.ChangeShapes Go.WideShapes Go.ChangeAt Go.RowKit Go.Deep
theorem own:ownKnob Tryz.prog.godebug=none:=by kernel_rfl
theorem laidOut:laidOutB Tryz.prog=true:=by kernel_rfl
theorem lst_put9 {W:World}{m:Value}{ms:List Int}{g:Nat}{ty:TypeId}{cs:Array Value}(hl:Lst .i64 3 W m ms)(hk:Bk W g ty cs)(ht:ty≠3)(a b c d e f h i j:Value):Lst .i64 3 (put9 W g a b c d e f h i j) m ms:=by
 have hW:Within W (put9 W g a b c d e f h i j) (fun x=>x=g):=by
  unfold put9
  exact(((((((((Within.refl W (fun b=>b=g)).put _ 0 _ (.inl rfl)).put _ 1 _ (.inl rfl)).put _ 2 _ (.inl rfl)).put _ 3 _ (.inl rfl)).put _ 4 _ (.inl rfl)).put _ 5 _ (.inl rfl)).put _ 6 _ (.inl rfl)).put _ 7 _ (.inl rfl)).put _ 8 _ (.inl rfl)
 refine hl.within hW fun x ex e2=>?_
 obtain⟨cs2,hcs⟩:=hl.bk ex
 exact Bk.unlike hcs hk (fun e=>ht e.symm) e2
def TupR (v0:Value)(ms:List Int)(D E:Int)(v:Value)(W:World):Prop:=∃ m,v=.tuple #[v0,m,.int .i64 D,.int .i64 E]∧Lst .i64 3 W m ms
theorem TupR.below {v0:Value}{ms:List Int}{D E:Int}{v:Value}{W W':World}(h:TupR v0 ms D E v W)(hb:Below W.heap.size W W'):TupR v0 ms D E v W':=by
 obtain⟨m,e,h⟩:=h
 exact⟨m,e,lst_below h hb⟩
end Go.Proofs.YthdgehcghklflaaGreatDoor
namespace Go.Proofs.YthdgehcghklflaaGreatDoor
set_option maxRecDepth 100000
open Go.ChangeShapes Go.WideShapes Go.ChangeAt Go.RowKit
def putL:List Value→Nat→List Value→List Value
 | xs,_,[]=>xs
 | xs,o,v :: vs=>putL (xs.set o v) (o+1) vs
def putW (y:World)(g:Nat):Nat→List Value→World
 | _,[]=>y
 | o,v :: vs=>putW (y.setCell ⟨g,o,none⟩ v) g (o+1) vs
theorem putL_at:∀ (vs xs:List Value) (o i:Nat),o+vs.length≤xs.length→(putL xs o vs)[i]?=if o≤i∧i < o+vs.length then vs[i - o]? else xs[i]?
 | [],xs,o,i,_=>by rw[putL,if_neg (by simp)]
 | v :: vs,xs,o,i,h=>by
  simp only[List.length_cons] at h
  rw[putL,putL_at vs _ _ _ (by rw[List.length_set];omega),List.length_cons]
  by_cases e:i=o
  ·subst e
   rw[if_neg (by omega),if_pos (by omega),List.getElem?_set_self (by omega),Nat.sub_self]
   rfl
  ·rw[List.getElem?_set_ne (fun e'=>e e'.symm)]
   by_cases hi:o≤i∧i < o+(vs.length+1)
   ·rw[if_pos (by omega),if_pos hi,show i - o=(i - (o+1))+1 by omega]
    rfl
   ·rw[if_neg (by omega),if_neg hi]
theorem putW_only {g:Nat}:∀ (vs:List Value) (o:Nat) (y:World),Only y (putW y g o vs) g
 | [],o,y=>grown_refl y _
 | v :: vs,o,y=>grown_then (only_put y g o v) (putW_only vs (o+1) _) (.inl rfl)
theorem flat_len {α:Type}(f:α→List Value)(n:Nat):∀ (l:List α),(∀ x∈l,(f x).length=n)→(l.flatMap f).length=l.length * n
 | [],_=>by simp
 | x :: l,h=>by
  rw[List.flatMap_cons,List.length_append,h x (by simp),flat_len f n l (fun y hy=>h y (by simp[hy])),List.length_cons,Nat.add_mul]
  omega
theorem flat_at' {α:Type}(f:α→List Value)(n:Nat):∀ (l:List α),(∀ x∈l,(f x).length=n)→∀ (k j:Nat) (x:α),l[k]?=some x→j < n→(l.flatMap f)[k * n+j]?=(f x)[j]?
 | [],_,k,j,x,h,_=>by simp at h
 | y :: l,hf,0,j,x,h,hj=>by
  simp at h
  subst h
  simp[List.getElem?_append,hf,hj]
 | y :: l,hf,k+1,j,x,h,hj=>by
  have ih:=flat_at' f n l (fun z hz=>hf z (by simp[hz])) k j x (by simpa using h) hj
  rw[←ih,List.flatMap_cons,show (k+1) * n+j=n+(k * n+j) by rw[Nat.add_mul];omega,List.getElem?_append_right (by rw[hf y (by simp)];omega),hf y (by simp)]
  congr 1
  omega
def coresR (cs:Nat→Cor)(n:Nat):List Value:=(List.range n).flatMap fun t=>rorC (cs t).xs (cs t).pc
theorem rorC_len {xs:List Int}{pc:Int}(h:xs.length=8):(rorC xs pc).length=9:=by simp[rorC,h]
section
variable {cs:Nat→Cor}{n:Nat}
theorem coresR_len (h:∀ t,t < n→Eight (cs t).xs):(coresR cs n).length=n * 9:=by
 unfold coresR
 rw[flat_len _ 9 _ (fun t ht=>rorC_len (h t (List.mem_range.1 ht)).1),List.length_range]
theorem coresR_at (h:∀ t,t < n→Eight (cs t).xs){t j:Nat}(ht:t < n)(hj:j < 9):(coresR cs n)[t * 9+j]?=(rorC (cs t).xs (cs t).pc)[j]?:=
 flat_at' _ 9 _ (fun t ht=>rorC_len (h t (List.mem_range.1 ht)).1) t j t (by simp[ht]) hj
theorem coresR_put (h:∀ t,t < n→Eight (cs t).xs){t:Nat}(ht:t < n){c:Cor}(hc:Eight c.xs):putL (coresR cs n) (t * 9) (rorC c.xs c.pc)=coresR (updN cs t c) n:=by
 have h2:=updN_eight (n:=n) h hc t
 apply List.ext_getElem?
 intro i
 have hl:=coresR_len h
 have hl2:=coresR_len h2
 have hcl:=rorC_len (pc:=c.pc) hc.1
 have hle:t * 9+9≤n * 9:=by omega
 rw[putL_at _ _ _ _ (by rw[hcl,hl];exact hle),hcl]
 by_cases hi:i < n * 9
 ·obtain⟨s,j,hs,hj,rfl⟩:∃ s j,s < n∧j < 9∧i=s * 9+j:=⟨i / 9,i % 9,by omega,by omega,by omega⟩
  rw[coresR_at h2 hs hj,coresR_at h hs hj]
  by_cases e:s=t
  ·subst e
   rw[if_pos (by omega),updN_same,show s * 9+j - s * 9=j by omega]
  ·rw[if_neg (by omega),updN_other e]
 ·rw[if_neg (by omega),List.getElem?_eq_none (by omega),List.getElem?_eq_none (by omega)]
theorem coresR_snoc (cs:Nat→Cor)(n:Nat):coresR cs n++rorC (cs n).xs (cs n).pc=coresR cs (n+1):=by
 unfold coresR
 rw[List.range_succ,List.flatMap_append]
 simp
end
theorem own_putW {base n cap sz g:Nat}{t:TypeId}:∀ (vs xs:List Value) (o:Nat) (w:World),w.ownsRow base t sz (.slice (some ⟨g,0,none⟩) n cap) n xs→(putW w g o vs).ownsRow base t sz (.slice (some ⟨g,0,none⟩) n cap) n (putL xs o vs)
 | [],xs,o,w,h=>h
 | v :: vs,xs,o,w,h=>own_putW vs _ (o+1) _ (World.ownsRow.stored h o v).1
theorem own_zero {w:World}{base n sz:Nat}{t:TypeId}{v:Value}{xs:List Value}(h:w.ownsRow base t sz v n xs):w.ownsRow 0 t sz v n xs:=World.ownsRow.mono (base':=0) h (Nat.zero_le _)
structure YP where
 y:Nat
 cv:Value
 cl:Value
 wl:Value
 x:Nat
 kl:Value
 ac:Int
 R:RM
def YP.Own (Y:YP)(n i:Nat):Prop:=i=Y.y∨Y.cv.ownBlock=some i∨Y.cl.ownBlock=some i∨Y.wl.ownBlock=some i∨i=Y.x∨Y.kl.ownBlock=some i∨Y.R.Has n i
structure Ey (w:World)(Y:YP)(k:Lk)(m:Mc):Prop where
 ptr:Bk w Y.y 91 #[Y.cv,.int .i64 k.lo,.int .i64 k.un,Y.cl,Y.wl,.pointer (some ⟨Y.x,0,none⟩),Y.kl,.int .i64 Y.ac]
 code:w.ownsRow 0 125 8 Y.cv k.l.length (progC k.l)
 cells:Cs 0 w Y.cl (cels k.zs)
 words:Lst .u32 22 w Y.wl m.ws
 pool:Rf w Y.x k.n k.each Y.R m.pn.free m.pn.gen m.pn.out
 same:∃ fr os c,Same k.n k.each m.pn.free m.pn.gen m.pn.out fr os c
 cores:w.ownsRow 0 112 9 Y.kl k.n (coresR m.cs k.n)
 lk:OkLk k
 mc:OkMc k m
def YStays (w:World)(n:Nat)(Y:YP)(w':World)(Y':YP):Prop:=Within w w' (Y.Own n)∧(∀ i,Y'.Own n i→Y.Own n i∨w.heap.size≤i)∧Y'.y=Y.y
section
variable {w w':World}{Y:YP}{k:Lk}{m:Mc}
theorem YStays.refl (w:World)(n:Nat)(Y:YP):YStays w n Y w Y:=⟨Within.refl _ _,fun _ h=>.inl h,rfl⟩
theorem YStays.then_ {n:Nat}{w'':World}{Y' Y'':YP}(h:YStays w n Y w' Y')(k:YStays w' n Y' w'' Y''):YStays w n Y w'' Y'':=
 ⟨h.1.then_ k.1 h.2.1,fun i hi=>by
  rcases k.2.1 i hi with e | e
  ·exact h.2.1 i e
  ·exact .inr (Nat.le_trans h.1.size e),k.2.2.trans h.2.2⟩
theorem YStays.grown {n:Nat}{Y':YP}{w'':World}(h:YStays w n Y w' Y')(k:Below w'.heap.size w' w''):YStays w n Y w'' Y':=
 h.then_ ⟨(within_of_below k).wide (by simp),fun _ h=>.inl h,rfl⟩
theorem YStays.of_grown {n:Nat}(k:Below w.heap.size w w'):YStays w n Y w' Y:=(YStays.refl w n Y).grown k
theorem YStays.far' {v:World}{N:Nat}{Y':YP}{S:Nat→Prop}(h:YStays v N Y w Y')(hw:Within w w' S)(hs:∀ i,S i→v.heap.size≤i):YStays v N Y w' Y':=
 ⟨h.1.then_ hw (fun i e=>.inr (hs i e)),h.2⟩
theorem Ey.kept {S:Nat→Prop}(h:Ey w Y k m)(hw:Within w w' S)(hn:∀ i,Y.Own k.n i→¬ S i):Ey w' Y k m:=by
 unfold YP.Own at hn
 exact⟨h.ptr.within hw (hn _ (.inl rfl)),own_within h.code hw (fun g e=>hn g (.inr (.inl e))),h.cells.within hw (fun g e=>hn g (.inr (.inr (.inl e)))),h.words.within hw (fun g e=>hn g (.inr (.inr (.inr (.inl e))))),
  h.pool.kept hw (hn _ (.inr (.inr (.inr (.inr (.inl rfl)))))) (fun i hi=>hn i (.inr (.inr (.inr (.inr (.inr (.inr hi))))))),h.same,own_within h.cores hw (fun g e=>hn g (.inr (.inr (.inr (.inr (.inr (.inl e))))))),h.lk,h.mc⟩
theorem Ey.below (h:Ey w Y k m)(hb:Below w.heap.size w w'):Ey w' Y k m:=h.kept (within_of_below hb) (by simp)
theorem Ey.lt (h:Ey w Y k m){i:Nat}(hi:Y.Own k.n i):i < w.heap.size:=by
 rcases hi with rfl | e | e | e | rfl | e | e
 ·exact h.ptr.lt
 ·exact(World.ownsRow.lt h.code i e).2
 ·exact(h.cells.lt e).2
 ·exact h.words.lt e
 ·exact h.pool.ptr.lt
 ·exact(World.ownsRow.lt h.cores i e).2
 ·exact h.pool.lt e
theorem Ey.c0 (h:Ey w Y k m):w.cell? ⟨Y.y,0,none⟩=some Y.cv:=by rw[h.ptr.cell];rfl
theorem Ey.c1 (h:Ey w Y k m):w.cell? ⟨Y.y,1,none⟩=some (.int .i64 k.lo):=by rw[h.ptr.cell];rfl
theorem Ey.c2 (h:Ey w Y k m):w.cell? ⟨Y.y,2,none⟩=some (.int .i64 k.un):=by rw[h.ptr.cell];rfl
theorem Ey.c3 (h:Ey w Y k m):w.cell? ⟨Y.y,3,none⟩=some Y.cl:=by rw[h.ptr.cell];rfl
theorem Ey.c4 (h:Ey w Y k m):w.cell? ⟨Y.y,4,none⟩=some Y.wl:=by rw[h.ptr.cell];rfl
theorem Ey.c6 (h:Ey w Y k m):w.cell? ⟨Y.y,6,none⟩=some Y.kl:=by rw[h.ptr.cell];rfl
theorem Ey.c7 (h:Ey w Y k m):w.cell? ⟨Y.y,7,none⟩=some (.int .i64 Y.ac):=by rw[h.ptr.cell];rfl
theorem Ey.pv (h:Ey w Y k m):Pv w (.agg #[Y.cv,.int .i64 k.lo,.int .i64 k.un]) ⟨k.l,k.lo,k.un⟩∧∃ a cap,Y.cv=.slice a k.l.length cap:=by
 obtain⟨a,cap,e,h1,h2,_⟩:=own_is h.code
 exact⟨own_pv (c:=⟨k.l,k.lo,k.un⟩) h.code,a,cap,e⟩
theorem Ey.klIs (h:Ey w Y k m):∃ g cap,Y.kl=.slice (some ⟨g,0,none⟩) k.n cap∧k.n≤cap∧cap≤maxLen∧Y.kl.ownBlock=some g∧(∀ i,w.frozen? ⟨g,i,none⟩=false)∧∀ t,t < k.n→∀ j,j < 9→w.cell? ⟨g,t * 9+j,none⟩=(rorC (m.cs t).xs (m.cs t).pc)[j]?:=by
 obtain⟨a,cap,e,h1,h2,h3⟩:=own_is h.cores
 obtain⟨g,rfl,e2,_,_,hf,hc⟩:=h3 h.lk.n1
 refine⟨g,cap,e,h1,h2,e2,hf,fun t ht j hj=>?_⟩
 rw[hc _ (by omega),coresR_at h.mc.cs ht hj]
theorem Ey.core_cons (h:Ey w Y k m){t:Nat}(ht:t < k.n):∃ r0 r1 r2 r3 r4 r5 r6 r7 pc,m.cs t=⟨[r0,r1,r2,r3,r4,r5,r6,r7],pc⟩:=by
 obtain⟨r0,r1,r2,r3,r4,r5,r6,r7,e⟩:=eight_cons (h.mc.cs t ht).1
 exact⟨r0,r1,r2,r3,r4,r5,r6,r7,(m.cs t).pc,by rw[←e]⟩
theorem Ey.core (h:Ey w Y k m){t:Nat}(ht:t < k.n){r0 r1 r2 r3 r4 r5 r6 r7 pc:Int}(e:m.cs t=⟨[r0,r1,r2,r3,r4,r5,r6,r7],pc⟩){g cap:Nat}(ek:Y.kl=.slice (some ⟨g,0,none⟩) k.n cap):
 w.cell? ⟨g,t * 9,none⟩=some (.int .i64 r0)∧w.cell? ⟨g,t * 9+1,none⟩=some (.int .i64 r1)∧w.cell? ⟨g,t * 9+2,none⟩=some (.int .i64 r2)∧w.cell? ⟨g,t * 9+3,none⟩=some (.int .i64 r3)∧w.cell? ⟨g,t * 9+4,none⟩=some (.int .i64 r4)∧w.cell? ⟨g,t * 9+5,none⟩=some (.int .i64 r5)∧w.cell? ⟨g,t * 9+6,none⟩=some (.int .i64 r6)∧w.cell? ⟨g,t * 9+7,none⟩=some (.int .i64 r7)∧w.cell? ⟨g,t * 9+8,none⟩=some (.int .i64 pc):=by
 obtain⟨g',cap',ek',_,_,_,_,hc⟩:=h.klIs
 rw[ek] at ek'
 simp only[Value.slice.injEq,Option.some.injEq,Addr.mk.injEq,and_true,true_and] at ek'
 obtain⟨rfl,-⟩:=ek'
 have H:=fun j (hj:j < 9)=>hc t ht j hj
 rw[e] at H
 exact⟨H 0 (by omega),H 1 (by omega),H 2 (by omega),H 3 (by omega),H 4 (by omega),H 5 (by omega),H 6 (by omega),H 7 (by omega),H 8 (by omega)⟩
theorem Ey.wlIs (h:Ey w Y k m):∃ a cap,Y.wl=.slice a m.ws.length cap∧m.ws.length≤cap∧cap≤maxLen∧(0 < m.ws.length→∃ g,a=some ⟨g,0,none⟩∧Y.wl.ownBlock=some g∧(∀ i,w.frozen? ⟨g,i,none⟩=false)∧∀ i,i < m.ws.length→w.cell? ⟨g,i,none⟩=some (.int .u32 (nth m.ws i))):=h.words.is
theorem Ey.others {g:Nat}{t:TypeId}{cs:Array Value}(h:Ey w Y k m)(hW:Within w w' (fun i=>i=g))(hb:Bk w g t cs):
 (t≠91→Bk w' Y.y 91 #[Y.cv,.int .i64 k.lo,.int .i64 k.un,Y.cl,Y.wl,.pointer (some ⟨Y.x,0,none⟩),Y.kl,.int .i64 Y.ac])∧
 (t≠125→w'.ownsRow 0 125 8 Y.cv k.l.length (progC k.l))∧
 (t≠153→Cs 0 w' Y.cl (cels k.zs))∧
 (t≠22→Lst .u32 22 w' Y.wl m.ws)∧
 (t≠160→t≠26→t≠3→Rf w' Y.x k.n k.each Y.R m.pn.free m.pn.gen m.pn.out)∧
 (t≠112→w'.ownsRow 0 112 9 Y.kl k.n (coresR m.cs k.n)):=by
 refine⟨fun ht=>h.ptr.within hW (Bk.unlike h.ptr hb (fun e=>ht e.symm)),fun ht=>own_within h.code hW (fun g' e e2=>?_),fun ht=>h.cells.within hW (fun g' e e2=>?_),fun ht=>h.words.within hW (fun g' e e2=>?_),
  fun t1 t2 t3=>h.pool.kept hW (Bk.unlike h.pool.ptr hb (fun e=>t1 e.symm)) (fun i hi e2=>Rf.not_has h.pool hb t2 t3 (e2 ▸ hi)),fun ht=>own_within h.cores hW (fun g' e e2=>?_)⟩
 ·obtain⟨cs',hcs⟩:=own_bk h.code e
  exact Bk.unlike hcs hb (fun e=>ht e.symm) e2
 ·obtain⟨cs',hcs⟩:=own_bk h.cells e
  exact Bk.unlike hcs hb (fun e=>ht e.symm) e2
 ·obtain⟨cs',hcs⟩:=h.words.bk e
  exact Bk.unlike hcs hb (fun e=>ht e.symm) e2
 ·obtain⟨cs',hcs⟩:=own_bk h.cores e
  exact Bk.unlike hcs hb (fun e=>ht e.symm) e2
theorem Ey.put (h:Ey w Y k m){t:Nat}(ht:t < k.n){c:Cor}(hc:Eight c.xs){g cap:Nat}(e:Y.kl=.slice (some ⟨g,0,none⟩) k.n cap):Ey (putW w g (t * 9) (rorC c.xs c.pc)) Y k { m with cs:=updN m.cs t c }∧YStays w k.n Y (putW w g (t * 9) (rorC c.xs c.pc)) Y:=by
 have hW:Within w (putW w g (t * 9) (rorC c.xs c.pc)) (fun i=>i=g):=.of_grown (putW_only _ _ _) (by rintro i e;injection e with e;exact .inl e.symm)
 have hg:Y.kl.ownBlock=some g:=by rw[e];rfl
 have hk:=h.cores
 obtain⟨cs0,hb⟩:=own_bk hk hg
 rw[e] at hk
 have hp:=own_putW (rorC c.xs c.pc) _ (t * 9) w hk
 rw[coresR_put h.mc.cs ht hc,←e] at hp
 obtain⟨o1,o2,o3,o4,o5,o6⟩:=h.others hW hb
 exact⟨⟨o1 (by decide),o2 (by decide),o3 (by decide),o4 (by decide),o5 (by decide) (by decide) (by decide),h.same,hp,h.lk,⟨h.mc.ws,h.mc.len,updN_eight h.mc.cs hc t⟩⟩,hW.wide (fun i e _=>by subst e;exact .inr (.inr (.inr (.inr (.inr (.inl hg)))))),fun _ h=>.inl h,rfl⟩
theorem Ey.word (h:Ey w Y k m){g cap:Nat}(e:Y.wl=.slice (some ⟨g,0,none⟩) m.ws.length cap)(a:Nat){v:Int}(hv:0≤v∧v < 4294967296):Ey (w.setCell ⟨g,a,none⟩ (.int .u32 v)) Y k { m with ws:=m.ws.set a v }∧YStays w k.n Y (w.setCell ⟨g,a,none⟩ (.int .u32 v)) Y:=by
 have hW:Within w (w.setCell ⟨g,a,none⟩ (.int .u32 v)) (fun i=>i=g):=(Within.refl _ _).put _ _ _ (.inl rfl)
 have hg:Y.wl.ownBlock=some g:=by rw[e];rfl
 have hk:=h.words
 obtain⟨cs0,hb⟩:=hk.bk hg
 rw[e] at hk
 have hp:=hk.put a v
 rw[←e] at hp
 obtain⟨o1,o2,o3,o4,o5,o6⟩:=h.others hW hb
 exact⟨⟨o1 (by decide),o2 (by decide),o3 (by decide),hp,o5 (by decide) (by decide) (by decide),h.same,o6 (by decide),h.lk,⟨h.mc.ws.set _ _ hv,by rw[List.length_set];exact h.mc.len,h.mc.cs⟩⟩,hW.wide (fun i e _=>by subst e;exact .inr (.inr (.inr (.inl hg)))),fun _ h=>.inl h,rfl⟩
theorem Ey.more (h:Ey w Y k m)(v:Int):Ey (w.setCell ⟨Y.y,7,none⟩ (.int .i64 v)) { Y with ac:=v } k m∧YStays w k.n Y (w.setCell ⟨Y.y,7,none⟩ (.int .i64 v)) { Y with ac:=v }:=by
 have hW:Within w (w.setCell ⟨Y.y,7,none⟩ (.int .i64 v)) (fun i=>i=Y.y):=(Within.refl _ _).put _ _ _ (.inl rfl)
 obtain⟨o1,o2,o3,o4,o5,o6⟩:=h.others hW h.ptr
 exact⟨⟨h.ptr.put 7 (.int .i64 v),o2 (by decide),o3 (by decide),o4 (by decide),o5 (by decide) (by decide) (by decide),h.same,o6 (by decide),h.lk,h.mc⟩,hW.wide (fun i e _=>by subst e;exact .inl rfl),fun _ h=>.inl h,rfl⟩
theorem yFind (h:Ey w Y k m)(area x:Int)(h0:0≤x)(h1:x < 4294967296):
 Calls Tryz.prog 53 #[Y.cl,.int .i64 area,.int .u32 x] w fun e w'=>(match findM k.zs area x with
  | none=>e=.returned (.int .i64 (-1))
  | some a=>e=.returned (.int .i64 a))∧w.grownBy w' none:=by
 unfold findM
 by_cases hc:0≤area∧area < k.zs.length∧x % 4096 < sz k.zs area.toNat
 ·rw[if_pos hc]
  obtain⟨A,rfl⟩:=Int.eq_ofNat_of_zero_le hc.1
  have h2:=hc.2.2
  rw[Int.toNat_natCast] at h2 ⊢
  obtain⟨P,hP⟩:=Int.eq_ofNat_of_zero_le (show 0≤x % 4096 by omega)
  have:=rFind h.cells h.lk.zs A P x h0 h1 (by omega) (by omega) hP
  rw[hP,Int.toNat_natCast]
  exact this
 ·rw[if_neg hc]
  exact rFindNo h.cells h.lk.zs area x h0 h1 (by omega)
end
def one01 (b:Bool):Int:=if b then 1 else 0
def otR (v:Value)(o:Ot):Value:=.agg #[v,.int .i64 o.done,.int .i64 o.addr,.int .i64 (one01 o.wrote),.int .i64 (one01 o.stay),.int .i64 o.e]
def CameY (w:World)(Y:YP)(k:Lk)(r:Mc×Ot)(e:Ending)(w':World):Prop:=
 ∃ v Y',e=.returned (otR v r.2)∧Lst .i64 3 w' v r.2.ms∧Ey w' Y' k r.1∧YStays w k.n Y w' Y'
def put6 (y:World)(g:Nat)(a b c d e f:Value):World:=((((((y.setCell ⟨g,0,none⟩ a).setCell ⟨g,1,none⟩ b).setCell ⟨g,2,none⟩ c).setCell ⟨g,3,none⟩ d).setCell ⟨g,4,none⟩ e).setCell ⟨g,5,none⟩ f)
theorem put6_bk {y:World}{g:Nat}{t:TypeId}{x0 x1 x2 x3 x4 x5:Value}(h:Bk y g t #[x0,x1,x2,x3,x4,x5])(a b c d e f:Value):Bk (put6 y g a b c d e f) g t #[a,b,c,d,e,f]:=by
 have h8:=(((((h.put 0 a).put 1 b).put 2 c).put 3 d).put 4 e).put 5 f
 unfold put6
 simpa only[List.setIfInBounds_toArray,List.set_cons_zero,List.set_cons_succ] using h8
theorem put6_within {y:World}{g:Nat}(a b c d e f:Value):Within y (put6 y g a b c d e f) (fun i=>i=g):=
 ((((((Within.refl y (fun i=>i=g)).put g 0 a (.inl rfl)).put g 1 b (.inl rfl)).put g 2 c (.inl rfl)).put g 3 d (.inl rfl)).put g 4 e (.inl rfl)).put g 5 f (.inl rfl)
def actL (a:Nat→Int)(n:Nat):List Int:=(List.range n).map a
theorem actL_len (a:Nat→Int)(n:Nat):(actL a n).length=n:=by simp[actL]
theorem actL_at (a:Nat→Int){n t:Nat}(h:t < n):nth (actL a n) t=a t:=by
 rw[nth_lt (by rw[actL_len];exact h)]
 simp[actL]
theorem actL_set (a:Nat→Int){n t:Nat}(h:t < n)(v:Int):(actL a n).set t v=actL (updN a t v) n:=by
 apply List.ext_getElem
 ·simp[actL]
 ·intro i h1 h2
  simp only[List.length_set,actL_len] at h1
  rw[List.getElem_set]
  by_cases e:t=i
  ·subst e;simp[actL,updN]
  ·rw[if_neg e]
   have e2:¬ i=t:=fun h=>e h.symm
   simp[actL,updN,e2]
structure RP where
 g:Nat
 Y:YP
 d:Nat
 lv:Value
def RP.Own (U:RP)(n i:Nat):Prop:=i=U.g∨i=U.d∨U.lv.ownBlock=some i∨U.Y.Own n i
def badI (b:Bool):Int:=if b then 1 else 0
structure Ru (w:World)(U:RP)(k:Lk)(r:Rn):Prop where
 ptr:Bk w U.g 86 #[.pointer (some ⟨U.Y.y,0,none⟩),.slice (some ⟨U.d,0,none⟩) k.n k.n,U.lv,.int .i64 (badI r.bad)]
 acts:Its w U.d k.n (actL r.act k.n)
 ents:EnO 0 94 w U.lv r.l
 ey:Ey w U.Y k r.m
 dy:¬ U.Y.Own k.n U.d
def UStays (w:World)(n:Nat)(U:RP)(w':World)(U':RP):Prop:=Within w w' (U.Own n)∧(∀ i,U'.Own n i→U.Own n i∨w.heap.size≤i)∧U'.g=U.g∧U'.d=U.d
section
variable {w w':World}{U:RP}{k:Lk}{r:Rn}
theorem UStays.refl (w:World)(n:Nat)(U:RP):UStays w n U w U:=⟨Within.refl _ _,fun _ h=>.inl h,rfl,rfl⟩
theorem UStays.then_ {n:Nat}{w'':World}{U' U'':RP}(h:UStays w n U w' U')(k:UStays w' n U' w'' U''):UStays w n U w'' U'':=
 ⟨h.1.then_ k.1 h.2.1,fun i hi=>by
  rcases k.2.1 i hi with e | e
  ·exact h.2.1 i e
  ·exact .inr (Nat.le_trans h.1.size e),k.2.2.1.trans h.2.2.1,k.2.2.2.trans h.2.2.2⟩
theorem UStays.grown {n:Nat}{U':RP}{w'':World}(h:UStays w n U w' U')(k:Below w'.heap.size w' w''):UStays w n U w'' U':=
 h.then_ ⟨(within_of_below k).wide (by simp),fun _ h=>.inl h,rfl,rfl⟩
theorem Ey.not_own {Y:YP}{m:Mc}{g:Nat}{t:TypeId}{cs:Array Value}(h:Ey w Y k m)(hb:Bk w g t cs)
 (t1:t≠91) (t2:t≠125) (t3:t≠153) (t4:t≠22) (t5:t≠160) (t6:t≠26) (t7:t≠3) (t8:t≠112):¬ Y.Own k.n g:=by
 rintro(e | e | e | e | e | e | e)
 ·exact Bk.unlike h.ptr hb (fun e=>t1 e.symm) e.symm
 ·obtain⟨cs',hcs⟩:=own_bk h.code e
  exact Bk.unlike hcs hb (fun e=>t2 e.symm) rfl
 ·obtain⟨cs',hcs⟩:=own_bk h.cells e
  exact Bk.unlike hcs hb (fun e=>t3 e.symm) rfl
 ·obtain⟨cs',hcs⟩:=h.words.bk e
  exact Bk.unlike hcs hb (fun e=>t4 e.symm) rfl
 ·exact Bk.unlike h.pool.ptr hb (fun e=>t5 e.symm) e.symm
 ·obtain⟨cs',hcs⟩:=own_bk h.cores e
  exact Bk.unlike hcs hb (fun e=>t8 e.symm) rfl
 ·exact Rf.not_has h.pool hb t6 t7 e
theorem Ru.gY (h:Ru w U k r):¬ U.Y.Own k.n U.g:=h.ey.not_own h.ptr (by decide) (by decide) (by decide) (by decide) (by decide) (by decide) (by decide) (by decide)
theorem Ru.gd (h:Ru w U k r):U.g≠U.d:=by
 obtain⟨cs,hb,_⟩:=h.acts.bk
 exact Bk.unlike h.ptr hb (by decide)
theorem Ru.lY (h:Ru w U k r){b:Nat}(e:U.lv.ownBlock=some b):¬ U.Y.Own k.n b:=by
 obtain⟨cs,hb⟩:=own_bk h.ents e
 exact h.ey.not_own hb (by decide) (by decide) (by decide) (by decide) (by decide) (by decide) (by decide) (by decide)
theorem Ru.lg (h:Ru w U k r):U.lv.ownBlock≠some U.g:=fun e=>by
 obtain⟨cs,hb⟩:=own_bk h.ents e
 exact Bk.unlike h.ptr hb (by decide) rfl
theorem Ru.ld (h:Ru w U k r):U.lv.ownBlock≠some U.d:=fun e=>by
 obtain⟨cs,hb⟩:=own_bk h.ents e
 obtain⟨cs2,hb2,_⟩:=h.acts.bk
 exact Bk.unlike hb2 hb (by decide) rfl
theorem Ru.lt (h:Ru w U k r){i:Nat}(hi:U.Own k.n i):i < w.heap.size:=by
 rcases hi with rfl | rfl | e | e
 ·exact h.ptr.lt
 ·exact h.acts.lt
 ·exact(World.ownsRow.lt h.ents i e).2
 ·exact h.ey.lt e
theorem Ru.kept {S:Nat→Prop}(h:Ru w U k r)(hw:Within w w' S)(hn:∀ i,U.Own k.n i→¬ S i):Ru w' U k r:=
 ⟨h.ptr.within hw (hn _ (.inl rfl)),h.acts.within hw (hn _ (.inr (.inl rfl))),h.ents.within hw (fun g e=>hn g (.inr (.inr (.inl e)))),h.ey.kept hw (fun i hi=>hn i (.inr (.inr (.inr hi)))),h.dy⟩
theorem Ru.below (h:Ru w U k r)(hb:Below w.heap.size w w'):Ru w' U k r:=h.kept (within_of_below hb) (by simp)
theorem Ru.c0 (h:Ru w U k r):w.cell? ⟨U.g,0,none⟩=some (.pointer (some ⟨U.Y.y,0,none⟩)):=h.ptr.cell 0
theorem Ru.c1 (h:Ru w U k r):w.cell? ⟨U.g,1,none⟩=some (.slice (some ⟨U.d,0,none⟩) k.n k.n):=h.ptr.cell 1
theorem Ru.c2 (h:Ru w U k r):w.cell? ⟨U.g,2,none⟩=some U.lv:=h.ptr.cell 2
theorem Ru.c3 (h:Ru w U k r):w.cell? ⟨U.g,3,none⟩=some (.int .i64 (badI r.bad)):=h.ptr.cell 3
theorem Ru.act (h:Ru w U k r){t:Nat}(ht:t < k.n):w.cell? ⟨U.d,t,none⟩=some (.int .i64 (r.act t)):=by
 have:=h.acts.at_ (i:=t) (by rw[actL_len];exact ht)
 rwa [actL_at r.act ht] at this
theorem Ru.putBad (h:Ru w U k r):Ru (w.setCell ⟨U.g,3,none⟩ (.int .i64 1)) U k { r with bad:=true }∧UStays w k.n U (w.setCell ⟨U.g,3,none⟩ (.int .i64 1)) U:=by
 have hw:Within w (w.setCell ⟨U.g,3,none⟩ (.int .i64 1)) (fun b=>b=U.g):=(Within.refl w (fun b=>b=U.g)).put U.g 3 _ (.inl rfl)
 refine⟨⟨?_,h.acts.within hw (fun e=>h.gd e.symm),h.ents.within hw (fun g e e2=>h.lg (by rw[e,e2])),h.ey.kept hw (fun i hi e=>h.gY (e ▸ hi)),h.dy⟩,hw.wide (fun i e _=>.inl e),fun _ h=>.inl h,rfl,rfl⟩
 have:=h.ptr.put 3 (.int .i64 1)
 simp only[List.setIfInBounds_toArray,List.set_cons_zero,List.set_cons_succ] at this
 exact this
theorem Ru.putAct (h:Ru w U k r){t:Nat}(ht:t < k.n)(v:Int):Ru (w.setCell ⟨U.d,t,none⟩ (.int .i64 v)) U k { r with act:=updN r.act t v }∧UStays w k.n U (w.setCell ⟨U.d,t,none⟩ (.int .i64 v)) U:=by
 have hw:Within w (w.setCell ⟨U.d,t,none⟩ (.int .i64 v)) (fun b=>b=U.d):=(Within.refl w (fun b=>b=U.d)).put U.d t _ (.inl rfl)
 refine⟨⟨h.ptr.within hw h.gd,?_,h.ents.within hw (fun g e e2=>h.ld (by rw[e,e2])),h.ey.kept hw (fun i hi e=>h.dy (e ▸ hi)),h.dy⟩,hw.wide (fun i e _=>.inr (.inl e)),fun _ h=>.inl h,rfl,rfl⟩
 have:=h.acts.put t v
 rw[actL_set r.act ht] at this
 exact this
theorem Ru.putL {w2:World}{lv':Value}{l':List En}(h:Ru w U k r)(hg:Within w w2 (fun b=>U.lv.ownBlock=some b))(hl:EnO 0 94 w2 lv' l')(ho:∀ g,lv'.ownBlock=some g→U.lv.ownBlock=some g∨w.heap.size≤g):
 Ru (w2.setCell ⟨U.g,2,none⟩ lv') { U with lv:=lv' } k { r with l:=l' }∧UStays w k.n U (w2.setCell ⟨U.g,2,none⟩ lv') { U with lv:=lv' }:=by
 have hw:Within w2 (w2.setCell ⟨U.g,2,none⟩ lv') (fun b=>b=U.g):=(Within.refl w2 (fun b=>b=U.g)).put U.g 2 _ (.inl rfl)
 have hlg:lv'.ownBlock≠some U.g:=fun e=>by
  rcases ho _ e with e2 | e2
  ·exact h.lg e2
  ·have:=h.ptr.lt;omega
 refine⟨⟨?_,(h.acts.within hg h.ld).within hw (fun e=>h.gd e.symm),hl.within hw (fun g e e2=>hlg (by rw[e,e2])),(h.ey.kept hg (fun i hi e=>h.lY e hi)).kept hw (fun i hi e=>h.gY (e ▸ hi)),h.dy⟩,?_,?_,rfl,rfl⟩
 ·have:=(h.ptr.within hg h.lg).put 2 lv'
  simpa only[List.setIfInBounds_toArray,List.set_cons_zero,List.set_cons_succ] using this
 ·exact(hg.wide (S':=U.Own k.n) (fun i e _=>.inr (.inr (.inl e)))).then_ hw (fun i e=>.inl (.inl e))
 ·rintro i (e | e | e | e)
  ·exact .inl (.inl e)
  ·exact .inl (.inr (.inl e))
  ·rcases ho i e with e2 | e2
   ·exact .inl (.inr (.inr (.inl e2)))
   ·exact .inr e2
  ·exact .inl (.inr (.inr (.inr e)))
theorem Ru.putEy {Y':YP}{m':Mc}(h:Ru w U k r)(hy:Ey w' Y' k m')(hs:YStays w k.n U.Y w' Y'):Ru w' { U with Y:=Y' } k { r with m:=m' }∧UStays w k.n U w' { U with Y:=Y' }:=by
 have hw:=hs.1
 refine⟨⟨?_,h.acts.within hw h.dy,h.ents.within hw (fun g e=>h.lY e),hy,fun e=>?_⟩,hw.wide (fun i e _=>.inr (.inr (.inr e))),?_,rfl,rfl⟩
 ·have:=h.ptr.within hw h.gY
  show Bk w' U.g _ #[.pointer (some ⟨Y'.y,0,none⟩),_,_,_]
  rw[hs.2.2];exact this
 ·rcases hs.2.1 _ e with e2 | e2
  ·exact h.dy e2
  ·have:=h.acts.lt
   have e3:w.heap.size≤U.d:=e2
   omega
 ·rintro i (e | e | e | e)
  ·exact .inl (.inl e)
  ·exact .inl (.inr (.inl e))
  ·exact .inl (.inr (.inr (.inl e)))
  ·rcases hs.2.1 i e with e2 | e2
   ·exact .inl (.inr (.inr (.inr e2)))
   ·exact .inr e2
end
def RuP (w:World)(U:RP)(k:Lk)(r:Rn)(w':World):Prop:=∃ U',Ru w' U' k r∧UStays w k.n U w' U'
theorem lst_within {W W':World}{m:Value}{ms:List Int}{S:Nat→Prop}(hl:Lst .i64 3 W m ms)(hW:Within W W' S)(hS:∀ b,S b→∃ t cs,Bk W b t cs∧t≠3):Lst .i64 3 W' m ms:=
 hl.within hW fun g e hg=>by
  obtain⟨cs,hcs⟩:=hl.bk e
  obtain⟨t,cs',h1,h2⟩:=hS g hg
  exact Bk.unlike hcs h1 (fun e=>h2 e.symm) rfl
section
variable {k:Lk}{m:Mc}{t:Nat}{late:Bool}{i:Ins}
theorem step_find (hm:memI k (m.cs t).pc=some i)(h:i.op≠22)(h':i.op≠23):stepM k m t late=match findM k.zs i.a (nth (m.cs t).xs i.s.toNat) with
 | none=>(m,trapO)
 | some a=>accM k m t (m.cs t) late i a:=by
 unfold stepM
 simp only[hm,if_neg h,if_neg h']
 rfl
end
theorem below_drawnU (z:World)(n:Nat):Below z.heap.size z (z.drewN n):=⟨rfl,rfl,rfl,Nat.le_refl _,fun _ _=>rfl⟩
structure EntP (w:World)(U:RP)(k:Lk)(r:Rn)(w':World)(U':RP):Prop where
 ru:Ru w' U' k r
 st:UStays w k.n U w' U'
 few:Within w w' (fun i=>i=U.g∨U.lv.ownBlock=some i)
section
variable {w:World}{U:RP}{k:Lk}{r:Rn}
theorem entInfoR':(Tryz.prog.info? 94).map (fun i=>(i.zero,i.size,i.bytes))=some (some (.agg #[.int .i64 0,.int .i64 0,.int .i64 0]),3,24):=by kernel_rfl
theorem rEnter (h:Ru w U k r)(kd:Int)(t:Nat)(hl:r.l.length < 1000000000):
 Calls Tryz.prog 67 #[.pointer (some ⟨U.g,0,none⟩),.int .i64 kd,.int .i64 t] w fun e w'=>e=.returned (.tuple #[])∧∃ U',EntP w U k { r with l:=r.l++[⟨kd,t,0⟩] } w' U':=by
 have c2:=h.c2
 have HO:=Lib.hid (World.ownsRow.alloc h.ents (.cells #[.int .i64 kd,.int .i64 (t:Int),.int .i64 0] 94))
 have HN:=Lib.hid (news_bk (Nb.made 94 w kd (t:Int) 0))
 have HL:=Lib.hid hl
 have HE:Hid (∀ w' v',w'.ownsRow 0 94 3 v' (r.l.length+1) (ensC r.l++enC ⟨kd,(t:Int),0⟩)→(w.alloc (.cells #[.int .i64 kd,.int .i64 (t:Int),.int .i64 0] 94)).grownBy w' U.lv.ownBlock→(v'.ownBlock=U.lv.ownBlock∨v'.ownBlock=some (w.alloc (.cells #[.int .i64 kd,.int .i64 (t:Int),.int .i64 0] 94)).heap.size)→
  (w'.cell? ⟨U.g,2,none⟩=some U.lv∧w'.frozen? ⟨U.g,2,none⟩=false)∧∃ U',EntP w U k { r with l:=r.l++[⟨kd,(t:Int),0⟩] } (w'.setCell ⟨U.g,2,none⟩ v') U'):=Lib.hid (fun w' v' ho hg hloc=>by
  have hw:Within w w' (fun b=>U.lv.ownBlock=some b):=((Within.refl w (fun b=>U.lv.ownBlock=some b)).alloc _).then_ (Within.of_grown (S:=fun b=>U.lv.ownBlock=some b) hg (fun i e=>.inl e)) (fun i hi=>.inl hi)
  have hp:=h.ptr.within hw h.lg
  have hput:=h.putL (lv':=v') (l':=r.l++[⟨kd,(t:Int),0⟩]) hw ?_ ?_
  refine⟨⟨hp.cell 2,hp.free 2⟩,_,hput.1,hput.2,?_⟩
  ·exact(hw.wide (S':=fun i=>i=U.g∨U.lv.ownBlock=some i) (fun i e _=>.inr e)).then_ ((Within.refl w' (fun b=>b=U.g)).put U.g 2 v' (.inl rfl)) (fun i e=>.inl (.inl e))
  ·unfold EnO
   rw[ensC_snoc,List.length_append]
   exact ho
  ·intro g e
   rcases hloc with e2 | e2
   ·exact .inl (by rw[←e2];exact e)
   ·rw[e2] at e
    injection e with e
    right
    rw[World.size_alloc] at e
    omega)
 clear h hl
 generalize U.lv=lv at *
 go_enter Tryz.func67,Tryz.ntmps67
 go_wp2_with (at_builtin;refine wpOwnB rfl _ _ 84 rfl _ 24 Tryz.underlying84 entInfoR' rfl (by omega) (by omega) HO.out rfl (enC ⟨kd,(t:Int),0⟩) rfl (enC_one _) w.heap.size rfl HN.out HL.out (Nat.zero_le _) ?_;intro v' w' hown hgr hloc;obtain⟨⟨c2',f2'⟩,hR⟩:=HE.out w' v' hown hgr hloc;obtain⟨a2,cap2,rfl,_,_,_⟩:=own_is hown)
 go_end0
 exact⟨rfl,hR⟩
end
section
variable {w w':World}{Y:YP}{k:Lk}{m:Mc}
set_option maxHeartbeats 4000000 in
theorem yRun (h:Ey w Y k m)(t:Nat)(ht:t < k.n)(c:Cor)(hc:Eight c.xs)(o:Ot)(v0:Value)(hv0:v0=.slice none 0 0):
 Calls Tryz.prog 47 #[.pointer (some ⟨Y.y,0,none⟩),.int .i64 t,rv c.xs c.pc,otR v0 o] w (CameY w Y k (runM k m t c o)):=by
 subst hv0
 have hnn:=h.lk.n64
 have hl:=h.lk.parts.2.1
 have HR0:=fun(v:Value) W hW=>rRun ⟨k.l,k.lo,k.un⟩ v c.xs c.pc t W hW hl h.lk.ok hc (by omega) (by omega)
 have hE:=runL_eight h.lk.ok (self:=(t:Int)) (by omega) (by omega) 256 c.xs c.pc [] hc
 obtain⟨cxs,pc⟩:=c
 simp only at hc HR0 hE ⊢
 obtain⟨r0,r1,r2,r3,r4,r5,r6,r7,rfl⟩:=eight_cons hc.1
 obtain⟨RR,hRR⟩:∃ R,R=runL (t:Int) k.l 256 [r0,r1,r2,r3,r4,r5,r6,r7] pc []:=⟨_,rfl⟩
 rw[←hRR] at hE
 obtain⟨oms,od,oa,ow,os,oe⟩:=o
 have HR:Hid (runM k m t ⟨[r0,r1,r2,r3,r4,r5,r6,r7],pc⟩ ⟨oms,od,oa,ow,os,oe⟩=({ m with cs:=updN m.cs t ⟨RR.xs,RR.pc⟩ },⟨RR.ms,RR.done,oa,ow,os,RR.e⟩)):=Lib.hid (by unfold runM;simp only[hRR])
 have HX:=Lib.hid h
 obtain⟨sxs,PC,ms,D,E⟩:=RR
 simp only at hE HR
 obtain⟨s0,s1,s2,s3,s4,s5,s6,s7,rfl⟩:=eight_cons hE.1
 have HE8:=Lib.hid hE
 have HB:Hid (∀ W,Ey W Y k m→Calls Tryz.prog 78 #[.agg #[.int .i64 r0,.int .i64 r1,.int .i64 r2,.int .i64 r3,.int .i64 r4,.int .i64 r5,.int .i64 r6,.int .i64 r7,.int .i64 pc],.agg #[Y.cv,.int .i64 k.lo,.int .i64 k.un],.int .i64 t] W fun e w'=>∃ m5,e=.returned (.tuple #[.agg #[.int .i64 s0,.int .i64 s1,.int .i64 s2,.int .i64 s3,.int .i64 s4,.int .i64 s5,.int .i64 s6,.int .i64 s7,.int .i64 PC],m5,.int .i64 D,.int .i64 E])∧Lst .i64 3 w' m5 ms∧Below W.heap.size W w'):=Lib.hid fun W hW=>by
  have h1:=HR0 _ W hW.pv.1
  rw[←hRR] at h1
  exact h1.mono fun e w' ⟨m5,q1,q2,q3⟩=>⟨m5,q1,q2,q3⟩
 clear HR0 hE hRR hc
 rw[HR.out]
 clear HR
 unfold otR rv
 simp only[rorC,List.map_cons,List.map_nil,List.cons_append,List.nil_append]
 have HOT:Hid (∀ v:Value,otR v ⟨ms,D,oa,ow,os,E⟩=.agg #[v,.int .i64 D,.int .i64 oa,.int .i64 (one01 ow),.int .i64 (one01 os),.int .i64 E]):=Lib.hid fun v=>rfl
 have q0:=((Rb.made w [r0,r1,r2,r3,r4,r5,r6,r7] pc).alloc (.cells #[.slice none 0 0,.int .i64 od,.int .i64 oa,.int .i64 (one01 ow),.int .i64 (one01 os),.int .i64 oe] 67)).alloc (.cells #[.slice none 0 0,.int .i64 0,.int .i64 0,.int .i64 0,.int .i64 0,.int .i64 0] 67)
 have q1:=(Bk.made (w.alloc (.cells #[.int .i64 r0,.int .i64 r1,.int .i64 r2,.int .i64 r3,.int .i64 r4,.int .i64 r5,.int .i64 r6,.int .i64 r7,.int .i64 pc] 112)) 67 #[.slice none 0 0,.int .i64 od,.int .i64 oa,.int .i64 (one01 ow),.int .i64 (one01 os),.int .i64 oe]).alloc (.cells #[.slice none 0 0,.int .i64 0,.int .i64 0,.int .i64 0,.int .i64 0,.int .i64 0] 67)
 have q2:=Bk.made ((w.alloc (.cells #[.int .i64 r0,.int .i64 r1,.int .i64 r2,.int .i64 r3,.int .i64 r4,.int .i64 r5,.int .i64 r6,.int .i64 r7,.int .i64 pc] 112)).alloc (.cells #[.slice none 0 0,.int .i64 od,.int .i64 oa,.int .i64 (one01 ow),.int .i64 (one01 os),.int .i64 oe] 67)) 67 #[.slice none 0 0,.int .i64 0,.int .i64 0,.int .i64 0,.int .i64 0,.int .i64 0]
 simp only[World.size_alloc] at q1 q2
 simp only[rorC,List.map_cons,List.map_nil,List.cons_append,List.nil_append] at q0
 have b0:Below w.heap.size w (((w.alloc (.cells #[.int .i64 r0,.int .i64 r1,.int .i64 r2,.int .i64 r3,.int .i64 r4,.int .i64 r5,.int .i64 r6,.int .i64 r7,.int .i64 pc] 112)).alloc (.cells #[.slice none 0 0,.int .i64 od,.int .i64 oa,.int .i64 (one01 ow),.int .i64 (one01 os),.int .i64 oe] 67)).alloc (.cells #[.slice none 0 0,.int .i64 0,.int .i64 0,.int .i64 0,.int .i64 0,.int .i64 0] 67)):=(((Below.refl _ _).alloc (Nat.le_refl _) _).alloc (by simp) _).alloc (by simp;omega) _
 generalize one01 ow=WR at *
 generalize one01 os=ST at *
 go_enter Tryz.func47,Tryz.ntmps47
 go_upto_region 1 with fail
 generalize ((w.alloc (.cells #[.int .i64 r0,.int .i64 r1,.int .i64 r2,.int .i64 r3,.int .i64 r4,.int .i64 r5,.int .i64 r6,.int .i64 r7,.int .i64 pc] 112)).alloc (.cells #[.slice none 0 0,.int .i64 od,.int .i64 oa,.int .i64 WR,.int .i64 ST,.int .i64 oe] 67)).alloc (.cells #[.slice none 0 0,.int .i64 0,.int .i64 0,.int .i64 0,.int .i64 0,.int .i64 0] 67)=y at *
 replace q0:Rb y w.heap.size [r0,r1,r2,r3,r4,r5,r6,r7] pc:=q0
 have h2:=h.below b0
 obtain⟨aV,cV,eV⟩:=h.pv.2
 rw[eV] at HB
 have HV:=Lib.hid eV
 clear h eV
 refine wp_region_put 12 13 112 #[.int .i64 0,.int .i64 0,.int .i64 0,.int .i64 0,.int .i64 0,.int .i64 0,.int .i64 0,.int .i64 0,.int .i64 0] (fun W b=>put9 W b (.int .i64 s0) (.int .i64 s1) (.int .i64 s2) (.int .i64 s3) (.int .i64 s4) (.int .i64 s5) (.int .i64 s6) (.int .i64 s7) (.int .i64 PC)) (fun W b=>Rb W b [s0,s1,s2,s3,s4,s5,s6,s7] PC) (fun vs=>{ tmps:=#[.pointer (some ⟨Y.y,0,none⟩),.int .i64 (t:Int),.agg #[.int .i64 r0,.int .i64 r1,.int .i64 r2,.int .i64 r3,.int .i64 r4,.int .i64 r5,.int .i64 r6,.int .i64 r7,.int .i64 pc],.agg #[.slice none 0 0,.int .i64 od,.int .i64 oa,.int .i64 WR,.int .i64 ST,.int .i64 oe],undef,undef,.pointer (some ⟨w.heap.size,0,none⟩),.pointer (some ⟨w.heap.size+1,0,none⟩),.pointer (some ⟨w.heap.size+1+1,0,none⟩),vs 12,vs 14,vs 15,vs 16,vs 7,vs 0,vs 1,vs 2,vs 3,vs 4,vs 5,vs 6,vs 8,vs 9,vs 10,vs 11,undef,undef,undef,undef,undef,undef,undef,undef,undef,undef,undef,undef,undef,undef],defers:=[] }) (mixT [(6,(TupR (.agg #[.int .i64 s0,.int .i64 s1,.int .i64 s2,.int .i64 s3,.int .i64 s4,.int .i64 s5,.int .i64 s6,.int .i64 s7,.int .i64 PC]) ms D E)),(7,(TupR (.agg #[.int .i64 s0,.int .i64 s1,.int .i64 s2,.int .i64 s3,.int .i64 s4,.int .i64 s5,.int .i64 s6,.int .i64 s7,.int .i64 PC]) ms D E)),(9,(fun v W=>Lst .i64 3 W v ms)),(14,(fun v W=>Lst .i64 3 W v ms))] [.agg #[.int .i64 r0,.int .i64 r1,.int .i64 r2,.int .i64 r3,.int .i64 r4,.int .i64 r5,.int .i64 r6,.int .i64 r7,.int .i64 pc],.pointer (some ⟨Y.y,0,none⟩),.pointer (some ⟨Y.y,0,none⟩),.pointer (some ⟨Y.y,0,none⟩),.agg #[.slice aV k.l.length cV,.int .i64 k.lo,.int .i64 k.un],.int .i64 (t:Int),undef,undef,.agg #[.int .i64 s0,.int .i64 s1,.int .i64 s2,.int .i64 s3,.int .i64 s4,.int .i64 s5,.int .i64 s6,.int .i64 s7,.int .i64 PC],undef,.int .i64 D,.int .i64 E,undef,undef,undef,.int .i64 D,.int .i64 E]) ?ghm ?ghr ?ghns ?ghlen ?glit ?gst ?gst2 ?gd1 ?gbel ?gdn ?gnew ?gsto ?gops ?gdone
 case ghm=>kernel_rfl
 case ghr=>kernel_rfl
 case ghns=>kernel_rfl
 case ghlen=>rfl
 case glit=>intro vs;rfl
 case gst=>exact mixT_stable (by
  intro p hp
  simp only[List.mem_cons,List.not_mem_nil,or_false] at hp
  rcases hp with rfl | rfl | rfl | rfl
  ·exact fun v W W2 h hb=>TupR.below h hb
  ·exact fun v W W2 h hb=>TupR.below h hb
  ·exact fun v W W2 h hb=>lst_below h hb
  ·exact fun v W W2 h hb=>lst_below h hb)
 case gst2=>
  have hk:=mixT_keep (R:=fun W W2=>∃ b,Bk W b 112 #[.int .i64 0,.int .i64 0,.int .i64 0,.int .i64 0,.int .i64 0,.int .i64 0,.int .i64 0,.int .i64 0,.int .i64 0]∧W2=put9 W b (.int .i64 s0) (.int .i64 s1) (.int .i64 s2) (.int .i64 s3) (.int .i64 s4) (.int .i64 s5) (.int .i64 s6) (.int .i64 s7) (.int .i64 PC)) (ps:=[(6,(TupR (.agg #[.int .i64 s0,.int .i64 s1,.int .i64 s2,.int .i64 s3,.int .i64 s4,.int .i64 s5,.int .i64 s6,.int .i64 s7,.int .i64 PC]) ms D E)),(7,(TupR (.agg #[.int .i64 s0,.int .i64 s1,.int .i64 s2,.int .i64 s3,.int .i64 s4,.int .i64 s5,.int .i64 s6,.int .i64 s7,.int .i64 PC]) ms D E)),(9,(fun v W=>Lst .i64 3 W v ms)),(14,(fun v W=>Lst .i64 3 W v ms))]) (l:=[.agg #[.int .i64 r0,.int .i64 r1,.int .i64 r2,.int .i64 r3,.int .i64 r4,.int .i64 r5,.int .i64 r6,.int .i64 r7,.int .i64 pc],.pointer (some ⟨Y.y,0,none⟩),.pointer (some ⟨Y.y,0,none⟩),.pointer (some ⟨Y.y,0,none⟩),.agg #[.slice aV k.l.length cV,.int .i64 k.lo,.int .i64 k.un],.int .i64 (t:Int),undef,undef,.agg #[.int .i64 s0,.int .i64 s1,.int .i64 s2,.int .i64 s3,.int .i64 s4,.int .i64 s5,.int .i64 s6,.int .i64 s7,.int .i64 PC],undef,.int .i64 D,.int .i64 E,undef,undef,undef,.int .i64 D,.int .i64 E]) (by
   intro p hp
   simp only[List.mem_cons,List.not_mem_nil,or_false] at hp
   rcases hp with rfl | rfl | rfl | rfl
   ·rintro v W W2 ⟨m5,e5,h5⟩ ⟨b,hk,rfl⟩;exact⟨m5,e5,lst_put9 h5 hk (by decide) (.int .i64 s0) (.int .i64 s1) (.int .i64 s2) (.int .i64 s3) (.int .i64 s4) (.int .i64 s5) (.int .i64 s6) (.int .i64 s7) (.int .i64 PC)⟩
   ·rintro v W W2 ⟨m5,e5,h5⟩ ⟨b,hk,rfl⟩;exact⟨m5,e5,lst_put9 h5 hk (by decide) (.int .i64 s0) (.int .i64 s1) (.int .i64 s2) (.int .i64 s3) (.int .i64 s4) (.int .i64 s5) (.int .i64 s6) (.int .i64 s7) (.int .i64 PC)⟩
   ·rintro v W W2 h ⟨b,hk,rfl⟩;exact lst_put9 h hk (by decide) (.int .i64 s0) (.int .i64 s1) (.int .i64 s2) (.int .i64 s3) (.int .i64 s4) (.int .i64 s5) (.int .i64 s6) (.int .i64 s7) (.int .i64 PC)
   ·rintro v W W2 h ⟨b,hk,rfl⟩;exact lst_put9 h hk (by decide) (.int .i64 s0) (.int .i64 s1) (.int .i64 s2) (.int .i64 s3) (.int .i64 s4) (.int .i64 s5) (.int .i64 s6) (.int .i64 s7) (.int .i64 PC))
  exact fun i v W b h hb=>hk i v W _ h ⟨b,hb,rfl⟩
 case gd1=>exact fun W W2 b h hb=>Rb.below h hb
 case gbel=>exact fun W b hb h=>put9_below h hb (.int .i64 s0) (.int .i64 s1) (.int .i64 s2) (.int .i64 s3) (.int .i64 s4) (.int .i64 s5) (.int .i64 s6) (.int .i64 s7) (.int .i64 PC)
 case gdn=>exact fun W b h=>put9_bk h (.int .i64 s0) (.int .i64 s1) (.int .i64 s2) (.int .i64 s3) (.int .i64 s4) (.int .i64 s5) (.int .i64 s6) (.int .i64 s7) (.int .i64 PC)
 case gnew=>
  intro o ho vs W hW
  injection ho with ho
  subst ho
  refine leaves_free rfl ?_
  go_simp
  exact⟨⟨W.heap.size,rfl,hW.size,Rb.made W [0,0,0,0,0,0,0,0] 0⟩,(Below.refl _ _).alloc (Nat.le_refl _) _⟩
 case gsto=>
  intro o ho vs W b hW hd hb hk
  injection ho with ho
  subst ho
  have ev:vs 8=.agg #[.int .i64 s0,.int .i64 s1,.int .i64 s2,.int .i64 s3,.int .i64 s4,.int .i64 s5,.int .i64 s6,.int .i64 s7,.int .i64 PC]:=hd 8 (by decide) rfl
  have zf:=Bk.free hk
  obtain⟨z0,z1,z2,z3,z4,z5,z6,z7,z8⟩:=Rb.cells hk
  refine leavesIf_free rfl ?_
  clear hd
  go_simp
  rfl
 case gops=>
  refine⟨?_,?_,?_,?_,?_,?_,?_,?_,?_,?_,?_,?_,?_,?_,?_,?_,?_,trivial⟩
  ·intro _ vs W hW hd
   refine leaves_free rfl ?_
   have hq:=h2.below hW;have c0x:=hq.c0;rw[HV.out] at c0x;have c1x:=hq.c1;have c2x:=hq.c2;obtain⟨c0,c1,c2,c3,c4,c5,c6,c7,c8⟩:=(Rb.below q0 hW).cells;clear hq
   go_simp
   exact⟨rfl,Below.refl _ _⟩
  ·intro _ vs W hW hd
   refine leaves_free rfl ?_
   go_simp
   exact⟨rfl,Below.refl _ _⟩
  ·intro _ vs W hW hd
   refine leaves_free rfl ?_
   have e1:vs 1=.pointer (some ⟨Y.y,0,none⟩):=hd 1 (by decide) rfl
   go_simp
   exact⟨rfl,Below.refl _ _⟩
  ·intro _ vs W hW hd
   refine leaves_free rfl ?_
   have e2:vs 2=.pointer (some ⟨Y.y,0,none⟩):=hd 2 (by decide) rfl
   go_simp
   exact⟨rfl,Below.refl _ _⟩
  ·intro _ vs W hW hd
   refine leaves_free rfl ?_
   have e3:vs 3=.pointer (some ⟨Y.y,0,none⟩):=hd 3 (by decide) rfl
   have hq:=h2.below hW;have c0x:=hq.c0;rw[HV.out] at c0x;have c1x:=hq.c1;have c2x:=hq.c2;obtain⟨c0,c1,c2,c3,c4,c5,c6,c7,c8⟩:=(Rb.below q0 hW).cells;clear hq
   go_simp
   exact⟨rfl,Below.refl _ _⟩
  ·intro _ vs W hW hd
   refine leaves_free rfl ?_
   go_simp
   exact⟨rfl,Below.refl _ _⟩
  ·intro _ vs W hW hd
   refine leaves_free rfl ?_
   have e0:vs 0=.agg #[.int .i64 r0,.int .i64 r1,.int .i64 r2,.int .i64 r3,.int .i64 r4,.int .i64 r5,.int .i64 r6,.int .i64 r7,.int .i64 pc]:=hd 0 (by decide) rfl
   have e4:vs 4=.agg #[.slice aV k.l.length cV,.int .i64 k.lo,.int .i64 k.un]:=hd 4 (by decide) rfl
   have e5:vs 5=.int .i64 (t:Int):=hd 5 (by decide) rfl
   have HS:=Lib.hid (HB.out W (h2.below hW))
   clear hd
   go_simp
   refine HS.out.mono ?_
   rintro e z ⟨m5,he,hm5,hz⟩
   exact⟨_,he,⟨m5,rfl,hm5⟩,hz⟩
  ·intro _ vs W hW hd
   refine leaves_free rfl ?_
   obtain⟨m5,e6,hm5⟩:TupR (.agg #[.int .i64 s0,.int .i64 s1,.int .i64 s2,.int .i64 s3,.int .i64 s4,.int .i64 s5,.int .i64 s6,.int .i64 s7,.int .i64 PC]) ms D E (vs 6) W:=hd 6 (by decide) rfl
   clear hd
   go_simp
   exact⟨⟨m5,rfl,hm5⟩,Below.refl _ _⟩
  ·intro _ vs W hW hd
   refine leaves_free rfl ?_
   obtain⟨m5,e7,hm5⟩:TupR (.agg #[.int .i64 s0,.int .i64 s1,.int .i64 s2,.int .i64 s3,.int .i64 s4,.int .i64 s5,.int .i64 s6,.int .i64 s7,.int .i64 PC]) ms D E (vs 7) W:=hd 7 (by decide) rfl
   clear hd
   go_simp
   exact⟨rfl,Below.refl _ _⟩
  ·intro _ vs W hW hd
   refine leaves_free rfl ?_
   obtain⟨m5,e7,hm5⟩:TupR (.agg #[.int .i64 s0,.int .i64 s1,.int .i64 s2,.int .i64 s3,.int .i64 s4,.int .i64 s5,.int .i64 s6,.int .i64 s7,.int .i64 PC]) ms D E (vs 7) W:=hd 7 (by decide) rfl
   clear hd
   go_simp
   exact⟨hm5,Below.refl _ _⟩
  ·intro _ vs W hW hd
   refine leaves_free rfl ?_
   obtain⟨m5,e7,hm5⟩:TupR (.agg #[.int .i64 s0,.int .i64 s1,.int .i64 s2,.int .i64 s3,.int .i64 s4,.int .i64 s5,.int .i64 s6,.int .i64 s7,.int .i64 PC]) ms D E (vs 7) W:=hd 7 (by decide) rfl
   clear hd
   go_simp
   exact⟨rfl,Below.refl _ _⟩
  ·intro _ vs W hW hd
   refine leaves_free rfl ?_
   obtain⟨m5,e7,hm5⟩:TupR (.agg #[.int .i64 s0,.int .i64 s1,.int .i64 s2,.int .i64 s3,.int .i64 s4,.int .i64 s5,.int .i64 s6,.int .i64 s7,.int .i64 PC]) ms D E (vs 7) W:=hd 7 (by decide) rfl
   clear hd
   go_simp
   exact⟨rfl,Below.refl _ _⟩
  ·exact fun h=>absurd h (by decide)
  ·exact fun h=>absurd h (by decide)
  ·intro _ vs W hW hd
   refine leaves_free rfl ?_
   have h8:Lst .i64 3 W (vs 9) ms:=hd 9 (by decide) rfl
   clear hd
   go_simp
   exact⟨h8,Below.refl _ _⟩
  ·intro _ vs W hW hd
   refine leaves_free rfl ?_
   have e10:vs 10=.int .i64 D:=hd 10 (by decide) rfl
   go_simp
   exact⟨rfl,Below.refl _ _⟩
  ·intro _ vs W hW hd
   refine leaves_free rfl ?_
   have e11:vs 11=.int .i64 E:=hd 11 (by decide) rfl
   go_simp
   exact⟨rfl,Below.refl _ _⟩
 case gdone=>
  intro vs W b hW hf hgv hgb pb
  have f0:vs 0=.agg #[.int .i64 r0,.int .i64 r1,.int .i64 r2,.int .i64 r3,.int .i64 r4,.int .i64 r5,.int .i64 r6,.int .i64 r7,.int .i64 pc]:=hf 0 (by decide) rfl
  have f1:vs 1=.pointer (some ⟨Y.y,0,none⟩):=hf 1 (by decide) rfl
  have f2:vs 2=.pointer (some ⟨Y.y,0,none⟩):=hf 2 (by decide) rfl
  have f3:vs 3=.pointer (some ⟨Y.y,0,none⟩):=hf 3 (by decide) rfl
  have f4:vs 4=.agg #[.slice aV k.l.length cV,.int .i64 k.lo,.int .i64 k.un]:=hf 4 (by decide) rfl
  have f5:vs 5=.int .i64 (t:Int):=hf 5 (by decide) rfl
  have f8:vs 8=.agg #[.int .i64 s0,.int .i64 s1,.int .i64 s2,.int .i64 s3,.int .i64 s4,.int .i64 s5,.int .i64 s6,.int .i64 s7,.int .i64 PC]:=hf 8 (by decide) rfl
  have f10:vs 10=.int .i64 D:=hf 10 (by decide) rfl
  have f11:vs 11=.int .i64 E:=hf 11 (by decide) rfl
  have f15:vs 15=.int .i64 D:=hf 15 (by decide) rfl
  have f16:vs 16=.int .i64 E:=hf 16 (by decide) rfl
  simp only[f0,f1,f2,f3,f4,f5,f8,f10,f11,f15,f16]
  have hm2:Lst .i64 3 W (vs 14) ms:=hf 14 (by decide) rfl
  simp only[hgv]
  clear hf hgv f0 f1 f2 f3 f4 f5 f8 f10 f11 f15 f16
  generalize vs 14=m2 at *
  generalize vs 6=w6 at *
  generalize vs 7=w7 at *
  generalize vs 9=w9 at *
  have h3:=h2.below hW
  replace q1:=(hW.block _ q1.lt).trans q1
  replace q2:=(hW.block _ q2.lt).trans q2
  replace b0:=b0.trans (hW.mono b0.size)
  clear h2 q0 hW hgb
  obtain⟨gk,capk,ek,hk1,hk2,hkb,hkf,-⟩:=h3.klIs
  have cx6:=h3.c6
  rw[ek] at cx6
  obtain⟨u0,u1,u2,u3,u4,u5,u6,u7,pcu,ecu⟩:=h3.core_cons ht
  obtain⟨c0,c1,c2,c3,c4,c5,c6,c7,c8⟩:=h3.core ht ecu ek
  obtain⟨d0,d1,d2,d3,d4,d5,d6,d7,d8⟩:=pb.cells
  unfold maxLen at hk2
  go_upto_region 2 with fail
  go_region
  obtain⟨h4,st4⟩:=h3.put ht (c:=⟨[s0,s1,s2,s3,s4,s5,s6,s7],PC⟩) HE8.out ek
  have hw4:Within W (putW W gk (t * 9) (rorC [s0,s1,s2,s3,s4,s5,s6,s7] PC)) (fun i=>i=gk):=.of_grown (putW_only _ _ _) (by rintro i e;injection e with e;exact .inl e.symm)
  have hgl:gk < w.heap.size:=HX.out.lt (.inr (.inr (.inr (.inr (.inr (.inl hkb))))))
  have p1:=Bk.within q1 hw4 (by omega)
  have p2:=Bk.within q2 hw4 (by omega)
  have l4:=lst_within hm2 hw4 (by rintro b' rfl;obtain⟨cs0,hb0⟩:=own_bk h3.cores hkb;exact⟨_,_,hb0,by decide⟩)
  have st5:=(YStays.of_grown (n:=k.n) (Y:=Y) b0).then_ st4
  generalize hv4:(((((((((W.setCell ⟨gk,(t * 9),none⟩ (.int .i64 s0)).setCell ⟨gk,(t * 9)+1,none⟩ (.int .i64 s1)).setCell ⟨gk,(t * 9)+2,none⟩ (.int .i64 s2)).setCell ⟨gk,(t * 9)+3,none⟩ (.int .i64 s3)).setCell ⟨gk,(t * 9)+4,none⟩ (.int .i64 s4)).setCell ⟨gk,(t * 9)+5,none⟩ (.int .i64 s5)).setCell ⟨gk,(t * 9)+6,none⟩ (.int .i64 s6)).setCell ⟨gk,(t * 9)+7,none⟩ (.int .i64 s7)).setCell ⟨gk,(t * 9)+8,none⟩ (.int .i64 PC))=v4
  replace hv4:putW W gk (t * 9) (rorC [s0,s1,s2,s3,s4,s5,s6,s7] PC)=v4:=hv4
  rw[hv4] at h4 p1 p2 l4 st5
  clear hv4 hw4 h3 q1 q2 hm2 b0 st4 c0 c1 c2 c3 c4 c5 c6 c7 c8 d0 d1 d2 d3 d4 d5 d6 d7 d8 hkf pb cx6 hgl
  replace h4:=h4.below (Below.refl _ v4).drew
  replace p1:Bk v4.drew _ _ _:=p1
  replace p2:Bk v4.drew _ _ _:=p2
  replace l4:Lst .i64 3 v4.drew m2 ms:=l4
  replace st5:=st5.grown (Below.refl _ v4).drew
  generalize v4.drew=v5 at *
  obtain⟨a9,c9,e9,-⟩:=l4.is
  subst e9
  have hOwn:∀ i,Y.Own k.n i→i < w.heap.size:=fun i hi=>HX.out.lt hi
  have hw5:Within v5 (((v5.setCell ⟨w.heap.size+1,0,none⟩ (.slice a9 ms.length c9)).setCell ⟨w.heap.size+1,1,none⟩ (.int .i64 D)).setCell ⟨w.heap.size+1,5,none⟩ (.int .i64 E)) (fun i=>i=w.heap.size+1):=(((Within.refl v5 (fun i=>i=w.heap.size+1)).put _ 0 _ (.inl rfl)).put _ 1 _ (.inl rfl)).put _ 5 _ (.inl rfl)
  have p1':Bk (((v5.setCell ⟨w.heap.size+1,0,none⟩ (.slice a9 ms.length c9)).setCell ⟨w.heap.size+1,1,none⟩ (.int .i64 D)).setCell ⟨w.heap.size+1,5,none⟩ (.int .i64 E)) (w.heap.size+1) 67 #[.slice a9 ms.length c9,.int .i64 D,.int .i64 oa,.int .i64 WR,.int .i64 ST,.int .i64 E]:=((p1.put 0 (.slice a9 ms.length c9)).put 1 (.int .i64 D)).put 5 (.int .i64 E)
  have p2':=p2.within hw5 (by omega)
  have h6:=h4.kept hw5 (fun i hi e=>by have:=hOwn i hi;omega)
  have st6:=st5.far' hw5 (fun i e=>by omega)
  have l6:=lst_within l4 hw5 (by rintro b' rfl;exact⟨_,_,p1,by decide⟩)
  obtain⟨y0,y1,y2,y3,y4,y5⟩:v5.cell? ⟨w.heap.size+1,0,none⟩=some (.slice none 0 0)∧v5.cell? ⟨w.heap.size+1,1,none⟩=some (.int .i64 od)∧v5.cell? ⟨w.heap.size+1,2,none⟩=some (.int .i64 oa)∧v5.cell? ⟨w.heap.size+1,3,none⟩=some (.int .i64 WR)∧v5.cell? ⟨w.heap.size+1,4,none⟩=some (.int .i64 ST)∧v5.cell? ⟨w.heap.size+1,5,none⟩=some (.int .i64 oe):=⟨p1.cell 0,p1.cell 1,p1.cell 2,p1.cell 3,p1.cell 4,p1.cell 5⟩
  have zf:=Bk.free p1
  go_upto_region 4 with fail
  generalize ((v5.setCell ⟨w.heap.size+1,0,none⟩ (.slice a9 ms.length c9)).setCell ⟨w.heap.size+1,1,none⟩ (.int .i64 D)).setCell ⟨w.heap.size+1,5,none⟩ (.int .i64 E)=v6 at *
  clear y0 y1 y2 y3 y4 y5 zf hw5 p1 p2 h4 st5 l4
  obtain⟨y0,y1,y2,y3,y4,y5⟩:v6.cell? ⟨w.heap.size+1,0,none⟩=some (.slice a9 ms.length c9)∧v6.cell? ⟨w.heap.size+1,1,none⟩=some (.int .i64 D)∧v6.cell? ⟨w.heap.size+1,2,none⟩=some (.int .i64 oa)∧v6.cell? ⟨w.heap.size+1,3,none⟩=some (.int .i64 WR)∧v6.cell? ⟨w.heap.size+1,4,none⟩=some (.int .i64 ST)∧v6.cell? ⟨w.heap.size+1,5,none⟩=some (.int .i64 E):=⟨p1'.cell 0,p1'.cell 1,p1'.cell 2,p1'.cell 3,p1'.cell 4,p1'.cell 5⟩
  obtain⟨x0,x1,x2,x3,x4,x5⟩:v6.cell? ⟨w.heap.size+1+1,0,none⟩=some (.slice none 0 0)∧v6.cell? ⟨w.heap.size+1+1,1,none⟩=some (.int .i64 0)∧v6.cell? ⟨w.heap.size+1+1,2,none⟩=some (.int .i64 0)∧v6.cell? ⟨w.heap.size+1+1,3,none⟩=some (.int .i64 0)∧v6.cell? ⟨w.heap.size+1+1,4,none⟩=some (.int .i64 0)∧v6.cell? ⟨w.heap.size+1+1,5,none⟩=some (.int .i64 0):=⟨p2'.cell 0,p2'.cell 1,p2'.cell 2,p2'.cell 3,p2'.cell 4,p2'.cell 5⟩
  have zf:=Bk.free p2'
  have o1:=put6_bk p2' (.slice a9 ms.length c9) (.int .i64 D) (.int .i64 oa) (.int .i64 WR) (.int .i64 ST) (.int .i64 E)
  have o2:=put6_within (y:=v6) (g:=w.heap.size+1+1) (.slice a9 ms.length c9) (.int .i64 D) (.int .i64 oa) (.int .i64 WR) (.int .i64 ST) (.int .i64 E)
  have l7:=lst_within l6 o2 (by rintro b' rfl;exact⟨_,_,p2',by decide⟩)
  have h7:=h6.kept o2 (fun i hi e=>by have:=hOwn i hi;omega)
  have st7:=st6.far' o2 (fun i e=>by omega)
  clear h6 st6 l6
  go_wp2
  generalize hv9:((((((v6.setCell ⟨w.heap.size+1+1,0,none⟩ (.slice a9 ms.length c9)).setCell ⟨w.heap.size+1+1,1,none⟩ (.int .i64 D)).setCell ⟨w.heap.size+1+1,2,none⟩ (.int .i64 oa)).setCell ⟨w.heap.size+1+1,3,none⟩ (.int .i64 WR)).setCell ⟨w.heap.size+1+1,4,none⟩ (.int .i64 ST)).setCell ⟨w.heap.size+1+1,5,none⟩ (.int .i64 E))=v9
  replace hv9:put6 v6 (w.heap.size+1+1) (.slice a9 ms.length c9) (.int .i64 D) (.int .i64 oa) (.int .i64 WR) (.int .i64 ST) (.int .i64 E)=v9:=hv9
  rw[hv9] at o1 l7 h7 st7
  clear hv9 o2 p1' p2' y0 y1 y2 y3 y4 y5 x0 x1 x2 x3 x4 x5 zf
  obtain⟨o0,o1,o2,o3,o4,o5⟩:v9.cell? ⟨w.heap.size+1+1,0,none⟩=some (.slice a9 ms.length c9)∧v9.cell? ⟨w.heap.size+1+1,1,none⟩=some (.int .i64 D)∧v9.cell? ⟨w.heap.size+1+1,2,none⟩=some (.int .i64 oa)∧v9.cell? ⟨w.heap.size+1+1,3,none⟩=some (.int .i64 WR)∧v9.cell? ⟨w.heap.size+1+1,4,none⟩=some (.int .i64 ST)∧v9.cell? ⟨w.heap.size+1+1,5,none⟩=some (.int .i64 E):=⟨o1.cell 0,o1.cell 1,o1.cell 2,o1.cell 3,o1.cell 4,o1.cell 5⟩
  exact bodyPost_ret (v:=.agg #[.slice a9 ms.length c9,.int .i64 D,.int .i64 oa,.int .i64 WR,.int .i64 ST,.int .i64 E]) (by simp[results,Tryz.results47,go_sem,o0,o1,o2,o3,o4,o5]) rfl ⟨.slice a9 ms.length c9,Y,(by rw[HOT.out]),l7,h7,st7⟩
end
structure OkSv (c:Prg)(zs init r7:List Int)(each threads:Int):Prop where
 rz:RightZ zs
 few:tot zs≤8192
 len:init.length=tot zs
 n1:1≤threads
 n64:threads≤64
 e0:0≤each
 e8:each≤8
 rl:(r7.length:Int)=threads
 code:prgB c=true
section
variable {w w':World}{Y:YP}{k:Lk}{m:Mc}
theorem came_laid {q:Nat}{t:TypeId}{cs:Array Value}{v:Value}{r:Mc×Ot}{Y':YP}{W W':World}(hl:Lst .i64 3 W v r.2.ms)(h:Ey W Y' k r.1)(s:YStays w k.n Y W Y')(hq:Bk W q t cs)(ht:t≠3)(hw:Within W W' (fun i=>i=q))(hn:w.heap.size≤q)(hfar:∀ i,Y'.Own k.n i→i≠q):
 CameY w Y k r (.returned (otR v r.2)) W':=
 ⟨v,Y',rfl,lst_within hl hw (by rintro b' rfl;exact⟨_,_,hq,ht⟩),h.kept hw (fun i hi e=>hfar i hi e),s.far' hw (fun i e=>by omega)⟩
set_option maxHeartbeats 2000000 in
theorem yBegin (h:Ey w Y k m)(t:Nat)(ht:t < k.n)(un:Bool):
 Calls Tryz.prog 23 #[.pointer (some ⟨Y.y,0,none⟩),.int .i64 t,.int .i64 (one01 un)] w (CameY w Y k (beginM k m t un)):=by
 have hnn:=h.lk.n64
 obtain⟨r0,r1,r2,r3,r4,r5,r6,r7,pc,ec⟩:=h.core_cons ht
 have hc8:Eight [r0,r1,r2,r3,r4,r5,r6,r7]:=by have:=h.mc.cs t ht;rw[ec] at this;exact this
 have HRun:Hid (∀ W,Ey W Y k m→Calls Tryz.prog 47 #[.pointer (some ⟨Y.y,0,none⟩),.int .i64 t,.agg #[.int .i64 r0,.int .i64 r1,.int .i64 r2,.int .i64 r3,.int .i64 r4,.int .i64 r5,.int .i64 r6,.int .i64 r7,.int .i64 (if un then k.un else k.lo)],.agg #[.slice none 0 0,.int .i64 0,.int .i64 (-1),.int .i64 0,.int .i64 0,.int .i64 0]] W (CameY W Y k (beginM k m t un))):=Lib.hid fun W hW=>by
  have:=yRun hW t ht ⟨[r0,r1,r2,r3,r4,r5,r6,r7],if un then k.un else k.lo⟩ hc8 ⟨[],0,-1,false,false,0⟩ _ rfl
  unfold beginM
  rw[ec]
  exact this
 obtain⟨BB,hBB⟩:∃ B,B=beginM k m t un:=⟨_,rfl⟩
 rw[←hBB] at HRun ⊢
 clear hBB
 have HX:=Lib.hid h
 have q0:=Bk.made w 67 #[.slice none 0 0,.int .i64 0,.int .i64 0,.int .i64 0,.int .i64 0,.int .i64 0]
 have b0:Below w.heap.size w (w.alloc (.cells #[.slice none 0 0,.int .i64 0,.int .i64 0,.int .i64 0,.int .i64 0,.int .i64 0] 67)):=(Below.refl _ _).alloc (Nat.le_refl _) _
 have s0:(w.alloc (.cells #[.slice none 0 0,.int .i64 0,.int .i64 0,.int .i64 0,.int .i64 0,.int .i64 0] 67)).heap.size=w.heap.size+1:=by simp
 go_enter Tryz.func23,Tryz.ntmps23
 go_upto_region 1 with fail
 generalize w.alloc (.cells #[.slice none 0 0,.int .i64 0,.int .i64 0,.int .i64 0,.int .i64 0,.int .i64 0] 67)=y at *
 have h2:=h.below b0
 obtain⟨gk,capk,ek,hk1,hk2,hkb,hkf,-⟩:=h2.klIs
 unfold maxLen at hk2
 have cx6:=h2.c6
 rw[ek] at cx6
 obtain⟨c0,c1,c2,c3,c4,c5,c6,c7,c8⟩:=h2.core ht ec ek
 go_upto_region 2 with fail
 have q1:=Rb.made y [r0,r1,r2,r3,r4,r5,r6,r7] pc
 rw[s0] at q1
 simp only[rorC,List.map_cons,List.map_nil,List.cons_append,List.nil_append] at q1
 have b1:Below y.heap.size y (y.alloc (.cells #[.int .i64 r0,.int .i64 r1,.int .i64 r2,.int .i64 r3,.int .i64 r4,.int .i64 r5,.int .i64 r6,.int .i64 r7,.int .i64 pc] 112)):=(Below.refl _ _).alloc (Nat.le_refl _) _
 replace q0:=(b1.block _ q0.lt).trans q0
 have h3:=h2.below b1
 replace b0:=b0.trans (b1.mono b0.size)
 have HS0:=Lib.hid s0
 clear c0 c1 c2 c3 c4 c5 c6 c7 c8 cx6 h2 b1 hkf s0 h
 generalize y.alloc (.cells #[.int .i64 r0,.int .i64 r1,.int .i64 r2,.int .i64 r3,.int .i64 r4,.int .i64 r5,.int .i64 r6,.int .i64 r7,.int .i64 pc] 112)=z at *
 have hOwn:Hid (∀ i,Y.Own k.n i→i < w.heap.size):=Lib.hid fun i hi=>HX.out.lt hi
 have k1:=h3.c1
 have k2:=h3.c2
 obtain⟨c0,c1,c2,c3,c4,c5,c6,c7,c8⟩:=Rb.cells q1
 have zf:=Bk.free q1
 have ne1:Y.y≠w.heap.size+1:=by have:=hOwn.out _ (.inl rfl);omega
 have q2:Rb (z.setCell ⟨w.heap.size+1,8,none⟩ (.int .i64 k.lo)) (w.heap.size+1) [r0,r1,r2,r3,r4,r5,r6,r7] k.lo:=Rb.setpc q1 rfl k.lo
 have hw1:Within z (z.setCell ⟨w.heap.size+1,8,none⟩ (.int .i64 k.lo)) (fun i=>i=w.heap.size+1):=(Within.refl z (fun i=>i=w.heap.size+1)).put _ _ _ (.inl rfl)
 have h4:=h3.kept hw1 (fun i hi e=>by have:=hOwn.out i hi;omega)
 have q02:=Bk.within q0 hw1 (by omega)
 have b2:=b0.setCell (p:=⟨w.heap.size+1,8,none⟩) (by show w.heap.size≤w.heap.size+1;omega) (.int .i64 k.lo)
 cases un with
 | false=>
  simp only[Bool.false_eq_true,if_false] at HRun
  unfold one01
  simp only[Bool.false_eq_true,if_false]
  go_upto_region 5 with fail
  clear c0 c1 c2 c3 c4 c5 c6 c7 c8 zf k1 k2 h3 q0 b0 q1 hw1
  generalize z.setCell ⟨w.heap.size+1,8,none⟩ (.int .i64 k.lo)=v at *
  obtain⟨c0,c1,c2,c3,c4,c5,c6,c7,c8⟩:=Rb.cells q2
  have hR:=HRun.out v h4
  have st:=YStays.of_grown (n:=k.n) (Y:=Y) b2
  have hf0:∀ i,Y.Own k.n i→i≠w.heap.size:=fun i hi e=>by have:=hOwn.out _ hi;omega
  have hlt:w.heap.size < v.heap.size:=by have:=Bk.lt q2;omega
  go_wp2_with fail
  refine hR.mono ?_
  rintro e v5 ⟨mv,Y',rfl,hl5,h5,hs5⟩
  obtain⟨a9,c9,e9,-⟩:=hl5.is
  subst e9
  have q5:=Bk.within q02 hs5.1 (fun e=>hf0 _ e rfl)
  have st5:=st.then_ hs5
  have hfar:∀ i,Y'.Own k.n i→i≠w.heap.size:=fun i hi e=>by
   rcases hs5.2.1 i hi with e2 | e2
   ·exact hf0 i e2 e
   ·omega
  unfold otR
  obtain⟨x0,x1,x2,x3,x4,x5⟩:v5.cell? ⟨w.heap.size,0,none⟩=some (.slice none 0 0)∧v5.cell? ⟨w.heap.size,1,none⟩=some (.int .i64 0)∧v5.cell? ⟨w.heap.size,2,none⟩=some (.int .i64 0)∧v5.cell? ⟨w.heap.size,3,none⟩=some (.int .i64 0)∧v5.cell? ⟨w.heap.size,4,none⟩=some (.int .i64 0)∧v5.cell? ⟨w.heap.size,5,none⟩=some (.int .i64 0):=⟨q5.cell 0,q5.cell 1,q5.cell 2,q5.cell 3,q5.cell 4,q5.cell 5⟩
  have zf:=Bk.free q5
  have o1:=put6_bk q5 (.slice a9 BB.2.ms.length c9) (.int .i64 BB.2.done) (.int .i64 BB.2.addr) (.int .i64 (one01 BB.2.wrote)) (.int .i64 (one01 BB.2.stay)) (.int .i64 BB.2.e)
  have o2:=put6_within (y:=v5) (g:=w.heap.size) (.slice a9 BB.2.ms.length c9) (.int .i64 BB.2.done) (.int .i64 BB.2.addr) (.int .i64 (one01 BB.2.wrote)) (.int .i64 (one01 BB.2.stay)) (.int .i64 BB.2.e)
  have hC:=Lib.hid (came_laid (Y:=Y) (r:=BB) hl5 h5 st5 q5 (by decide) o2 (Nat.le_refl _) hfar)
  clear q02 hl5 h5 hs5 st5 st o2 hR q2 c0 c1 c2 c3 c4 c5 c6 c7 c8 h4 HRun
  go_wp2_with (refine bodyPost_ret (v:=.agg #[.slice a9 BB.2.ms.length c9,.int .i64 BB.2.done,.int .i64 BB.2.addr,.int .i64 (one01 BB.2.wrote),.int .i64 (one01 BB.2.stay),.int .i64 BB.2.e]) (w:=put6 v5 w.heap.size (.slice a9 BB.2.ms.length c9) (.int .i64 BB.2.done) (.int .i64 BB.2.addr) (.int .i64 (one01 BB.2.wrote)) (.int .i64 (one01 BB.2.stay)) (.int .i64 BB.2.e)) ?hres rfl ?hpost)
  case hpost=>exact hC.out
  case hres=>
   generalize put6 v5 w.heap.size (.slice a9 BB.2.ms.length c9) (.int .i64 BB.2.done) (.int .i64 BB.2.addr) (.int .i64 (one01 BB.2.wrote)) (.int .i64 (one01 BB.2.stay)) (.int .i64 BB.2.e)=v9 at *
   obtain⟨o0,o1,o2,o3,o4,o5⟩:v9.cell? ⟨w.heap.size,0,none⟩=some (.slice a9 BB.2.ms.length c9)∧v9.cell? ⟨w.heap.size,1,none⟩=some (.int .i64 BB.2.done)∧v9.cell? ⟨w.heap.size,2,none⟩=some (.int .i64 BB.2.addr)∧v9.cell? ⟨w.heap.size,3,none⟩=some (.int .i64 (one01 BB.2.wrote))∧v9.cell? ⟨w.heap.size,4,none⟩=some (.int .i64 (one01 BB.2.stay))∧v9.cell? ⟨w.heap.size,5,none⟩=some (.int .i64 BB.2.e):=⟨o1.cell 0,o1.cell 1,o1.cell 2,o1.cell 3,o1.cell 4,o1.cell 5⟩
   simp[results,Tryz.results23,go_sem,o0,o1,o2,o3,o4,o5]
 | true=>
  simp only[if_true] at HRun
  unfold one01
  simp only[if_true]
  have zf2:=Bk.free q2
  go_upto_region 4 with fail
  clear c0 c1 c2 c3 c4 c5 c6 c7 c8 zf k1 k2 h3 q0 b0 q1 hw1
  generalize z.setCell ⟨w.heap.size+1,8,none⟩ (.int .i64 k.lo)=z2 at *
  have k2:=h4.c2
  obtain⟨c0,c1,c2,c3,c4,c5,c6,c7,c8⟩:=Rb.cells q2
  have q3:Rb (z2.setCell ⟨w.heap.size+1,8,none⟩ (.int .i64 k.un)) (w.heap.size+1) [r0,r1,r2,r3,r4,r5,r6,r7] k.un:=Rb.setpc q2 rfl k.un
  have hw1:Within z2 (z2.setCell ⟨w.heap.size+1,8,none⟩ (.int .i64 k.un)) (fun i=>i=w.heap.size+1):=(Within.refl z2 (fun i=>i=w.heap.size+1)).put _ _ _ (.inl rfl)
  have h5:=h4.kept hw1 (fun i hi e=>by have:=hOwn.out i hi;omega)
  replace q02:=Bk.within q02 hw1 (by omega)
  replace b2:=b2.setCell (p:=⟨w.heap.size+1,8,none⟩) (by show w.heap.size≤w.heap.size+1;omega) (.int .i64 k.un)
  go_upto_region 5 with fail
  clear c0 c1 c2 c3 c4 c5 c6 c7 c8 zf2 k2 h4 q2 hw1
  generalize z2.setCell ⟨w.heap.size+1,8,none⟩ (.int .i64 k.un)=v at *
  obtain⟨c0,c1,c2,c3,c4,c5,c6,c7,c8⟩:=Rb.cells q3
  have hR:=HRun.out v h5
  have st:=YStays.of_grown (n:=k.n) (Y:=Y) b2
  have hf0:∀ i,Y.Own k.n i→i≠w.heap.size:=fun i hi e=>by have:=hOwn.out _ hi;omega
  have hlt:w.heap.size < v.heap.size:=by have:=Bk.lt q3;omega
  have h4:=h5
  have q2:=q3
  clear h5 q3
  go_wp2_with fail
  refine hR.mono ?_
  rintro e v5 ⟨mv,Y',rfl,hl5,h5,hs5⟩
  obtain⟨a9,c9,e9,-⟩:=hl5.is
  subst e9
  have q5:=Bk.within q02 hs5.1 (fun e=>hf0 _ e rfl)
  have st5:=st.then_ hs5
  have hfar:∀ i,Y'.Own k.n i→i≠w.heap.size:=fun i hi e=>by
   rcases hs5.2.1 i hi with e2 | e2
   ·exact hf0 i e2 e
   ·omega
  unfold otR
  obtain⟨x0,x1,x2,x3,x4,x5⟩:v5.cell? ⟨w.heap.size,0,none⟩=some (.slice none 0 0)∧v5.cell? ⟨w.heap.size,1,none⟩=some (.int .i64 0)∧v5.cell? ⟨w.heap.size,2,none⟩=some (.int .i64 0)∧v5.cell? ⟨w.heap.size,3,none⟩=some (.int .i64 0)∧v5.cell? ⟨w.heap.size,4,none⟩=some (.int .i64 0)∧v5.cell? ⟨w.heap.size,5,none⟩=some (.int .i64 0):=⟨q5.cell 0,q5.cell 1,q5.cell 2,q5.cell 3,q5.cell 4,q5.cell 5⟩
  have zf:=Bk.free q5
  have o1:=put6_bk q5 (.slice a9 BB.2.ms.length c9) (.int .i64 BB.2.done) (.int .i64 BB.2.addr) (.int .i64 (one01 BB.2.wrote)) (.int .i64 (one01 BB.2.stay)) (.int .i64 BB.2.e)
  have o2:=put6_within (y:=v5) (g:=w.heap.size) (.slice a9 BB.2.ms.length c9) (.int .i64 BB.2.done) (.int .i64 BB.2.addr) (.int .i64 (one01 BB.2.wrote)) (.int .i64 (one01 BB.2.stay)) (.int .i64 BB.2.e)
  have hC:=Lib.hid (came_laid (Y:=Y) (r:=BB) hl5 h5 st5 q5 (by decide) o2 (Nat.le_refl _) hfar)
  clear q02 hl5 h5 hs5 st5 st o2 hR q2 c0 c1 c2 c3 c4 c5 c6 c7 c8 h4 HRun
  go_wp2_with (refine bodyPost_ret (v:=.agg #[.slice a9 BB.2.ms.length c9,.int .i64 BB.2.done,.int .i64 BB.2.addr,.int .i64 (one01 BB.2.wrote),.int .i64 (one01 BB.2.stay),.int .i64 BB.2.e]) (w:=put6 v5 w.heap.size (.slice a9 BB.2.ms.length c9) (.int .i64 BB.2.done) (.int .i64 BB.2.addr) (.int .i64 (one01 BB.2.wrote)) (.int .i64 (one01 BB.2.stay)) (.int .i64 BB.2.e)) ?hres rfl ?hpost)
  case hpost=>exact hC.out
  case hres=>
   generalize put6 v5 w.heap.size (.slice a9 BB.2.ms.length c9) (.int .i64 BB.2.done) (.int .i64 BB.2.addr) (.int .i64 (one01 BB.2.wrote)) (.int .i64 (one01 BB.2.stay)) (.int .i64 BB.2.e)=v9 at *
   obtain⟨o0,o1,o2,o3,o4,o5⟩:v9.cell? ⟨w.heap.size,0,none⟩=some (.slice a9 BB.2.ms.length c9)∧v9.cell? ⟨w.heap.size,1,none⟩=some (.int .i64 BB.2.done)∧v9.cell? ⟨w.heap.size,2,none⟩=some (.int .i64 BB.2.addr)∧v9.cell? ⟨w.heap.size,3,none⟩=some (.int .i64 (one01 BB.2.wrote))∧v9.cell? ⟨w.heap.size,4,none⟩=some (.int .i64 (one01 BB.2.stay))∧v9.cell? ⟨w.heap.size,5,none⟩=some (.int .i64 BB.2.e):=⟨o1.cell 0,o1.cell 1,o1.cell 2,o1.cell 3,o1.cell 4,o1.cell 5⟩
   simp[results,Tryz.results23,go_sem,o0,o1,o2,o3,o4,o5]
end
theorem cells_right {w w1:World}{zs:List Int}{e:Ending}(h:CellsPost w zs e w1)(hz:RightZ zs)(hf:tot zs≤8192):w.grownBy w1 none∧∃ va vc,e=.returned (.tuple #[.slice va (tot zs) vc,.bool true]):=by
 obtain⟨hg,⟨_,v,rfl,hc⟩ | ⟨hn,rfl⟩⟩:=h
 ·refine⟨hg,?_⟩
  obtain⟨va,vc,rfl,_⟩:=hc.is
  refine⟨va,vc,?_⟩
  rw[cels_len,show decide ((tot zs:Int)≤8192)=true by simp;omega]
 ·exact absurd hz hn
set_option maxHeartbeats 4000000 in
theorem rRightT {base:Nat}{w:World}{v:Value}{c:Prg}{zs init r7:List Int}{each t:Int}(hv:Rv base w v c zs init r7 each)(hw:∀ i∈c.l,i.Wf)(hk:OkSv c zs init r7 each t):
 Calls Tryz.prog 15 #[v,.int .i64 t] w fun e w'=>e=.returned (.bool true)∧Below w.heap.size w w':=by
 obtain⟨sl,aS,cS,aI,cI,aR,cR,rfl,ho,hgS,hgI,hgR,hm1,hm2,hm3⟩:=hv
 obtain⟨aL,cL,rfl,_⟩:=own_is ho
 have q0:=Bk.made w 37 #[.slice aL c.l.length cL,.int .i64 c.lo,.int .i64 c.un,.slice aS zs.length cS,.slice aI init.length cI,.int .i64 each,.slice aR r7.length cR]
 have b0:Below w.heap.size w (w.alloc (.cells #[.slice aL c.l.length cL,.int .i64 c.lo,.int .i64 c.un,.slice aS zs.length cS,.slice aI init.length cI,.int .i64 each,.slice aR r7.length cR] 37)):=(Below.refl _ _).alloc (Nat.le_refl _) _
 have HKK:=Lib.hid hk
 go_enter Tryz.func15,Tryz.ntmps15
 go_upto_region 1 with fail
 have hpv:=fun W (hW:Below w.heap.size w W)=>own_pv (own_below ho hW)
 have HPV:=Lib.hid hpv
 clear hpv ho hk
 generalize w.alloc (.cells #[.slice aL c.l.length cL,.int .i64 c.lo,.int .i64 c.un,.slice aS zs.length cS,.slice aI init.length cI,.int .i64 each,.slice aR r7.length cR] 37)=y at *
 have hC:=rCells (hgS.below b0) hm1 cS
 have y1:y.cell? ⟨w.heap.size,3,none⟩=some (.slice aS zs.length cS):=q0.cell 3
 go_wp2_with fail
 refine hC.mono ?_
 intro e z hcp
 have hrz:=HKK.out.rz
 have hfew:=HKK.out.few
 have hlen:=HKK.out.len
 have h2:=HKK.out.n1
 have h3:=HKK.out.n64
 have h4:=HKK.out.e0
 have h5:=HKK.out.e8
 have h6:=HKK.out.rl
 have hpb:=HKK.out.code
 obtain⟨hgr,va,vc,rfl⟩:=cells_right hcp hrz hfew
 have hz:=below_of_grown hgr
 have q1:=(hz.block _ q0.lt).trans q0
 have b1:=b0.trans (hz.mono b0.size)
 clear hC hcp hgr hz q0 b0 y1
 have HB:=Lib.hid b1
 unfold maxLen at hm1 hm2 hm3
 obtain⟨f0,f1,f2,f3,f4,f5,f6⟩:z.cell? ⟨w.heap.size,0,none⟩=some (.slice aL c.l.length cL)∧z.cell? ⟨w.heap.size,1,none⟩=some (.int .i64 c.lo)∧z.cell? ⟨w.heap.size,2,none⟩=some (.int .i64 c.un)∧z.cell? ⟨w.heap.size,3,none⟩=some (.slice aS zs.length cS)∧z.cell? ⟨w.heap.size,4,none⟩=some (.slice aI init.length cI)∧z.cell? ⟨w.heap.size,5,none⟩=some (.int .i64 each)∧z.cell? ⟨w.heap.size,6,none⟩=some (.slice aR r7.length cR):=⟨Bk.cell q1 0,Bk.cell q1 1,Bk.cell q1 2,Bk.cell q1 3,Bk.cell q1 4,Bk.cell q1 5,Bk.cell q1 6⟩
 clear q1 b1 hrz
 have i1:((tot zs:Int)==(init.length:Int))=true:=by simp;omega
 have i6:((r7.length:Int)==t)=true:=by simpa using h6
 have HH:=Lib.hid (And.intro hlen h6)
 clear hlen h6
 have hRP:=rRightP c _ z (HPV.out z HB.out) hw
 rw[hpb] at hRP
 go_wp2_with fail
 refine hRP.mono ?_
 rintro e z2 ⟨rfl,hz2⟩
 have HB2:=Lib.hid (HB.out.trans (hz2.mono HB.out.size))
 clear hz2 f0 f1 f2 f3 f4 f5 f6
 go_wp2
 go_ret
 exact⟨rfl,HB2.out⟩
def StepOk (k:Lk):Prop:=∀ (w:World) (Y:YP) (m:Mc) (t:Nat) (L:Int),Ey w Y k m→t < k.n→
 Calls Tryz.prog 25 #[.pointer (some ⟨Y.y,0,none⟩),.int .i64 t,.int .i64 L] w (CameY w Y k (stepM k m t (decide (L≠0))))
structure SI (w:World)(Y0:YP)(k:Lk)(xs:List Int)(pc:Int)(Y:YP)(m:Mc)(W:World):Prop where
 ey:Ey W Y k m
 st:YStays w k.n Y0 W Y
 q:Bk W w.heap.size 67 #[.slice none 0 0,.int .i64 0,.int .i64 0,.int .i64 0,.int .i64 0,.int .i64 0]
 c:Rb W (w.heap.size+1) xs pc
 tr:Bk W (w.heap.size+1+1) 67 #[.slice none 0 0,.int .i64 (-1),.int .i64 (-1),.int .i64 0,.int .i64 0,.int .i64 11]
 far:∀ i,Y.Own k.n i→i < w.heap.size∨w.heap.size+4≤i
section
variable {w W W':World}{Y0 Y:YP}{k:Lk}{m:Mc}{xs:List Int}{pc:Int}
theorem SI.below (h:SI w Y0 k xs pc Y m W)(hb:Below W.heap.size W W'):SI w Y0 k xs pc Y m W':=
 ⟨h.ey.below hb,h.st.grown hb,(hb.block _ h.q.lt).trans h.q,h.c.below hb,(hb.block _ h.tr.lt).trans h.tr,h.far⟩
theorem SI.off (h:SI w Y0 k xs pc Y m W){b:Nat}(hW:Within W W' (fun i=>i=b))(h1:w.heap.size+1 < b)(h2:b≠w.heap.size+1+1)(h3:∀ i,Y.Own k.n i→i≠b):SI w Y0 k xs pc Y m W':=
 ⟨h.ey.kept hW (fun i hi e=>h3 i hi e),h.st.far' hW (fun i e=>by omega),h.q.within hW (by omega),Bk.within h.c hW (by omega),h.tr.within hW (by omega),h.far⟩
theorem SI.core {ys:List Int}{pc':Int}(h:SI w Y0 k xs pc Y m W)(hW:Within W W' (fun i=>i=w.heap.size+1))(hc:Rb W' (w.heap.size+1) ys pc'):SI w Y0 k ys pc' Y m W':=
 ⟨h.ey.kept hW (fun i hi e=>by have:=h.far i hi;omega),h.st.far' hW (fun i e=>by omega),h.q.within hW (by omega),hc,h.tr.within hW (by omega),h.far⟩
theorem SI.reg (h:SI w Y0 k xs pc Y m W)(h8:xs.length=8){d:Nat}(hd:d < 8)(v:Int):SI w Y0 k (xs.set d v) pc Y m (W.setCell ⟨w.heap.size+1,d,none⟩ (.int .i64 v)):=
 h.core ((Within.refl _ (fun i=>i=w.heap.size+1)).put _ _ _ (.inl rfl)) (h.c.set h8 hd v)
theorem SI.place (h:SI w Y0 k xs pc Y m W)(h8:xs.length=8)(v:Int):SI w Y0 k xs v Y m (W.setCell ⟨w.heap.size+1,8,none⟩ (.int .i64 v)):=
 h.core ((Within.refl _ (fun i=>i=w.heap.size+1)).put _ _ _ (.inl rfl)) (h.c.setpc h8 v)
theorem reg_within (W:World)(g o:Nat)(v:Value):Within W (W.setCell ⟨g,o,none⟩ v) (fun i=>i=g):=(Within.refl _ (fun i=>i=g)).put _ _ _ (.inl rfl)
theorem drewN_below (x:World)(n:Nat):Below x.heap.size x (x.drewN n):=⟨rfl,rfl,rfl,Nat.le_refl _,fun _ _=>rfl⟩
theorem wrap_u32 {x:Int}(h:0≤x∧x < 4294967296):x % 4294967296=x:=by omega
theorem ok_low {i:Ins}(h:OkI i)(hm:memB i.op=false):i.op < 16:=by
 have ho:=h.op
 unfold memB at hm
 simp at hm
 omega
end
section
variable {w w':World}{Y:YP}{k:Lk}{m:Mc}
set_option maxHeartbeats 1000000 in
theorem yTrap (h:Ey w Y k m)(t:Nat)(ht:t < k.n)(late:Int)(hm:memI k (m.cs t).pc=none):
 Calls Tryz.prog 25 #[.pointer (some ⟨Y.y,0,none⟩),.int .i64 t,.int .i64 late] w (CameY w Y k (m,trapO)):=by
 have hnn:=h.lk.n64
 have hl64:=h.lk.parts.2.1
 obtain⟨r0,r1,r2,r3,r4,r5,r6,r7,pc,ec⟩:=h.core_cons ht
 have hx8:Eight [r0,r1,r2,r3,r4,r5,r6,r7]:=by have:=h.mc.cs t ht;rw[ec] at this;exact this
 have HX:=Lib.hid h
 rw[ec] at hm
 have q0:=Bk.made w 67 #[.slice none 0 0,.int .i64 0,.int .i64 0,.int .i64 0,.int .i64 0,.int .i64 0]
 have b0:Below w.heap.size w (w.alloc (.cells #[.slice none 0 0,.int .i64 0,.int .i64 0,.int .i64 0,.int .i64 0,.int .i64 0] 67)):=(Below.refl _ _).alloc (Nat.le_refl _) _
 have s0:(w.alloc (.cells #[.slice none 0 0,.int .i64 0,.int .i64 0,.int .i64 0,.int .i64 0,.int .i64 0] 67)).heap.size=w.heap.size+1:=by simp
 go_enter Tryz.func25,Tryz.ntmps25
 go_upto_region 1 with fail
 generalize w.alloc (.cells #[.slice none 0 0,.int .i64 0,.int .i64 0,.int .i64 0,.int .i64 0,.int .i64 0] 67)=y at *
 have h2:=h.below b0
 obtain⟨gk,capk,ek,hk1,hk2,hkb,hkf,-⟩:=h2.klIs
 unfold maxLen at hk2
 have cx6:=h2.c6
 rw[ek] at cx6
 obtain⟨c0,c1,c2,c3,c4,c5,c6,c7,c8⟩:=h2.core ht ec ek
 go_upto_region 2 with fail
 have q1:=Rb.made y [r0,r1,r2,r3,r4,r5,r6,r7] pc
 have s1:(y.alloc (.cells #[.int .i64 r0,.int .i64 r1,.int .i64 r2,.int .i64 r3,.int .i64 r4,.int .i64 r5,.int .i64 r6,.int .i64 r7,.int .i64 pc] 112)).heap.size=w.heap.size+1+1:=by rw[World.size_alloc,s0]
 rw[s0] at q1
 simp only[rorC,List.map_cons,List.map_nil,List.cons_append,List.nil_append] at q1
 have b1:Below y.heap.size y (y.alloc (.cells #[.int .i64 r0,.int .i64 r1,.int .i64 r2,.int .i64 r3,.int .i64 r4,.int .i64 r5,.int .i64 r6,.int .i64 r7,.int .i64 pc] 112)):=(Below.refl _ _).alloc (Nat.le_refl _) _
 replace q0:=(b1.block _ q0.lt).trans q0
 have h3:=h2.below b1
 replace b0:=b0.trans (b1.mono b0.size)
 clear c0 c1 c2 c3 c4 c5 c6 c7 c8 cx6 h2 b1 hkf s0 h hk1 hk2 hkb ek
 generalize y.alloc (.cells #[.int .i64 r0,.int .i64 r1,.int .i64 r2,.int .i64 r3,.int .i64 r4,.int .i64 r5,.int .i64 r6,.int .i64 r7,.int .i64 pc] 112)=z at *
 go_upto_region 3 with fail
 have b1:Below z.heap.size z (z.alloc (.cells #[.slice none 0 0,.int .i64 (-1),.int .i64 (-1),.int .i64 0,.int .i64 0,.int .i64 11] 67)):=(Below.refl _ _).alloc (Nat.le_refl _) _
 have q2:=Bk.made z 67 #[.slice none 0 0,.int .i64 (-1),.int .i64 (-1),.int .i64 0,.int .i64 0,.int .i64 11]
 have s2:(z.alloc (.cells #[.slice none 0 0,.int .i64 (-1),.int .i64 (-1),.int .i64 0,.int .i64 0,.int .i64 11] 67)).heap.size=w.heap.size+1+1+1:=by rw[World.size_alloc,s1]
 rw[s1] at q2
 have hS:SI w Y k [r0,r1,r2,r3,r4,r5,r6,r7] pc Y m (z.alloc (.cells #[.slice none 0 0,.int .i64 (-1),.int .i64 (-1),.int .i64 0,.int .i64 0,.int .i64 11] 67)):=⟨h3.below b1,(YStays.of_grown b0).grown b1,(b1.block _ (Bk.lt q0)).trans q0,(b1.block _ (Bk.lt q1)).trans q1,q2,fun i hi=>.inl (HX.out.lt hi)⟩
 clear h3 b0 b1 q0 q1 q2 s1
 have HS2:=Lib.hid s2
 clear s2
 generalize z.alloc (.cells #[.slice none 0 0,.int .i64 (-1),.int .i64 (-1),.int .i64 0,.int .i64 0,.int .i64 11] 67)=x at *
 have HS:=Lib.hid hS
 have cx0:=hS.ey.c0
 obtain⟨hpv,aV,cV,eV⟩:=hS.ey.pv
 rw[eV] at cx0 hpv
 obtain⟨a2,ca2,e2,_,_,_,hsl⟩:=hpv
 simp only[Value.agg.injEq,Array.mk.injEq,List.cons.injEq,Value.slice.injEq,and_true,true_and] at e2
 obtain⟨rfl,rfl⟩:=e2
 have HV:=Lib.hid eV
 clear eV
 obtain⟨c0,c1,c2,c3,c4,c5,c6,c7,c8⟩:=hS.c.cells
 rcases memI_none hm with h1 | h1 | ⟨j,h1,h2,h3,h4⟩
 ·clear hm
  simp only at h1
  clear hsl hS
  go_quiet (fail)
  go_upto_region 4 with fail
  have hS3:=HS.out.below (drewN_below x nq)
  clear c0 c1 c2 c3 c4 c5 c6 c7 c8 cx0
  generalize x.drewN nq=v at *
  obtain⟨t0,t1,t2,t3,t4,t5⟩:v.cell? ⟨w.heap.size+1+1,0,none⟩=some (.slice none 0 0)∧v.cell? ⟨w.heap.size+1+1,1,none⟩=some (.int .i64 (-1))∧v.cell? ⟨w.heap.size+1+1,2,none⟩=some (.int .i64 (-1))∧v.cell? ⟨w.heap.size+1+1,3,none⟩=some (.int .i64 0)∧v.cell? ⟨w.heap.size+1+1,4,none⟩=some (.int .i64 0)∧v.cell? ⟨w.heap.size+1+1,5,none⟩=some (.int .i64 11):=⟨hS3.tr.cell 0,hS3.tr.cell 1,hS3.tr.cell 2,hS3.tr.cell 3,hS3.tr.cell 4,hS3.tr.cell 5⟩
  have q5:=hS3.q
  have HT:=Lib.hid hS3
  obtain⟨x0,x1,x2,x3,x4,x5⟩:v.cell? ⟨w.heap.size,0,none⟩=some (.slice none 0 0)∧v.cell? ⟨w.heap.size,1,none⟩=some (.int .i64 0)∧v.cell? ⟨w.heap.size,2,none⟩=some (.int .i64 0)∧v.cell? ⟨w.heap.size,3,none⟩=some (.int .i64 0)∧v.cell? ⟨w.heap.size,4,none⟩=some (.int .i64 0)∧v.cell? ⟨w.heap.size,5,none⟩=some (.int .i64 0):=⟨q5.cell 0,q5.cell 1,q5.cell 2,q5.cell 3,q5.cell 4,q5.cell 5⟩
  have zf:=Bk.free q5
  have o1:=put6_bk q5 (.slice none 0 0) (.int .i64 (-1)) (.int .i64 (-1)) (.int .i64 0) (.int .i64 0) (.int .i64 11)
  have o2:=put6_within (y:=v) (g:=w.heap.size) (.slice none 0 0) (.int .i64 (-1)) (.int .i64 (-1)) (.int .i64 0) (.int .i64 0) (.int .i64 11)
  have hC:=Lib.hid (came_laid (Y:=Y) (r:=(m,trapO)) (v:=.slice none 0 0) (Lst.nil _ _ _) HT.out.ey HT.out.st HT.out.q (by decide) o2 (Nat.le_refl _) (fun i hi e=>by have:=HT.out.far i hi;omega))
  clear hS3 o2 HT
  go_wp2_with (refine bodyPost_ret (v:=.agg #[.slice none 0 0,.int .i64 (-1),.int .i64 (-1),.int .i64 0,.int .i64 0,.int .i64 11]) (w:=put6 v w.heap.size (.slice none 0 0) (.int .i64 (-1)) (.int .i64 (-1)) (.int .i64 0) (.int .i64 0) (.int .i64 11)) ?hres rfl ?hpost)
  case hpost=>exact hC.out
  case hres=>
   generalize put6 v w.heap.size (.slice none 0 0) (.int .i64 (-1)) (.int .i64 (-1)) (.int .i64 0) (.int .i64 0) (.int .i64 11)=v9 at *
   obtain⟨o0,o1,o2,o3,o4,o5⟩:v9.cell? ⟨w.heap.size,0,none⟩=some (.slice none 0 0)∧v9.cell? ⟨w.heap.size,1,none⟩=some (.int .i64 (-1))∧v9.cell? ⟨w.heap.size,2,none⟩=some (.int .i64 (-1))∧v9.cell? ⟨w.heap.size,3,none⟩=some (.int .i64 0)∧v9.cell? ⟨w.heap.size,4,none⟩=some (.int .i64 0)∧v9.cell? ⟨w.heap.size,5,none⟩=some (.int .i64 11):=⟨o1.cell 0,o1.cell 1,o1.cell 2,o1.cell 3,o1.cell 4,o1.cell 5⟩
   simp[results,Tryz.results25,go_sem,o0,o1,o2,o3,o4,o5]
 ·clear hm
  simp only at h1
  by_cases h0:pc < 0
  ·clear h1
   have h1:=h0
   clear hsl hS
   go_quiet (fail)
   go_upto_region 4 with fail
   have hS3:=HS.out.below (drewN_below x nq)
   clear c0 c1 c2 c3 c4 c5 c6 c7 c8 cx0
   generalize x.drewN nq=v at *
   obtain⟨t0,t1,t2,t3,t4,t5⟩:v.cell? ⟨w.heap.size+1+1,0,none⟩=some (.slice none 0 0)∧v.cell? ⟨w.heap.size+1+1,1,none⟩=some (.int .i64 (-1))∧v.cell? ⟨w.heap.size+1+1,2,none⟩=some (.int .i64 (-1))∧v.cell? ⟨w.heap.size+1+1,3,none⟩=some (.int .i64 0)∧v.cell? ⟨w.heap.size+1+1,4,none⟩=some (.int .i64 0)∧v.cell? ⟨w.heap.size+1+1,5,none⟩=some (.int .i64 11):=⟨hS3.tr.cell 0,hS3.tr.cell 1,hS3.tr.cell 2,hS3.tr.cell 3,hS3.tr.cell 4,hS3.tr.cell 5⟩
   have q5:=hS3.q
   have HT:=Lib.hid hS3
   obtain⟨x0,x1,x2,x3,x4,x5⟩:v.cell? ⟨w.heap.size,0,none⟩=some (.slice none 0 0)∧v.cell? ⟨w.heap.size,1,none⟩=some (.int .i64 0)∧v.cell? ⟨w.heap.size,2,none⟩=some (.int .i64 0)∧v.cell? ⟨w.heap.size,3,none⟩=some (.int .i64 0)∧v.cell? ⟨w.heap.size,4,none⟩=some (.int .i64 0)∧v.cell? ⟨w.heap.size,5,none⟩=some (.int .i64 0):=⟨q5.cell 0,q5.cell 1,q5.cell 2,q5.cell 3,q5.cell 4,q5.cell 5⟩
   have zf:=Bk.free q5
   have o1:=put6_bk q5 (.slice none 0 0) (.int .i64 (-1)) (.int .i64 (-1)) (.int .i64 0) (.int .i64 0) (.int .i64 11)
   have o2:=put6_within (y:=v) (g:=w.heap.size) (.slice none 0 0) (.int .i64 (-1)) (.int .i64 (-1)) (.int .i64 0) (.int .i64 0) (.int .i64 11)
   have hC:=Lib.hid (came_laid (Y:=Y) (r:=(m,trapO)) (v:=.slice none 0 0) (Lst.nil _ _ _) HT.out.ey HT.out.st HT.out.q (by decide) o2 (Nat.le_refl _) (fun i hi e=>by have:=HT.out.far i hi;omega))
   clear hS3 o2 HT
   go_wp2_with (refine bodyPost_ret (v:=.agg #[.slice none 0 0,.int .i64 (-1),.int .i64 (-1),.int .i64 0,.int .i64 0,.int .i64 11]) (w:=put6 v w.heap.size (.slice none 0 0) (.int .i64 (-1)) (.int .i64 (-1)) (.int .i64 0) (.int .i64 0) (.int .i64 11)) ?hres rfl ?hpost)
   case hpost=>exact hC.out
   case hres=>
    generalize put6 v w.heap.size (.slice none 0 0) (.int .i64 (-1)) (.int .i64 (-1)) (.int .i64 0) (.int .i64 0) (.int .i64 11)=v9 at *
    obtain⟨o0,o1,o2,o3,o4,o5⟩:v9.cell? ⟨w.heap.size,0,none⟩=some (.slice none 0 0)∧v9.cell? ⟨w.heap.size,1,none⟩=some (.int .i64 (-1))∧v9.cell? ⟨w.heap.size,2,none⟩=some (.int .i64 (-1))∧v9.cell? ⟨w.heap.size,3,none⟩=some (.int .i64 0)∧v9.cell? ⟨w.heap.size,4,none⟩=some (.int .i64 0)∧v9.cell? ⟨w.heap.size,5,none⟩=some (.int .i64 11):=⟨o1.cell 0,o1.cell 1,o1.cell 2,o1.cell 3,o1.cell 4,o1.cell 5⟩
    simp[results,Tryz.results25,go_sem,o0,o1,o2,o3,o4,o5]
  have d0:decide (pc < 0)=false:=by simp;omega
  have d1:pc≥(k.l.length:Int):=h1
  clear hsl hS
  go_quiet (fail)
  go_upto_region 4 with fail
  have hS3:=HS.out.below (drewN_below x nq)
  clear c0 c1 c2 c3 c4 c5 c6 c7 c8 cx0
  generalize x.drewN nq=v at *
  obtain⟨t0,t1,t2,t3,t4,t5⟩:v.cell? ⟨w.heap.size+1+1,0,none⟩=some (.slice none 0 0)∧v.cell? ⟨w.heap.size+1+1,1,none⟩=some (.int .i64 (-1))∧v.cell? ⟨w.heap.size+1+1,2,none⟩=some (.int .i64 (-1))∧v.cell? ⟨w.heap.size+1+1,3,none⟩=some (.int .i64 0)∧v.cell? ⟨w.heap.size+1+1,4,none⟩=some (.int .i64 0)∧v.cell? ⟨w.heap.size+1+1,5,none⟩=some (.int .i64 11):=⟨hS3.tr.cell 0,hS3.tr.cell 1,hS3.tr.cell 2,hS3.tr.cell 3,hS3.tr.cell 4,hS3.tr.cell 5⟩
  have q5:=hS3.q
  have HT:=Lib.hid hS3
  obtain⟨x0,x1,x2,x3,x4,x5⟩:v.cell? ⟨w.heap.size,0,none⟩=some (.slice none 0 0)∧v.cell? ⟨w.heap.size,1,none⟩=some (.int .i64 0)∧v.cell? ⟨w.heap.size,2,none⟩=some (.int .i64 0)∧v.cell? ⟨w.heap.size,3,none⟩=some (.int .i64 0)∧v.cell? ⟨w.heap.size,4,none⟩=some (.int .i64 0)∧v.cell? ⟨w.heap.size,5,none⟩=some (.int .i64 0):=⟨q5.cell 0,q5.cell 1,q5.cell 2,q5.cell 3,q5.cell 4,q5.cell 5⟩
  have zf:=Bk.free q5
  have o1:=put6_bk q5 (.slice none 0 0) (.int .i64 (-1)) (.int .i64 (-1)) (.int .i64 0) (.int .i64 0) (.int .i64 11)
  have o2:=put6_within (y:=v) (g:=w.heap.size) (.slice none 0 0) (.int .i64 (-1)) (.int .i64 (-1)) (.int .i64 0) (.int .i64 0) (.int .i64 11)
  have hC:=Lib.hid (came_laid (Y:=Y) (r:=(m,trapO)) (v:=.slice none 0 0) (Lst.nil _ _ _) HT.out.ey HT.out.st HT.out.q (by decide) o2 (Nat.le_refl _) (fun i hi e=>by have:=HT.out.far i hi;omega))
  clear hS3 o2 HT
  go_wp2_with (refine bodyPost_ret (v:=.agg #[.slice none 0 0,.int .i64 (-1),.int .i64 (-1),.int .i64 0,.int .i64 0,.int .i64 11]) (w:=put6 v w.heap.size (.slice none 0 0) (.int .i64 (-1)) (.int .i64 (-1)) (.int .i64 0) (.int .i64 0) (.int .i64 11)) ?hres rfl ?hpost)
  case hpost=>exact hC.out
  case hres=>
   generalize put6 v w.heap.size (.slice none 0 0) (.int .i64 (-1)) (.int .i64 (-1)) (.int .i64 0) (.int .i64 0) (.int .i64 11)=v9 at *
   obtain⟨o0,o1,o2,o3,o4,o5⟩:v9.cell? ⟨w.heap.size,0,none⟩=some (.slice none 0 0)∧v9.cell? ⟨w.heap.size,1,none⟩=some (.int .i64 (-1))∧v9.cell? ⟨w.heap.size,2,none⟩=some (.int .i64 (-1))∧v9.cell? ⟨w.heap.size,3,none⟩=some (.int .i64 0)∧v9.cell? ⟨w.heap.size,4,none⟩=some (.int .i64 0)∧v9.cell? ⟨w.heap.size,5,none⟩=some (.int .i64 11):=⟨o1.cell 0,o1.cell 1,o1.cell 2,o1.cell 3,o1.cell 4,o1.cell 5⟩
   simp[results,Tryz.results25,go_sem,o0,o1,o2,o3,o4,o5]
 ·clear hm
  simp only at h1 h2 h3
  obtain⟨n,rfl⟩:=Int.eq_ofNat_of_zero_le h1
  rw[Int.toNat_natCast] at h3
  obtain⟨g,off,rfl,hgl,f0,f1,f2,f3,f4,f5,f6,f7⟩:=hsl.at_ h3
  have d0:decide ((n:Int) < 0)=false:=by simp
  have d1:decide ((n:Int)≥(k.l.length:Int))=false:=by simp;omega
  have d4:decide (k.l.length≤n)=false:=by simp;omega
  have d2:j.op < 16:=ok_low (HX.out.lk.ok j (List.mem_of_getElem? h3)) h4
  have d3:(n:Int) < k.l.length:=h2
  clear hsl hS f1 f2 f3 f4 f5 f6 f7 h3 h4 h1
  go_quiet (fail)
  go_upto_region 4 with fail
  have hS3:=HS.out.below (drewN_below x nq)
  clear c0 c1 c2 c3 c4 c5 c6 c7 c8 cx0
  generalize x.drewN nq=v at *
  obtain⟨t0,t1,t2,t3,t4,t5⟩:v.cell? ⟨w.heap.size+1+1,0,none⟩=some (.slice none 0 0)∧v.cell? ⟨w.heap.size+1+1,1,none⟩=some (.int .i64 (-1))∧v.cell? ⟨w.heap.size+1+1,2,none⟩=some (.int .i64 (-1))∧v.cell? ⟨w.heap.size+1+1,3,none⟩=some (.int .i64 0)∧v.cell? ⟨w.heap.size+1+1,4,none⟩=some (.int .i64 0)∧v.cell? ⟨w.heap.size+1+1,5,none⟩=some (.int .i64 11):=⟨hS3.tr.cell 0,hS3.tr.cell 1,hS3.tr.cell 2,hS3.tr.cell 3,hS3.tr.cell 4,hS3.tr.cell 5⟩
  have q5:=hS3.q
  have HT:=Lib.hid hS3
  obtain⟨x0,x1,x2,x3,x4,x5⟩:v.cell? ⟨w.heap.size,0,none⟩=some (.slice none 0 0)∧v.cell? ⟨w.heap.size,1,none⟩=some (.int .i64 0)∧v.cell? ⟨w.heap.size,2,none⟩=some (.int .i64 0)∧v.cell? ⟨w.heap.size,3,none⟩=some (.int .i64 0)∧v.cell? ⟨w.heap.size,4,none⟩=some (.int .i64 0)∧v.cell? ⟨w.heap.size,5,none⟩=some (.int .i64 0):=⟨q5.cell 0,q5.cell 1,q5.cell 2,q5.cell 3,q5.cell 4,q5.cell 5⟩
  have zf:=Bk.free q5
  have o1:=put6_bk q5 (.slice none 0 0) (.int .i64 (-1)) (.int .i64 (-1)) (.int .i64 0) (.int .i64 0) (.int .i64 11)
  have o2:=put6_within (y:=v) (g:=w.heap.size) (.slice none 0 0) (.int .i64 (-1)) (.int .i64 (-1)) (.int .i64 0) (.int .i64 0) (.int .i64 11)
  have hC:=Lib.hid (came_laid (Y:=Y) (r:=(m,trapO)) (v:=.slice none 0 0) (Lst.nil _ _ _) HT.out.ey HT.out.st HT.out.q (by decide) o2 (Nat.le_refl _) (fun i hi e=>by have:=HT.out.far i hi;omega))
  clear hS3 o2 HT
  go_wp2_with (refine bodyPost_ret (v:=.agg #[.slice none 0 0,.int .i64 (-1),.int .i64 (-1),.int .i64 0,.int .i64 0,.int .i64 11]) (w:=put6 v w.heap.size (.slice none 0 0) (.int .i64 (-1)) (.int .i64 (-1)) (.int .i64 0) (.int .i64 0) (.int .i64 11)) ?hres rfl ?hpost)
  case hpost=>exact hC.out
  case hres=>
   generalize put6 v w.heap.size (.slice none 0 0) (.int .i64 (-1)) (.int .i64 (-1)) (.int .i64 0) (.int .i64 0) (.int .i64 11)=v9 at *
   obtain⟨o0,o1,o2,o3,o4,o5⟩:v9.cell? ⟨w.heap.size,0,none⟩=some (.slice none 0 0)∧v9.cell? ⟨w.heap.size,1,none⟩=some (.int .i64 (-1))∧v9.cell? ⟨w.heap.size,2,none⟩=some (.int .i64 (-1))∧v9.cell? ⟨w.heap.size,3,none⟩=some (.int .i64 0)∧v9.cell? ⟨w.heap.size,4,none⟩=some (.int .i64 0)∧v9.cell? ⟨w.heap.size,5,none⟩=some (.int .i64 11):=⟨o1.cell 0,o1.cell 1,o1.cell 2,o1.cell 3,o1.cell 4,o1.cell 5⟩
   simp[results,Tryz.results25,go_sem,o0,o1,o2,o3,o4,o5]
end
end Go.Proofs.YthdgehcghklflaaGreatDoor
