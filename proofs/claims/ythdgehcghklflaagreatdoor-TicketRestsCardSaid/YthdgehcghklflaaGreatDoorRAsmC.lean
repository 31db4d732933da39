import Derived.Test.YthdgehcghklflaaGreatDoorRAsmM
import Derived.Test.YthdgehcghklflaaGreatDoorRInstC
import Derived.Deep.CutBlock
set_option linter.unusedVariables false
namespace Go.Proofs.YthdgehcghklflaaGreatDoor
open Go.ChangeShapes Go.WideShapes Go.ChangeAt Go.RowKit Go.Shelf
theorem at_bang (s:List UInt8)(j:Nat)(h:j < s.length):(⟨s.toArray⟩:ByteArray).data[j]! = s[j]:=by
 simp[h]
theorem last_no (s:List UInt8)(h:Bf s):Lib.lastIndexByte ⟨s.toArray⟩ 32=-1:=by
 have hz:(⟨s.toArray⟩:ByteArray).size=s.length:=by show s.toArray.size=_;simp
 unfold Lib.lastIndexByte
 rw[hz]
 rcases Lib.lastIdx_spec ⟨s.toArray⟩ 32 s.length with ⟨e,-⟩ | ⟨i,hi,e,hc,-⟩
 ·exact e
 ·exfalso
  rw[at_bang s i hi] at hc
  exact h _ (List.getElem_mem hi) (UInt8.toNat_inj.1 (by simpa using Int.ofNat.inj hc))
theorem last_yes (a b:List UInt8)(h:Bf b):Lib.lastIndexByte ⟨(a++32 :: b).toArray⟩ 32=a.length:=by
 have hz:(⟨(a++32 :: b).toArray⟩:ByteArray).size=(a++32 :: b).length:=by show (a++32 :: b).toArray.size=_;simp
 unfold Lib.lastIndexByte
 rw[hz]
 have hl:a.length < (a++32 :: b).length:=by simp
 have h32:(((⟨(a++32 :: b).toArray⟩:ByteArray).data[a.length]!).toNat:Int)=32:=by
  rw[at_bang _ _ hl]
  simp
 rcases Lib.lastIdx_spec ⟨(a++32 :: b).toArray⟩ 32 (a++32 :: b).length with ⟨e,hn⟩ | ⟨i,hi,e,hc,hn⟩
 ·exact absurd h32 (hn _ hl)
 ·rw[e]
  by_cases h1:i < a.length
  ·exact absurd h32 (hn _ h1 hl)
  by_cases h2:a.length < i
  ·exfalso
   rw[at_bang _ i hi] at hc
   have hm:(a++32 :: b)[i]∈b:=by
    rw[List.getElem_append_right (by omega)]
    obtain⟨k,hk⟩:∃ k,i - a.length=k+1:=⟨i - a.length - 1,by omega⟩
    simp only[hk,List.getElem_cons_succ]
    exact List.getElem_mem _
   exact h _ hm (UInt8.toNat_inj.1 (by simpa using Int.ofNat.inj hc))
  ·have:i=a.length:=by omega
   rw[this]
theorem lLast (s:List UInt8)(hl:s.length < 1000000)(w:World):
 Calls Tryz.prog 160 #[bs s,.int .u8 32] w fun e w'=>e=.returned (.int .i64 (Lib.lastIndexByte ⟨s.toArray⟩ 32))∧w=w':=
 (Any.strings_LastIndexByte Tryz.lays149 ⟨s.toArray⟩ 32 (by show s.toArray.size < _;simp;omega) w).mono fun _ _ ⟨he,hw⟩=>⟨he,hw.symm⟩
theorem run_ahead (s:List UInt8)(n:Nat)(h:n≤s.length)(w:World):(Instr.slice 9 (.string ⟨s.toArray⟩) none (some (.int .i64 n)) none).run Tryz.prog w=.ok (.string ⟨(s.take n).toArray⟩) w:=by
 have hu:=Tryz.underlying9
 go_simp
 refine ByteArray.ext ?_
 rw[ByteArray.data_extract]
 apply Array.ext'
 simp
theorem run_from (s:List UInt8)(n:Nat)(h:n≤s.length)(w:World):(Instr.slice 9 (.string ⟨s.toArray⟩) (some (.int .i64 n)) none none).run Tryz.prog w=.ok (.string ⟨(s.drop n).toArray⟩) w:=by
 have hu:=Tryz.underlying9
 go_simp
 refine ByteArray.ext ?_
 rw[ByteArray.data_extract]
 apply Array.ext'
 simp
 try exact List.take_of_length_le (by simp)
theorem cutLast_is (s:List UInt8):∃ n:Nat,n≤s.length∧Lib.lastIndexByte ⟨s.toArray⟩ 32+1=n∧-1≤Lib.lastIndexByte ⟨s.toArray⟩ 32∧s.take n=headW s∧s.drop n=lastW s:=by
 rcases last_blank s with h | ⟨a,b,hb,rfl⟩
 ·refine⟨0,by omega,by rw[last_no s h];rfl,by rw[last_no s h];omega,?_,?_⟩
  ·unfold headW lastW
   rw[wordsL_one s h]
   simp
  ·unfold lastW
   rw[wordsL_one s h]
   simp
 ·refine⟨a.length+1,by simp,by rw[last_yes a b hb];rfl,by rw[last_yes a b hb];omega,?_,?_⟩
  ·rw[headW_cat a b hb,show a++32 :: b=(a++[32])++b by simp,show a.length+1=(a++[32]).length by simp,List.take_left]
  ·rw[lastW_cat a b hb,show a++32 :: b=(a++[32])++b by simp,show a.length+1=(a++[32]).length by simp,List.drop_left]
theorem cCutLast (s:List UInt8)(hl:s.length < 1000000)(w:World):
 Calls Tryz.prog 139 #[bs s] w fun e w'=>e=.returned (.tuple #[bs (headW s),bs (lastW s)])∧Below w.heap.size w w':=by
 obtain⟨n,hn,he,h0,h1,h2⟩:=cutLast_is s
 have HL:=Lib.hid (fun W=>lLast s hl W)
 have r1:=run_ahead s n hn
 have r2:=run_from s n hn
 rw[←h1,←h2]
 have hwr:wrap64 (Lib.lastIndexByte ⟨s.toArray⟩ 32+1)=(n:Int):=by rw[he];unfold wrap64;omega
 have HE:=Lib.hid he
 clear he h1 h2
 generalize Lib.lastIndexByte ⟨s.toArray⟩ 32=i at *
 unfold bs
 go_enter Tryz.func139,Tryz.ntmps139
 go_wp2_with fail
 refine(HL.out _).mono ?_
 rintro e w' ⟨rfl,rfl⟩
 go_wp2
 go_region
 go_wp2
 go_ret2
 exact⟨rfl,(Below.refl _ _).drew⟩
theorem prs_prog (s:List UInt8):prs s=if parseB s=true then some (parsedI s) else none:=by
 by_cases h:parseB s=true
 ·rw[if_pos h,prs_iff]
  have h2:=h
  unfold parseB at h2
  simp only[Bool.and_eq_true,decide_eq_true_eq] at h2
  have hw:(parsedI s).Wf:=draft_wf _
  exact⟨h2.1,hw.k0,hw.k1,h2.2⟩
 ·rw[if_neg h]
  cases hp:prs s with
  | none=>rfl
  | some i=>
   obtain⟨h1,h2,h3,rfl⟩:=(prs_iff _ _).1 hp
   exact absurd (parse_text i h1 h2 h3).1 h
def parsV:Option Ins→Value
 | some i=>.tuple #[iv i,.int .i64 0]
 | none=>.tuple #[iv Ins.zero,.int .i64 8]
theorem parseV_prs (s:List UInt8):parseV s=parsV (prs s):=by
 unfold parseV parsV
 rw[prs_prog]
 by_cases h:parseB s=true
 ·simp[h]
 ·simp[h]
theorem prs_right {s:List UInt8}{i:Ins}(h:prs s=some i):rightB i 1073741824=true:=((prs_iff _ _).1 h).1
theorem right_at_pl {i:Ins}{p:Int}(hr:rightB i p=true)(h:i.op=21):-1≤i.pl:=by
 obtain⟨op,d,s,t,u,a,k,pl⟩:=i
 simp only at h
 subst h
 unfold rightB at hr
 simp[hsL,inB,lowI,endI,getI] at hr
 show -1≤pl
 omega
theorem place_goes {i:Ins}{p:Int}(hr:rightB i p=true):placeB i=goesB i:=by
 unfold placeB goesB
 have h:=fun e=>right_at_pl hr e
 rw[Bool.eq_iff_iff]
 simp only[Bool.or_eq_true,Bool.and_eq_true,decide_eq_true_eq]
 constructor
 ·rintro(e | ⟨e,e2⟩)
  ·left;omega
  ·right;have:=h e;exact⟨e,by omega⟩
 ·rintro(e | ⟨e,e2⟩)
  ·left;omega
  ·right;exact⟨e,by omega⟩
def instOfV (s:List UInt8):Value:=match lineL s with
 | some (i,nm)=>.tuple #[iv i,bs nm,.bool true]
 | none=>.tuple #[iv Ins.zero,bs [],.bool false]
def tailV:Option Ins→Value
 | some j=>if placeB j=true then .tuple #[iv Ins.zero,bs [],.bool false] else .tuple #[iv j,bs [],.bool true]
 | none=>.tuple #[iv Ins.zero,bs [],.bool false]
def headV (la:List UInt8)(t:Value):Option Ins→Value
 | some i=>if placeB i=true then .tuple #[iv i,bs la,.bool true] else t
 | none=>t
theorem instOf_is (s:List UInt8):instOfV s=headV (lastW s) (tailV (prs s)) (if nameB (lastW s)=true then prs (headW s++[48]) else none):=by
 unfold headV tailV
 unfold instOfV lineL
 by_cases hn:nameB (lastW s)=true
 ·simp only[hn,if_true,and_true]
  cases h1:prs (headW s++[48]) with
  | none=>
   cases h2:prs s with
   | none=>simp
   | some j=>
    have:=place_goes (prs_right h2)
    by_cases hg:goesB j=true <;> simp[this,hg]
  | some i=>
   have e1:=place_goes (prs_right h1)
   by_cases hi:goesB i=true
   ·simp[e1,hi]
   ·cases h2:prs s with
    | none=>simp[e1,hi]
    | some j=>
     have:=place_goes (prs_right h2)
     by_cases hg:goesB j=true <;> simp[e1,hi,this,hg]
 ·simp only[hn]
  cases h1:prs (headW s++[48]) <;> cases h2:prs s with
  | none=>simp
  | some j=>
   have:=place_goes (prs_right h2)
   by_cases hg:goesB j=true <;> simp[this,hg]
set_option maxHeartbeats 2000000 in
theorem cInstOf (s:List UInt8)(hl:s.length < 100000)(w:World)(L:Lb w):
 Calls Tryz.prog 98 #[bs s] w fun e w'=>e=.returned (instOfV s)∧Below w.heap.size w w':=by
 have hh:(headW s).length≤s.length:=by unfold headW;simp
 have hc:=cat_bs (headW s) [48]
 have hc2:¬ 9223372036854775807 < (headW s).length+1:=by omega
 have HC:=Lib.hid (fun W=>cCutLast s (by omega) W)
 have HN:=Lib.hid (fun W=>cIsName (lastW s) W)
 have HP0:=Lib.hid (fun W LW=>cParse (headW s++[48]) (by simp;omega) W LW)
 have HP:=Lib.hid (fun W LW=>cParse s (by omega) W LW)
 have HE:=Lib.hid (instOf_is s)
 rw[parseV_prs] at HP0 HP
 have HL:=Lib.hid (fun(W:World) (h:Below w.heap.size w W)=>L.below h)
 generalize instOfV s=res at *
 generalize hA:headW s=hd at *
 generalize hB:lastW s=la at *
 clear hA hB hh L
 generalize prs (hd++[48])=p0 at *
 generalize prs s=p1 at *
 unfold bs
 go_enter Tryz.func98,Tryz.ntmps98
 go_wp2_with fail
 have b1:Below w.heap.size w (w.alloc (.cells #[.int .i64 0,.int .i64 0,.int .i64 0,.int .i64 0,.int .i64 0,.int .i64 0,.int .u32 0,.int .i64 0] 119)):=(Below.refl _ _).alloc (Nat.le_refl _) _
 have m1:Ib (w.alloc (.cells #[.int .i64 0,.int .i64 0,.int .i64 0,.int .i64 0,.int .i64 0,.int .i64 0,.int .u32 0,.int .i64 0] 119)) w.heap.size Ins.zero:=Bk.made _ _ _
 generalize w.alloc (.cells #[.int .i64 0,.int .i64 0,.int .i64 0,.int .i64 0,.int .i64 0,.int .i64 0,.int .u32 0,.int .i64 0] 119)=x1 at *
 refine(HC.out x1).mono ?_
 rintro e x2 ⟨rfl,b2⟩
 replace m1:=m1.below b2
 replace b2:=b1.trans (b2.mono b1.size)
 clear b1 x1
 unfold bs
 go_wp2_with fail
 refine(HN.out x2).mono ?_
 rintro e x3 ⟨rfl,b3⟩
 replace m1:=m1.below b3
 replace b3:=b2.trans (b3.mono b2.size)
 clear b2 x2
 have HT:Hid (∀ i,p0=some i→nameB la=true→placeB i=true→res=.tuple #[iv i,bs la,.bool true]):=Lib.hid fun i h1 h2 h3=>by
  rw[HE.out,h1,h2];simp[headV,h3]
 have HU:Hid ((nameB la=true→p0=none∨∃ i,p0=some i∧placeB i=false)→res=tailV p1):=Lib.hid fun h=>by
  rw[HE.out]
  by_cases hn:nameB la=true
  ·rcases h hn with e | ⟨i,e,e2⟩
   ·rw[e];simp[headV]
   ·rw[e,if_pos hn];simp[headV,e2]
  ·rw[if_neg hn];rfl
 clear HE HC HN
 have hp:Hid (∀ (i:Ins) (W:World),Calls Tryz.prog 141 #[iv i] W fun e w'=>e=.returned (.bool (placeB i))∧Below W.heap.size W w'):=Lib.hid fun i W=>cHasPlace i W
 rcases hn:nameB la
 case' false=>
  replace HU:=Lib.hid (HU.out (by rw[hn];simp))
  clear hn HT HP0 hc hc2
  go_wp2_with fail
  have bb:=b3
  clear b3
 case' true=>
  go_wp2_with fail
  refine(HP0.out x3 (HL.out _ b3)).mono ?_
  rintro e x4 ⟨rfl,b4⟩
  replace m1:=m1.below b4
  replace b4:=b3.trans (b4.mono b3.size)
  clear b3 x3 HP0
  rcases p0 with _ | ⟨op,d,s',t,u,a,k,pl⟩
  case' none=>
   replace HU:=Lib.hid (HU.out (by simp))
   clear HT hn
   rw[show parsV none=.tuple #[.agg #[.int .i64 0,.int .i64 0,.int .i64 0,.int .i64 0,.int .i64 0,.int .i64 0,.int .u32 0,.int .i64 0],.int .i64 8] from rfl]
   go_wp2_with fail
   replace m1:Ib (x4.alloc (.cells #[.int .i64 0,.int .i64 0,.int .i64 0,.int .i64 0,.int .i64 0,.int .i64 0,.int .u32 0,.int .i64 0] 119)) w.heap.size Ins.zero:=Bk.alloc m1 _
   have bb:=b4.alloc (o:=.cells #[.int .i64 0,.int .i64 0,.int .i64 0,.int .i64 0,.int .i64 0,.int .i64 0,.int .u32 0,.int .i64 0] 119) b4.size
   clear b4
   generalize x4.alloc (.cells #[.int .i64 0,.int .i64 0,.int .i64 0,.int .i64 0,.int .i64 0,.int .i64 0,.int .u32 0,.int .i64 0] 119)=x3 at *
  case' some=>
   rw[show parsV (some ⟨op,d,s',t,u,a,k,pl⟩)=.tuple #[.agg #[.int .i64 op,.int .i64 d,.int .i64 s',.int .i64 t,.int .i64 u,.int .i64 a,.int .u32 k,.int .i64 pl],.int .i64 0] from rfl]
   go_upto_region 4 with fail
   have m2:=Ib.made x4 op d s' t u a k pl
   have hne:w.heap.size≠x4.heap.size:=Nat.ne_of_lt (Bk.lt m1)
   replace m1:Ib (x4.alloc (.cells #[.int .i64 op,.int .i64 d,.int .i64 s',.int .i64 t,.int .i64 u,.int .i64 a,.int .u32 k,.int .i64 pl] 119)) w.heap.size Ins.zero:=Bk.alloc m1 _
   replace b4:=b4.alloc (o:=.cells #[.int .i64 op,.int .i64 d,.int .i64 s',.int .i64 t,.int .i64 u,.int .i64 a,.int .u32 k,.int .i64 pl] 119) b4.size
   generalize x4.heap.size=g at *
   generalize x4.alloc (.cells #[.int .i64 op,.int .i64 d,.int .i64 s',.int .i64 t,.int .i64 u,.int .i64 a,.int .u32 k,.int .i64 pl] 119)=x3 at *
   obtain⟨c0,c1,c2,c3,c4,c5,c6,c7⟩:=m2.cells
   simp only at c0 c1 c2 c3 c4 c5 c6 c7
   go_wp2_with fail
   refine(hp.out ⟨op,d,s',t,u,a,k,pl⟩ x3).mono ?_
   rintro e x5 ⟨rfl,b5⟩
   replace m1:=m1.below b5
   replace m2:=m2.below b5
   have bb:=b4.trans (b5.mono b4.size)
   clear c0 c1 c2 c3 c4 c5 c6 c7 b4 b5 x3
   rcases hq:placeB ⟨op,d,s',t,u,a,k,pl⟩
   case' false=>
    replace HU:=Lib.hid (HU.out fun _=>.inr ⟨_,rfl,hq⟩)
    clear HT hn hq m2
    go_wp2_with fail
   case' true=>
    replace HT:=Lib.hid (HT.out _ rfl hn hq)
    clear HU hn hq HP hp
    obtain⟨c0,c1,c2,c3,c4,c5,c6,c7⟩:=m2.cells
    simp only at c0 c1 c2 c3 c4 c5 c6 c7
    obtain⟨r0,r1,r2,r3,r4,r5,r6,r7⟩:=m1.cells
    have hfR:=Bk.free m1
    unfold Ins.zero at r0 r1 r2 r3 r4 r5 r6 r7
    simp only at r0 r1 r2 r3 r4 r5 r6 r7
    go_wp2
    generalize hv:((((((((x5.setCell ⟨w.heap.size,0,none⟩ (.int .i64 op)).setCell ⟨w.heap.size,1,none⟩ (.int .i64 d)).setCell ⟨w.heap.size,2,none⟩ (.int .i64 s')).setCell ⟨w.heap.size,3,none⟩ (.int .i64 t)).setCell ⟨w.heap.size,4,none⟩ (.int .i64 u)).setCell ⟨w.heap.size,5,none⟩ (.int .i64 a)).setCell ⟨w.heap.size,6,none⟩ (.int .u32 k)).setCell ⟨w.heap.size,7,none⟩ (.int .i64 pl))=v9
    have hv2:put8 x5 w.heap.size ⟨op,d,s',t,u,a,k,pl⟩=v9:=hv
    clear hv
    have hA:=put8_ib (i:=⟨op,d,s',t,u,a,k,pl⟩) m1
    have hC:=put8_below (i:=⟨op,d,s',t,u,a,k,pl⟩) bb (Nat.le_refl _)
    rw[hv2] at hA hC
    clear hv2
    obtain⟨q0,q1,q2,q3,q4,q5,q6,q7⟩:=hA.cells
    simp only at q0 q1 q2 q3 q4 q5 q6 q7
    refine bodyPost_ret (v:=.tuple #[.agg #[.int .i64 op,.int .i64 d,.int .i64 s',.int .i64 t,.int .i64 u,.int .i64 a,.int .u32 k,.int .i64 pl],.string ⟨la.toArray⟩,.bool true]) (by simp[results,Tryz.results98,go_sem,q0,q1,q2,q3,q4,q5,q6,q7]) rfl ⟨?_,hC⟩
    rw[HT.out];rfl
 all_goals (
  refine(HP.out _ (HL.out _ bb)).mono ?_
  rintro e y ⟨rfl,hby⟩
  replace m1:=m1.below hby
  replace bb:=bb.trans (hby.mono bb.size)
  clear hby HP
  obtain⟨r0,r1,r2,r3,r4,r5,r6,r7⟩:=m1.cells
  have hfR:=Bk.free m1
  unfold Ins.zero at r0 r1 r2 r3 r4 r5 r6 r7
  simp only at r0 r1 r2 r3 r4 r5 r6 r7
  rcases p1 with _ | ⟨op,d,s',t,u,a,k,pl⟩
  ·rw[show parsV none=.tuple #[.agg #[.int .i64 0,.int .i64 0,.int .i64 0,.int .i64 0,.int .i64 0,.int .i64 0,.int .u32 0,.int .i64 0],.int .i64 8] from rfl]
   go_upto_region 7 with fail
   generalize hv:((((((((y.setCell ⟨w.heap.size,0,none⟩ (.int .i64 0)).setCell ⟨w.heap.size,1,none⟩ (.int .i64 0)).setCell ⟨w.heap.size,2,none⟩ (.int .i64 0)).setCell ⟨w.heap.size,3,none⟩ (.int .i64 0)).setCell ⟨w.heap.size,4,none⟩ (.int .i64 0)).setCell ⟨w.heap.size,5,none⟩ (.int .i64 0)).setCell ⟨w.heap.size,6,none⟩ (.int .u32 0)).setCell ⟨w.heap.size,7,none⟩ (.int .i64 0))=y2
   have hv2:put8 y w.heap.size ⟨0,0,0,0,0,0,0,0⟩=y2:=hv
   clear hv
   replace m1:=put8_ib (i:=⟨0,0,0,0,0,0,0,0⟩) m1
   replace bb:=put8_below (i:=⟨0,0,0,0,0,0,0,0⟩) bb (Nat.le_refl _)
   rw[hv2] at m1 bb
   clear hv2 r0 r1 r2 r3 r4 r5 r6 r7 hfR
   obtain⟨r0,r1,r2,r3,r4,r5,r6,r7⟩:=m1.cells
   have hfR:=Bk.free m1
   simp only at r0 r1 r2 r3 r4 r5 r6 r7
   go_wp2
   generalize hv:((((((((y2.setCell ⟨w.heap.size,0,none⟩ (.int .i64 0)).setCell ⟨w.heap.size,1,none⟩ (.int .i64 0)).setCell ⟨w.heap.size,2,none⟩ (.int .i64 0)).setCell ⟨w.heap.size,3,none⟩ (.int .i64 0)).setCell ⟨w.heap.size,4,none⟩ (.int .i64 0)).setCell ⟨w.heap.size,5,none⟩ (.int .i64 0)).setCell ⟨w.heap.size,6,none⟩ (.int .u32 0)).setCell ⟨w.heap.size,7,none⟩ (.int .i64 0))=v9
   have hv2:put8 y2 w.heap.size ⟨0,0,0,0,0,0,0,0⟩=v9:=hv
   clear hv
   have hA:=put8_ib (i:=⟨0,0,0,0,0,0,0,0⟩) m1
   have hC:=put8_below (i:=⟨0,0,0,0,0,0,0,0⟩) bb (Nat.le_refl _)
   rw[hv2] at hA hC
   clear hv2
   obtain⟨q0,q1,q2,q3,q4,q5,q6,q7⟩:=hA.cells
   simp only at q0 q1 q2 q3 q4 q5 q6 q7
   refine bodyPost_ret (v:=.tuple #[.agg #[.int .i64 0,.int .i64 0,.int .i64 0,.int .i64 0,.int .i64 0,.int .i64 0,.int .u32 0,.int .i64 0],.string ⟨#[]⟩,.bool false]) (by simp[results,Tryz.results98,go_sem,q0,q1,q2,q3,q4,q5,q6,q7]) rfl ⟨?_,hC⟩
   rw[HU.out];rfl
  ·rw[show parsV (some ⟨op,d,s',t,u,a,k,pl⟩)=.tuple #[.agg #[.int .i64 op,.int .i64 d,.int .i64 s',.int .i64 t,.int .i64 u,.int .i64 a,.int .u32 k,.int .i64 pl],.int .i64 0] from rfl]
   go_upto_region 7 with fail
   generalize hv:((((((((y.setCell ⟨w.heap.size,0,none⟩ (.int .i64 op)).setCell ⟨w.heap.size,1,none⟩ (.int .i64 d)).setCell ⟨w.heap.size,2,none⟩ (.int .i64 s')).setCell ⟨w.heap.size,3,none⟩ (.int .i64 t)).setCell ⟨w.heap.size,4,none⟩ (.int .i64 u)).setCell ⟨w.heap.size,5,none⟩ (.int .i64 a)).setCell ⟨w.heap.size,6,none⟩ (.int .u32 k)).setCell ⟨w.heap.size,7,none⟩ (.int .i64 pl))=y2
   have hv2:put8 y w.heap.size ⟨op,d,s',t,u,a,k,pl⟩=y2:=hv
   clear hv
   replace m1:=put8_ib (i:=⟨op,d,s',t,u,a,k,pl⟩) m1
   replace bb:=put8_below (i:=⟨op,d,s',t,u,a,k,pl⟩) bb (Nat.le_refl _)
   rw[hv2] at m1 bb
   clear hv2 r0 r1 r2 r3 r4 r5 r6 r7 hfR
   obtain⟨r0,r1,r2,r3,r4,r5,r6,r7⟩:=m1.cells
   simp only at r0 r1 r2 r3 r4 r5 r6 r7
   go_wp2_with fail
   refine(hp.out ⟨op,d,s',t,u,a,k,pl⟩ _).mono ?_
   rintro e y3 ⟨rfl,hby⟩
   replace m1:=m1.below hby
   replace bb:=bb.trans (hby.mono bb.size)
   clear hby r0 r1 r2 r3 r4 r5 r6 r7
   obtain⟨r0,r1,r2,r3,r4,r5,r6,r7⟩:=m1.cells
   have hfR:=Bk.free m1
   simp only at r0 r1 r2 r3 r4 r5 r6 r7
   cases hq:placeB ⟨op,d,s',t,u,a,k,pl⟩ with
   | true=>
    go_wp2
    generalize hv:((((((((y3.setCell ⟨w.heap.size,0,none⟩ (.int .i64 0)).setCell ⟨w.heap.size,1,none⟩ (.int .i64 0)).setCell ⟨w.heap.size,2,none⟩ (.int .i64 0)).setCell ⟨w.heap.size,3,none⟩ (.int .i64 0)).setCell ⟨w.heap.size,4,none⟩ (.int .i64 0)).setCell ⟨w.heap.size,5,none⟩ (.int .i64 0)).setCell ⟨w.heap.size,6,none⟩ (.int .u32 0)).setCell ⟨w.heap.size,7,none⟩ (.int .i64 0))=v9
    have hv2:put8 y3 w.heap.size ⟨0,0,0,0,0,0,0,0⟩=v9:=hv
    clear hv
    have hA:=put8_ib (i:=⟨0,0,0,0,0,0,0,0⟩) m1
    have hC:=put8_below (i:=⟨0,0,0,0,0,0,0,0⟩) bb (Nat.le_refl _)
    rw[hv2] at hA hC
    clear hv2
    obtain⟨q0,q1,q2,q3,q4,q5,q6,q7⟩:=hA.cells
    simp only at q0 q1 q2 q3 q4 q5 q6 q7
    refine bodyPost_ret (v:=.tuple #[.agg #[.int .i64 0,.int .i64 0,.int .i64 0,.int .i64 0,.int .i64 0,.int .i64 0,.int .u32 0,.int .i64 0],.string ⟨#[]⟩,.bool false]) (by simp[results,Tryz.results98,go_sem,q0,q1,q2,q3,q4,q5,q6,q7]) rfl ⟨?_,hC⟩
    rw[HU.out,tailV,if_pos hq];rfl
   | false=>
    go_wp2
    generalize hv:((((((((y3.setCell ⟨w.heap.size,0,none⟩ (.int .i64 op)).setCell ⟨w.heap.size,1,none⟩ (.int .i64 d)).setCell ⟨w.heap.size,2,none⟩ (.int .i64 s')).setCell ⟨w.heap.size,3,none⟩ (.int .i64 t)).setCell ⟨w.heap.size,4,none⟩ (.int .i64 u)).setCell ⟨w.heap.size,5,none⟩ (.int .i64 a)).setCell ⟨w.heap.size,6,none⟩ (.int .u32 k)).setCell ⟨w.heap.size,7,none⟩ (.int .i64 pl))=v9
    have hv2:put8 y3 w.heap.size ⟨op,d,s',t,u,a,k,pl⟩=v9:=hv
    clear hv
    have hA:=put8_ib (i:=⟨op,d,s',t,u,a,k,pl⟩) m1
    have hC:=put8_below (i:=⟨op,d,s',t,u,a,k,pl⟩) bb (Nat.le_refl _)
    rw[hv2] at hA hC
    clear hv2
    obtain⟨q0,q1,q2,q3,q4,q5,q6,q7⟩:=hA.cells
    simp only at q0 q1 q2 q3 q4 q5 q6 q7
    refine bodyPost_ret (v:=.tuple #[.agg #[.int .i64 op,.int .i64 d,.int .i64 s',.int .i64 t,.int .i64 u,.int .i64 a,.int .u32 k,.int .i64 pl],.string ⟨#[]⟩,.bool true]) (by simp[results,Tryz.results98,go_sem,q0,q1,q2,q3,q4,q5,q6,q7]) rfl ⟨?_,hC⟩
    rw[HU.out,tailV,if_neg (by rw[hq];simp)];rfl)
end Go.Proofs.YthdgehcghklflaaGreatDoor
