import Derived.Test.YthdgehcghklflaaGreatDoorRAsmE
import Derived.Test.YthdgehcghklflaaGreatDoorRAsmM
import Derived.Test.YthdgehcghklflaaGreatDoorRAsmD
import Derived.Test.YthdgehcghklflaaGreatDoorREyD3
import Derived.Test.YthdgehcghklflaaGreatDoorREyE2
import Derived.Test.YthdgehcghklflaaGreatDoorREyE5
import Derived.Test.YthdgehcghklflaaGreatDoorREyE6
import Derived.Test.YthdgehcghklflaaGreatDoorREyE8
import Derived.Test.YthdgehcghklflaaGreatDoorREyE9
import Derived.Test.YthdgehcghklflaaGreatDoorRPrgM
import Derived.Test.YthdgehcghklflaaGreatDoorRRefP
import Derived.Deep.Onto
set_option linter.unusedVariables false
namespace Go.Proofs.YthdgehcghklflaaGreatDoor
open Go.ChangeShapes Go.WideShapes Go.ChangeAt Go.RowKit Go.Shelf
attribute [local go_sem] Oper.semAt_some
theorem go_add (s r:List UInt8)(h:Nl s)(n:Int)(ls:List (List UInt8×Int))(rs:List Rw):
 asmGo (s++10 :: r) n ls rs=if (addL s n ls rs).1=0 then asmGo r (n+1) (addL s n ls rs).2.1 (addL s n ls rs).2.2 else (Prg.zero,n,(addL s n ls rs).1):=by
 rw[asmGo_line s r h]
 unfold addL labB
 by_cases h1:lbB s=true
 ·rw[if_pos h1,if_pos h1]
  by_cases h2:(ls.any fun x=>x.1==s.dropLast)=true
  ·rw[if_pos h2,if_pos h2];simp
  ·rw[if_neg h2,if_neg h2];simp
 ·rw[if_neg h1,if_neg h1]
  cases hl:lineL s with
  | none=>simp
  | some q=>
   obtain⟨i,nm⟩:=q
   simp only
   by_cases h3:64≤rs.length
   ·simp[h3]
   ·simp[h3]
structure LinesOk (ls:List (List UInt8×Int))(rs:List Rw)(k:Nat):Prop where
 lab:LabOk ls rs.length
 few:rs.length≤64
 names:∀ r∈rs,r.2.1.length≤16
 many:ls.length≤k
theorem name_len {s:List UInt8}(h:nameB s=true):s.length≤16:=by
 unfold nameB at h
 simp only[Bool.and_eq_true,decide_eq_true_eq] at h
 exact h.2.1
theorem line_name {s:List UInt8}{i:Ins}{nm:List UInt8}(h:lineL s=some (i,nm)):nm.length≤16:=by
 unfold lineL at h
 repeat' split at h
 all_goals first
  | (cases h;done)
  | (cases h;simp;done)
  | (cases h;exact name_len (by rename_i hh;exact hh.2))
theorem LinesOk.add {ls:List (List UInt8×Int)}{rs:List Rw}{k:Nat}(h:LinesOk ls rs k)(s:List UInt8)(n:Int)(h0:(addL s n ls rs).1=0):LinesOk (addL s n ls rs).2.1 (addL s n ls rs).2.2 (k+1):=by
 unfold addL at *
 split at h0
 ·rename_i h1
  rw[if_pos h1]
  split at h0
  ·cases h0
  ·rename_i h2
   rw[if_neg h2]
   refine⟨⟨?_,?_⟩,h.few,h.names,by have:=h.many;simp;omega⟩
   ·rw[List.map_append,List.nodup_append]
    refine⟨h.lab.1,by simp,?_⟩
    intro a ha b hb e
    simp at hb
    subst hb
    subst e
    refine h2 ?_
    unfold labB
    rw[List.any_eq_true]
    obtain⟨x,hx,e⟩:=List.mem_map.1 ha
    exact⟨x,hx,by simpa using e⟩
   ·intro x hx
    rcases List.mem_append.1 hx with hx | hx
    ·exact h.lab.2 x hx
    ·simp at hx
     subst hx
     simp
 ·rename_i h1
  rw[if_neg h1]
  cases hl:lineL s with
  | none=>rw[hl] at h0;cases h0
  | some q=>
   obtain⟨i,nm⟩:=q
   rw[hl] at h0
   simp only at h0 ⊢
   split at h0
   ·cases h0
   ·rename_i h3
    rw[if_neg h3]
    refine⟨⟨h.lab.1,fun x hx=>?_⟩,by simp;omega,fun r hr=>?_,by have:=h.many;simp;omega⟩
    ·have:=h.lab.2 x hx
     simp
     omega
    ·rcases List.mem_append.1 hr with hr | hr
     ·exact h.names r hr
     ·simp at hr
      subst hr
      exact line_name hl
def Asmd (w:World)(text:List UInt8)(e:Ending)(w':World):Prop:=
 ∃ v,e=.returned (.tuple #[v,.int .i64 (asmL text).2.1,.int .i64 (asmL text).2.2])∧Pg w' w.heap.size v (asmL text).1∧Below w.heap.size w w'
theorem below_of_within {B:Nat}{A W:World}{S:Nat→Prop}(h:Within A W S)(hs:∀ b,S b→B≤b)(hB:B≤A.heap.size:=by omega):Below B A W:=⟨h.os,h.tape,h.output,h.size,fun i hi=>h.block i (by omega) (fun e=>by have:=hs i e;omega)⟩
theorem asm_start (w W:World)(hW:W=(((((w.alloc (.cells #[.slice none 0 0,.int .i64 0,.int .i64 0] 25)).alloc (.cells #[.int .i64 0] 3)).alloc (.cells #[.int .i64 0] 30)).alloc (.map #[] 0)).alloc (.cells #[.slice none 0 0,.map (some (w.heap.size+1+1+1))] 137))):
 Below w.heap.size w W∧W.heap.size=w.heap.size+5∧Bk W w.heap.size 25 #[.slice none 0 0,.int .i64 0,.int .i64 0]∧Bk W (w.heap.size+1) 3 #[.int .i64 0]∧Bk W (w.heap.size+2) 30 #[.int .i64 0]∧∀ lo,Dr W (w.heap.size+4) (w.heap.size+3) lo [] []:=by
 have h1:=Bk.made w 25 #[.slice none 0 0,.int .i64 0,.int .i64 0]
 generalize e1:w.alloc (.cells #[.slice none 0 0,.int .i64 0,.int .i64 0] 25)=w1 at *
 have z1:w1.heap.size=w.heap.size+1:=by rw[←e1];simp
 have h2:=Bk.made w1 3 #[.int .i64 0]
 generalize e2:w1.alloc (.cells #[.int .i64 0] 3)=w2 at *
 have z2:w2.heap.size=w.heap.size+2:=by rw[←e2];simp[z1]
 have h3:=Bk.made w2 30 #[.int .i64 0]
 generalize e3:w2.alloc (.cells #[.int .i64 0] 30)=w3 at *
 have z3:w3.heap.size=w.heap.size+3:=by rw[←e3];simp[z2]
 have h4:=Labs.made w3
 generalize e4:w3.alloc (.map #[] 0)=w4 at *
 have z4:w4.heap.size=w.heap.size+4:=by rw[←e4];simp[z3]
 have h5:=Bk.made w4 137 #[.slice none 0 0,.map (some (w.heap.size+1+1+1))]
 rw[←hW] at h5
 have k1:Within w1 w2 (fun _=>False):=by rw[←e2];exact(Within.refl _ _).alloc _
 have k2:Within w2 w3 (fun _=>False):=by rw[←e3];exact(Within.refl _ _).alloc _
 have k3:Within w3 w4 (fun _=>False):=by rw[←e4];exact(Within.refl _ _).alloc _
 have k4:Within w4 W (fun _=>False):=by rw[hW];exact(Within.refl _ _).alloc _
 have k0:Within w w1 (fun _=>False):=by rw[←e1];exact(Within.refl _ _).alloc _
 have k14:=((k1.then_ k2 (by simp)).then_ k3 (by simp)).then_ k4 (by simp)
 have k24:=(k2.then_ k3 (by simp)).then_ k4 (by simp)
 have k34:=k3.then_ k4 (by simp)
 rw[z1] at h2
 rw[z2] at h3
 rw[z3] at h4
 rw[z4] at h5
 refine⟨(k0.then_ k14 (by simp)).below (by simp),by rw[hW];simp[z4],h1.within k14 (by simp),h2.within k24 (by simp),h3.within k34 (by simp),fun lo=>⟨.slice none 0 0,h5,h4.within k4 (by simp),World.ownsRow_nil _ _ _ _⟩⟩
def asmI (w:World)(text:List UInt8)(k:Nat)(W:World):Prop:=
 ∃ (ls:List (List UInt8×Int)) (rs:List Rw) (t:List UInt8),Below w.heap.size w W∧Bk W w.heap.size 25 #[.slice none 0 0,.int .i64 0,.int .i64 0]∧Bk W (w.heap.size+1) 3 #[.int .i64 0]∧Bk W (w.heap.size+2) 30 #[.int .i64 0]∧
  Dr W (w.heap.size+4) (w.heap.size+3) (w.heap.size+13) ls rs∧LinesOk ls rs k∧(linesL text).drop k=linesL t∧t.length≤text.length∧asmL text=asmGo t ((k:Int)+1) ls rs
def asmX (w:World)(text:List UInt8)(c:Code)(W:World):Prop:=
 c=.ret∧∃ ln e:Int,Below w.heap.size w W∧Bk W w.heap.size 25 #[.slice none 0 0,.int .i64 0,.int .i64 0]∧Bk W (w.heap.size+1) 3 #[.int .i64 ln]∧Bk W (w.heap.size+2) 30 #[.int .i64 e]∧asmL text=(Prg.zero,ln,e)
theorem asm_calm {w:World}{text:List UInt8}:∀ k,Calm (fun b=>b=w.heap.size+6∨b=w.heap.size+6+1∨w.heap.size+8≤b∧b < w.heap.size+13) (asmI w text k):=by
 rintro k A B ⟨ls,rs,t,b2,q0,q1,q2,hD,hO,hdr,htl,hgo⟩ hw
 have hA:=b2.size
 exact⟨ls,rs,t,b2.trans (below_of_within hw (by rintro b (rfl | rfl | h) <;> omega)),q0.within hw (by omega),q1.within hw (by omega),q2.within hw (by omega),hD.within hw (by omega) (by omega) (by rintro b (rfl | rfl | h) <;> omega),hO,hdr,htl,hgo⟩
theorem asm_calmx {w:World}{text:List UInt8}:∀ c,Calm (fun b=>b=w.heap.size+6∨b=w.heap.size+6+1∨w.heap.size+8≤b∧b < w.heap.size+13) (asmX w text c):=by
 rintro c A B ⟨rfl,ln,e,b2,q0,q1,q2,hgo⟩ hw
 have hA:=b2.size
 exact⟨rfl,ln,e,b2.trans (below_of_within hw (by rintro b (rfl | rfl | h) <;> omega)),q0.within hw (by omega),q1.within hw (by omega),q2.within hw (by omega),hgo⟩
def put5 (W:World)(g:Nat)(sl a b ln e:Value):World:=((((W.setCell ⟨g,0,none⟩ sl).setCell ⟨g,1,none⟩ a).setCell ⟨g,2,none⟩ b).setCell ⟨g+1,0,none⟩ ln).setCell ⟨g+2,0,none⟩ e
theorem put5_is {w W:World}{x0 x1 x2 y z:Value}(b2:Below w.heap.size w W)(q0:Bk W w.heap.size 25 #[x0,x1,x2])(q1:Bk W (w.heap.size+1) 3 #[y])(q2:Bk W (w.heap.size+2) 30 #[z])(sl a b ln e:Value):
 Below w.heap.size w (put5 W w.heap.size sl a b ln e)∧Bk (put5 W w.heap.size sl a b ln e) w.heap.size 25 #[sl,a,b]∧Bk (put5 W w.heap.size sl a b ln e) (w.heap.size+1) 3 #[ln]∧Bk (put5 W w.heap.size sl a b ln e) (w.heap.size+2) 30 #[e]∧
  Within W (put5 W w.heap.size sl a b ln e) (fun b=>b=w.heap.size∨b=w.heap.size+1∨b=w.heap.size+2):=by
 have h0:=put3_bk q0 sl a b
 have k0:Within W (put3 W w.heap.size sl a b) (fun b=>b=w.heap.size):=(((Within.refl W (fun b=>b=w.heap.size)).put w.heap.size 0 sl (.inl rfl)).put w.heap.size 1 a (.inl rfl)).put w.heap.size 2 b (.inl rfl)
 have h1:=q1.within k0 (by omega)
 have h2:=q2.within k0 (by omega)
 have b0:=put3_below b2 (Nat.le_refl _) sl a b
 have e9:put5 W w.heap.size sl a b ln e=((put3 W w.heap.size sl a b).setCell ⟨w.heap.size+1,0,none⟩ ln).setCell ⟨w.heap.size+2,0,none⟩ e:=rfl
 rw[e9]
 generalize put3 W w.heap.size sl a b=V at *
 refine⟨(b0.setCell (by show w.heap.size≤w.heap.size+1;omega) _).setCell (by show w.heap.size≤w.heap.size+2;omega) _,(h0.off (by show w.heap.size≠w.heap.size+1;omega) _).off (by show w.heap.size≠w.heap.size+2;omega) _,
  (h1.put 0 ln).off (by show w.heap.size+1≠w.heap.size+2;omega) _,(h2.off (by show w.heap.size+2≠w.heap.size+1;omega) _).put 0 e,?_⟩
 exact((k0.wide fun i hi _=>.inl hi).put (w.heap.size+1) 0 ln (.inl (.inr (.inl rfl)))).put (w.heap.size+2) 0 e (.inl (.inr (.inr rfl)))
set_option maxHeartbeats 1000000 in
theorem cAssemble (text:List UInt8)(hl:text.length < 80000)(w:World)(L:Lb w):Calls Tryz.prog 27 #[bs text] w (Asmd w text):=by
 refine(callsIn_wide (n:=0)).1 ?_
 refine callsIn_of_wp_marks Tryz.func27 rfl trivial ?_ rfl
 unfold bs
 simp only[Tryz.ntmps27,List.size_toArray,List.length_cons,List.length_nil,Nat.reduceAdd,Nat.reduceSub,Array.replicate_succ,Array.replicate_zero,List.push_toArray,List.append_toArray,List.nil_append,List.cons_append]
 have hmm:=@run_makeMap Tryz.prog
 have HNB:=Lib.hid (fun W=>(callsIn_wide (n:=0)).2 (cNumbered text W))
 gi_wp2
 refine⟨trivial,rfl,?_⟩
 obtain⟨b0,s0,r0,r1,r2,d0⟩:=asm_start w _ rfl
 generalize ((((((w.alloc (.cells #[.slice none 0 0,.int .i64 0,.int .i64 0] 25)).alloc (.cells #[.int .i64 0] 3)).alloc (.cells #[.int .i64 0] 30)).alloc (.map #[] 0)).alloc (.cells #[.slice none 0 0,.map (some (w.heap.size+1+1+1))] 137)))=W0 at *
 refine(HNB.out _).mono ?_
 rintro e W1 ⟨rfl,rfl⟩
 have t1:=Bk.made W0 9 #[bs text]
 have h1:Within W0 (W0.alloc (.cells #[bs text] 9)) (fun _=>False):=(Within.refl _ _).alloc _
 have s1:(W0.alloc (.cells #[bs text] 9)).heap.size=w.heap.size+6:=by simp[s0]
 rw[s0] at t1 ⊢
 replace b0:=b0.trans (below_of_within h1 (B:=w.heap.size) (by simp))
 replace r0:=r0.within h1 (by simp)
 replace r1:=r1.within h1 (by simp)
 replace r2:=r2.within h1 (by simp)
 replace d0:=(d0 (w.heap.size+13)).within h1 (by simp) (by simp) (by simp)
 generalize W0.alloc (.cells #[bs text] 9)=W1 at *
 clear h1 s0 HNB hmm W0
 gi_wp2
 have HI:=Lib.hid (asm_calm (w:=w) (text:=text))
 have HX:=Lib.hid (asm_calmx (w:=w) (text:=text))
 refine wpIn_range (gf:=93) (lb:=#[.pointer (some ⟨w.heap.size+5,0,none⟩)]) rfl (enters_of Tryz.func93 (by kernel_rfl) rfl)
  (encs:=fun k=>#[.int .i64 ((k:Int)+1),bs (lineAt text k)]) (N:=(linesL text).length) (T:=fun x=>w.heap.size+8≤x∧x < w.heap.size+13) (fun _=>rfl) (by omega) (by omega)
  ?seq (asmI w text) (asmX w text) (by rw[s1];exact HI.out) (by rw[s1];exact HX.out) ⟨[],[],text,b0,r0,r1,r2,d0,⟨⟨by simp,by simp⟩,by simp,by simp,by simp⟩,rfl,Nat.le_refl _,asmGo_all text⟩
  (fun k=>{ tmps:=#[.string ⟨text.toArray⟩,undef,.pointer (some ⟨w.heap.size,0,none⟩),.pointer (some ⟨w.heap.size+1,0,none⟩),.pointer (some ⟨w.heap.size+2,0,none⟩),.pointer (some ⟨w.heap.size+4,0,none⟩),.int .i64 ((k:Int)+1),.string ⟨(lineAt text k).toArray⟩,undef,.map (some (w.heap.size+3)),.agg #[.slice none 0 0,.map (some (w.heap.size+3))],.string ⟨text.toArray⟩,
   .func (.func 93) #[] #[.pointer (some ⟨w.heap.size+5,0,none⟩)],.int .i64 ((k:Int)+1),.string ⟨(lineAt text k).toArray⟩,undef,undef,undef,undef,undef,undef,undef,undef,undef,undef,undef,undef],defers:=[] }) ?assign ?body ?done ?stop
 case seq=>
  intro W4 hb4 hz4
  have hz:W4.heap.size=w.heap.size+8:=by omega
  have:=it_numbered text (w.heap.size+5) (W1.heap.size+1) W4 ((hb4.block _ (by omega)).trans t1) (by omega)
  rw[hz] at this
  exact this
 case assign=>
  intro l2 k W K hK
  unfold bs
  gi_wp2
  exact hK
 case body=>
  rintro l2 k W hk ⟨ls,rs,t,b2,q0,q1,q2,hD,hO,hdr,htl,hgo⟩ hT
  simp only[s1] at hT ⊢
  have hsz:w.heap.size+13≤W.heap.size:=hT (w.heap.size+12) (.inr (.inr ⟨by omega,by omega⟩))
  have hne:t≠[]:=by
   rintro rfl
   have:=congrArg List.length hdr
   simp[linesL] at this
   omega
  have hkl:k < 1000000:=Nat.lt_of_lt_of_le hk (Nat.le_trans (lines_len text) (by omega))
  obtain⟨v0,v1,v2,v3,v4⟩:W.cell? ⟨w.heap.size,0,none⟩=some (.slice none 0 0)∧W.cell? ⟨w.heap.size,1,none⟩=some (.int .i64 0)∧W.cell? ⟨w.heap.size,2,none⟩=some (.int .i64 0)∧W.cell? ⟨w.heap.size+1,0,none⟩=some (.int .i64 0)∧W.cell? ⟨w.heap.size+2,0,none⟩=some (.int .i64 0):=⟨q0.cell 0,q0.cell 1,q0.cell 2,q1.cell 0,q2.cell 0⟩
  have g0:=q0.free
  have g1:=q1.free 0
  have g2:=q2.free 0
  rcases first_nl t with hn | ⟨s,r,hn,rfl⟩
  ·have hline:lineAt text k=t:=by
    have:=congrArg List.head? hdr
    rw[lines_last t hn hne] at this
    simp[List.head?_drop] at this
    simp[lineAt,List.getD_eq_getElem?_getD,this]
   have hres:asmL text=(Prg.zero,(k:Int)+1,8):=by rw[hgo,asmGo_end t hn,if_pos hne]
   have HA:=Lib.hid (CallsIn.inRound l2 ((callsIn_wide (n:=0)).2 (cAddEnd hD t (fun u e=>hn 10 (by rw[e];simp) rfl) (by omega) ((k:Int)+1))))
   rw[hline]
   obtain⟨p0,p1,p2,p3,p4⟩:=put5_is b2 q0 q1 q2 (.slice none 0 0) (.int .i64 0) (.int .i64 0) (.int .i64 ((k:Int)+1)) (.int .i64 8)
   clear hgo hdr hD hO HI HX
   gi_wp2
   refine⟨trivial,rfl,HA.out.mono ?_⟩
   rintro e W5 ⟨rfl,rfl⟩
   gi_wp2
   exact⟨Held.of_within p4 (fun b hb=>⟨hT b hb,by omega⟩),rfl,(k:Int)+1,8,p0,p1,p2,p3,hres⟩
  ·have hline:lineAt text k=s++[10]:=by
    have:=congrArg List.head? hdr
    rw[lines_more s r hn] at this
    simp[List.head?_drop] at this
    simp[lineAt,List.getD_eq_getElem?_getD,this]
   have hdr2:(linesL text).drop (k+1)=linesL r:=by
    have:=congrArg List.tail hdr
    rw[lines_more s r hn] at this
    simpa [List.tail_drop] using this
   have hle:s.length+(r.length+1)≤text.length:=by simpa using htl
   rw[go_add s r hn] at hgo
   have HA:=Lib.hid (CallsIn.inRound l2 ((callsIn_wide (n:=0)).2 (cAddA hD hsz (L.below b2) s (by omega) ((k:Int)+1) (by have:=hO.many;omega) hO.few)))
   have HK:Hid ((addL s ((k:Int)+1) ls rs).1=0→LinesOk (addL s ((k:Int)+1) ls rs).2.1 (addL s ((k:Int)+1) ls rs).2.2 (k+1)):=Lib.hid fun e=>hO.add s _ e
   have HG:=Lib.hid hgo
   rw[hline]
   clear hgo hdr hD hO HI HX
   generalize addL s ((k:Int)+1) ls rs=ad at *
   obtain⟨er,ls2,rs2⟩:=ad
   gi_wp2
   refine⟨trivial,rfl,HA.out.mono ?_⟩
   rintro e W5 ⟨rfl,hD5,hW5⟩
   simp only at hD5 hW5 HK HG ⊢
   clear HA v0 v1 v2 v3 v4 g0 g1 g2
   replace b2:=b2.trans (below_of_within hW5 (B:=w.heap.size) (by rintro b (rfl | rfl | h) <;> omega))
   replace q0:=q0.within hW5 (by rintro(h | h | h) <;> omega)
   replace q1:=q1.within hW5 (by rintro(h | h | h) <;> omega)
   replace q2:=q2.within hW5 (by rintro(h | h | h) <;> omega)
   have hH:Held (fun b=>b=w.heap.size+6∨b=w.heap.size+6+1∨w.heap.size+8≤b∧b < w.heap.size+13) W W5:=Held.of_within hW5 (fun b hb=>⟨hT b hb,by rintro(h | h | h) <;> omega⟩)
   by_cases her:er=0
   ·subst her
    gi_wp2
    refine⟨hH,ls2,rs2,r,b2,q0,q1,q2,hD5,HK.out (by trivial),hdr2,by omega,?_⟩
    rw[HG.out]
    simp
   ·have her2:(er != 0)=true:=by simpa using her
    have hres:asmL text=(Prg.zero,(k:Int)+1,er):=by rw[HG.out,if_neg her]
    obtain⟨v0,v1,v2,v3,v4⟩:W5.cell? ⟨w.heap.size,0,none⟩=some (.slice none 0 0)∧W5.cell? ⟨w.heap.size,1,none⟩=some (.int .i64 0)∧W5.cell? ⟨w.heap.size,2,none⟩=some (.int .i64 0)∧W5.cell? ⟨w.heap.size+1,0,none⟩=some (.int .i64 0)∧W5.cell? ⟨w.heap.size+2,0,none⟩=some (.int .i64 0):=⟨q0.cell 0,q0.cell 1,q0.cell 2,q1.cell 0,q2.cell 0⟩
    have g0:=q0.free
    have g1:=q1.free 0
    have g2:=q2.free 0
    obtain⟨p0,p1,p2,p3,p4⟩:=put5_is b2 q0 q1 q2 (.slice none 0 0) (.int .i64 0) (.int .i64 0) (.int .i64 ((k:Int)+1)) (.int .i64 er)
    clear HK HG hD5 her
    gi_wp2
    exact⟨hH.trans (Held.of_within p4 (fun b hb=>⟨Nat.lt_of_lt_of_le (hT b hb) hH.1,by omega⟩)),rfl,(k:Int)+1,er,p0,p1,p2,p3,hres⟩
 case done=>
  rintro W ⟨ls,rs,t,b2,q0,q1,q2,hD,hO,hdr,htl,hgo⟩ hd
  have ht:t=[]:=by
   rw[List.drop_of_length_le (Nat.le_refl _)] at hdr
   cases t with
   | nil=>rfl
   | cons c u=>
    exfalso
    rcases first_nl (c :: u) with hn | ⟨s,r,hn,e⟩
    ·rw[lines_last _ hn (by simp)] at hdr;cases hdr
    ·rw[e,lines_more s r hn] at hdr;cases hdr
  subst ht
  rw[asmGo_end [] (by unfold Nl;simp),if_neg (by simp)] at hgo
  have HC:=Lib.hid ((callsIn_wide (n:=0)).2 (cCode hD hO.few hO.lab hO.names))
  rw[←hgo] at HC
  clear hgo hD hO hdr htl
  gi_wp2
  refine⟨trivial,rfl,HC.out.mono ?_⟩
  rintro e W5 ⟨v,rfl,⟨sl,rfl,hP⟩,hB⟩
  have hz:=b2.size
  have hlt:=q2.lt
  have hdl:=(Array.getElem?_eq_some_iff.1 hd).1
  replace q0:Bk W5 _ _ _:=(hB.block _ q0.lt).trans q0
  replace q1:Bk W5 _ _ _:=(hB.block _ q1.lt).trans q1
  replace q2:Bk W5 _ _ _:=(hB.block _ q2.lt).trans q2
  replace hd:=(hB.block _ hdl).trans hd
  replace b2:=b2.trans (hB.mono hz)
  obtain⟨v0,v1,v2,v3,v4⟩:W5.cell? ⟨w.heap.size,0,none⟩=some (.slice none 0 0)∧W5.cell? ⟨w.heap.size,1,none⟩=some (.int .i64 0)∧W5.cell? ⟨w.heap.size,2,none⟩=some (.int .i64 0)∧W5.cell? ⟨w.heap.size+1,0,none⟩=some (.int .i64 0)∧W5.cell? ⟨w.heap.size+1+1,0,none⟩=some (.int .i64 0):=⟨q0.cell 0,q0.cell 1,q0.cell 2,q1.cell 0,q2.cell 0⟩
  have g0:=q0.free
  have g1:=q1.free 0
  have g2:W5.frozen? ⟨w.heap.size+1+1,0,none⟩=false:=q2.free 0
  obtain⟨sa,scap,rfl,_,_,_⟩:=own_is hP
  rw[s1] at hd
  have HR:Hid (Asmd w text=fun e w'=>∃ v,e=.returned (.tuple #[v,.int .i64 (asmL text).2.1,.int .i64 (asmL text).2.2])∧Pg w' w.heap.size v (asmL text).1∧Below w.heap.size w w'):=Lib.hid rfl
  generalize asmL text=res at *
  obtain⟨⟨l,plo,pun⟩,ln,er⟩:=res
  simp only at hP q0 q1 q2 v0 v1 v2 v3 v4 g0 g1 g2 hd b2 ⊢
  obtain⟨p0,p1,p2,p3,p4⟩:=put5_is b2 q0 q1 q2 (.slice sa l.length scap) (.int .i64 plo) (.int .i64 pun) (.int .i64 ln) (.int .i64 er)
  have hP2:=own_within hP p4 (fun b e e2=>by
   obtain⟨cs,hcs⟩:=own_bk hP e
   rcases e2 with rfl | rfl | rfl
   ·exact Bk.unlike hcs q0 (by decide) rfl
   ·exact Bk.unlike hcs q1 (by decide) rfl
   ·exact Bk.unlike hcs q2 (by decide) rfl)
  have hd2:=(p4.block _ (Array.getElem?_eq_some_iff.1 hd).1 (by omega)).trans hd
  replace hP2:=World.ownsRow.mono (base':=w.heap.size) hP2 hz
  gi_wp2
  generalize hv:((((W5.setCell ⟨w.heap.size,0,none⟩ (.slice sa l.length scap)).setCell ⟨w.heap.size,1,none⟩ (.int .i64 plo)).setCell ⟨w.heap.size,2,none⟩ (.int .i64 pun)).setCell ⟨w.heap.size+1,0,none⟩ (.int .i64 ln)).setCell ⟨w.heap.size+1+1,0,none⟩ (.int .i64 er)=V
  replace hv:put5 W5 w.heap.size (.slice sa l.length scap) (.int .i64 plo) (.int .i64 pun) (.int .i64 ln) (.int .i64 er)=V:=hv
  rw[hv] at p0 p1 p2 p3 p4 hP2 hd2
  refine⟨by simp,.inl ⟨_,_,rfl,run_takeDeferred hd2,?_⟩⟩
  have hpo:=within_putObj V (w.heap.size+6) (.deferred none) (fun b=>b=w.heap.size+6) rfl
  replace p1:=p1.within hpo (by omega)
  replace p2:=p2.within hpo (by omega)
  replace p3:=p3.within hpo (by omega)
  replace hP2:=own_within hP2 hpo (fun b e e2=>by
   obtain⟨cs,hcs⟩:=own_bk hP2 e
   rw[e2] at hcs
   unfold Bk at hcs
   rw[hd2] at hcs
   cases hcs)
  replace p0:=p0.trans (below_of_within hpo (B:=w.heap.size) (by rintro b rfl;omega) p0.size)
  generalize V.putObj (w.heap.size+6) (.deferred none)=V2 at *
  obtain⟨y0,y1,y2,y3,y4⟩:V2.cell? ⟨w.heap.size,0,none⟩=some (.slice sa l.length scap)∧V2.cell? ⟨w.heap.size,1,none⟩=some (.int .i64 plo)∧V2.cell? ⟨w.heap.size,2,none⟩=some (.int .i64 pun)∧V2.cell? ⟨w.heap.size+1,0,none⟩=some (.int .i64 ln)∧V2.cell? ⟨w.heap.size+1+1,0,none⟩=some (.int .i64 er):=⟨p1.cell 0,p1.cell 1,p1.cell 2,p2.cell 0,p3.cell 0⟩
  refine⟨.tuple #[.agg #[.slice sa l.length scap,.int .i64 plo,.int .i64 pun],.int .i64 ln,.int .i64 er],by simp[results,Tryz.results27,go_sem,y0,y1,y2,y3,y4],?_⟩
  rw[HR.out]
  exact⟨_,rfl,⟨_,rfl,hP2⟩,p0⟩
 case stop=>
  rintro c W ⟨rfl,ln,er,b2,q0,q1,q2,hgo⟩ hd
  gi_wp2
  refine⟨by simp,.inl ⟨_,_,rfl,run_takeDeferred hd,?_⟩⟩
  have hpo:=within_putObj W W1.heap.size (.deferred none) (fun b=>b=W1.heap.size) rfl
  replace q0:=q0.within hpo (by omega)
  replace q1:=q1.within hpo (by omega)
  replace q2:=q2.within hpo (by omega)
  have p0:=b2.trans (below_of_within hpo (B:=w.heap.size) (by rintro b rfl;omega) b2.size)
  generalize W.putObj W1.heap.size (.deferred none)=V2 at *
  obtain⟨y0,y1,y2,y3,y4⟩:V2.cell? ⟨w.heap.size,0,none⟩=some (.slice none 0 0)∧V2.cell? ⟨w.heap.size,1,none⟩=some (.int .i64 0)∧V2.cell? ⟨w.heap.size,2,none⟩=some (.int .i64 0)∧V2.cell? ⟨w.heap.size+1,0,none⟩=some (.int .i64 ln)∧V2.cell? ⟨w.heap.size+1+1,0,none⟩=some (.int .i64 er):=⟨q0.cell 0,q0.cell 1,q0.cell 2,q1.cell 0,q2.cell 0⟩
  refine⟨.tuple #[.agg #[.slice none 0 0,.int .i64 0,.int .i64 0],.int .i64 ln,.int .i64 er],by simp[results,Tryz.results27,go_sem,y0,y1,y2,y3,y4],?_⟩
  unfold Asmd
  rw[hgo]
  exact⟨_,rfl,⟨_,rfl,World.ownsRow_nil _ _ _ _⟩,p0⟩
end Go.Proofs.YthdgehcghklflaaGreatDoor
namespace Go.Proofs.YthdgehcghklflaaGreatDoor
open Go.ChangeShapes Go.WideShapes Go.ChangeAt Go.RowKit
set_option maxRecDepth 100000
def PlainI (i:Ins):Bool:=decide (i.op≠16) && (decide (i.op≠18) && (decide (i.op≠19) && (decide (i.op≠22) && (decide (i.op≠23) && (decide (i.op≠21) || decide (i.pl < 0))))))
theorem step_plain {k:Lk}(hq:k.l.all PlainI=true):StepOk k:=by
 intro w Y m t L h ht
 cases hm:memI k (m.cs t).pc with
 | none=>
  rw[step_none hm]
  exact yTrap h t ht _ hm
 | some i=>
  have hop:=(h.lk.okM hm).op
  have hi:PlainI i=true:=List.all_eq_true.1 hq i (List.mem_of_getElem? (memI_is hm).2.2.1)
  simp only[PlainI,Bool.and_eq_true,Bool.or_eq_true,decide_eq_true_eq] at hi
  obtain⟨h16,h18,h19,h22,h23,h21p⟩:=hi
  cases hf:findM k.zs i.a (nth (m.cs t).xs i.s.toNat) with
  | none=>exact yNoCell h t ht _ L hm ⟨h22,h23⟩ hf
  | some A=>
   by_cases h17:i.op=17
   ·exact yAStore h t ht _ L hm h17 hf
   by_cases h20:i.op=20
   ·exact yAFadd h t ht _ L hm h20 hf
   have h21:i.op=21:=by omega
   have hl:i.pl < 0:=by
    rcases h21p with e | e
    ·exact absurd h21 e
    ·exact e
   cases hh:(decide (nth m.ws A=nth (m.cs t).xs i.t.toNat) != decide (i.k=1)) with
   | true=>exact yAAwaitHold h t ht _ L hm h21 hf hh
   | false=>
    by_cases hL:L=0
    ·rw[show decide (L≠0)=false by simp[hL]]
     exact yAAwaitStay h t ht L hL hm h21 hf hh
    ·rw[show decide (L≠0)=true by simp[hL]]
     exact yAAwaitNever h t ht L hL hm h21 hf hh hl
def labC (x:List UInt8×Int):List Value:=[bs x.1,.int .i64 x.2]
theorem labC_len (x:List UInt8×Int):(labC x).length=2:=rfl
def labsC (ls:List (List UInt8×Int)):List Value:=ls.flatMap labC
theorem labsC_snoc (ls:List (List UInt8×Int))(x:List UInt8×Int):labsC (ls++[x])=labsC ls++labC x:=by simp[labsC]
theorem labsC_at {ls:List (List UInt8×Int)}{k:Nat}{x:List UInt8×Int}(h:ls[k]?=some x){j:Nat}(hj:j < 2):(labsC ls)[k * 2+j]?=(labC x)[j]?:=flat_at labC 2 labC_len ls k j x h hj
theorem labC_one (x:List UInt8×Int):∀ u∈labC x,u.oneCell'=true:=by
 intro u hu
 simp only[labC,List.mem_cons,List.not_mem_nil,or_false] at hu
 rcases hu with rfl | rfl <;> rfl
theorem labInfo:(Tryz.prog.info? 147).map (fun i=>(i.zero,i.size,i.bytes))=some (some (.agg #[bs [],.int .i64 0]),2,24):=by kernel_rfl
theorem strInfo:(Tryz.prog.info? 9).map (fun i=>(i.zero,i.size,i.bytes))=some (some (bs []),1,16):=by kernel_rfl
theorem intInfo:(Tryz.prog.info? 3).map (fun i=>(i.zero,i.size,i.bytes))=some (some (.int .i64 0),1,8):=by kernel_rfl
structure AAt (w W:World)(is:List Ins)(ls:List (List UInt8×Int))(ns:List (List UInt8))(ks:List Int)(vi vl vn vk:Value):Prop where
 b:Below w.heap.size w W
 r:Bk W w.heap.size 35 #[.slice none 0 0,.int .i64 0,.int .i64 0]
 o:Bk W (w.heap.size+1) 35 #[vi,.int .i64 0,.int .i64 0]
 i:W.ownsRow w.heap.size 125 8 vi is.length (progC is)
 l:W.ownsRow w.heap.size 147 2 vl ls.length (labsC ls)
 n:W.ownsRow w.heap.size 9 1 vn ns.length (ns.map bs)
 k:W.ownsRow w.heap.size 3 1 vk ks.length (ks.map (Value.int .i64))
section
variable {w W X w':World}{is:List Ins}{ls:List (List UInt8×Int)}{ns:List (List UInt8)}{ks:List Int}{vi vl vn vk v':Value}
theorem own_unlike {base n size n2 size2 base2:Nat}{t t2:TypeId}{v v2:Value}{xs ys:List Value}(h:W.ownsRow base t size v n xs)(h2:W.ownsRow base2 t2 size2 v2 n2 ys)(ht:t≠t2):∀ g,v.ownBlock=some g→¬ some g=v2.ownBlock:=fun g e e2=>by
 obtain⟨cs,hc⟩:=own_bk h e
 obtain⟨cs2,hc2⟩:=own_bk h2 e2.symm
 exact Bk.unlike hc hc2 ht rfl
theorem own_unbk {base n size g:Nat}{t t2:TypeId}{v:Value}{xs:List Value}{cs:Array Value}(h:W.ownsRow base t size v n xs)(h2:Bk W g t2 cs)(ht:t≠t2):¬ some g=v.ownBlock:=fun e=>by
 obtain⟨cs2,hc2⟩:=own_bk h e.symm
 exact Bk.unlike hc2 h2 ht rfl
theorem AAt.below (h:AAt w W is ls ns ks vi vl vn vk)(hb:Below W.heap.size W X):AAt w X is ls ns ks vi vl vn vk:=
 ⟨h.b.trans (hb.mono h.b.size),(hb.block _ h.r.lt).trans h.r,(hb.block _ h.o.lt).trans h.o,own_within h.i (within_of_below hb) (by simp),own_within h.l (within_of_below hb) (by simp),own_within h.n (within_of_below hb) (by simp),own_within h.k (within_of_below hb) (by simp)⟩
theorem grown_row {v:Value}(hX:Below W.heap.size W X)(hg:X.grownBy w' v.ownBlock):Within W w' (fun b=>some b=v.ownBlock):=
 ((within_of_below hX).wide (by simp)).then_ (.of_grown (S:=fun b=>some b=v.ownBlock) hg (by rintro i e;exact .inl e.symm)) (by rintro i e;exact .inl e)
theorem row_below {v:Value}{base n size:Nat}{t:TypeId}{xs:List Value}(hb:Below base w W)(hs:base≤W.heap.size)(h:W.ownsRow base t size v n xs)(hW:Within W w' (fun b=>some b=v.ownBlock)):Below base w w':=
 hb.trans (below_of_within hW (B:=base) (fun b e=>(World.ownsRow.lt h b e.symm).1) hs)
theorem AAt.lab (h:AAt w W is ls ns ks vi vl vn vk)(hX:Below W.heap.size W X)(hg:X.grownBy w' vl.ownBlock){x:List UInt8×Int}(ho:w'.ownsRow w.heap.size 147 2 v' (ls.length+1) (labsC ls++labC x)):AAt w w' is (ls++[x]) ns ks vi v' vn vk:=by
 have hW:=grown_row hX hg
 exact⟨row_below h.b h.b.size h.l hW,h.r.within hW (own_unbk h.l h.r (by decide)),h.o.within hW (own_unbk h.l h.o (by decide)),own_within h.i hW (own_unlike h.i h.l (by decide)),by rw[labsC_snoc,List.length_append];exact ho,own_within h.n hW (own_unlike h.n h.l (by decide)),own_within h.k hW (own_unlike h.k h.l (by decide))⟩
theorem AAt.nam (h:AAt w W is ls ns ks vi vl vn vk)(hX:Below W.heap.size W X)(hg:X.grownBy w' vn.ownBlock){x:List UInt8}(ho:w'.ownsRow w.heap.size 9 1 v' (ns.length+1) (ns.map bs++[bs x])):AAt w w' is ls (ns++[x]) ks vi vl v' vk:=by
 have hW:=grown_row hX hg
 exact⟨row_below h.b h.b.size h.n hW,h.r.within hW (own_unbk h.n h.r (by decide)),h.o.within hW (own_unbk h.n h.o (by decide)),own_within h.i hW (own_unlike h.i h.n (by decide)),own_within h.l hW (own_unlike h.l h.n (by decide)),by rw[List.map_append,List.length_append];exact ho,own_within h.k hW (own_unlike h.k h.n (by decide))⟩
theorem AAt.lin (h:AAt w W is ls ns ks vi vl vn vk)(hX:Below W.heap.size W X)(hg:X.grownBy w' vk.ownBlock){x:Int}(ho:w'.ownsRow w.heap.size 3 1 v' (ks.length+1) (ks.map (Value.int .i64)++[.int .i64 x])):AAt w w' is ls ns (ks++[x]) vi vl vn v':=by
 have hW:=grown_row hX hg
 exact⟨row_below h.b h.b.size h.k hW,h.r.within hW (own_unbk h.k h.r (by decide)),h.o.within hW (own_unbk h.k h.o (by decide)),own_within h.i hW (own_unlike h.i h.k (by decide)),own_within h.l hW (own_unlike h.l h.k (by decide)),own_within h.n hW (own_unlike h.n h.k (by decide)),by rw[List.map_append,List.length_append];exact ho⟩
theorem AAt.mid (h:AAt w W is ls ns ks vi vl vn vk)(hX:Below W.heap.size W X)(hg:X.grownBy w' vi.ownBlock):Bk w' (w.heap.size+1) 35 #[vi,.int .i64 0,.int .i64 0]:=
 h.o.within (grown_row hX hg) (own_unbk h.i h.o (by decide))
theorem AAt.ins (h:AAt w W is ls ns ks vi vl vn vk)(hX:Below W.heap.size W X)(hg:X.grownBy w' vi.ownBlock){x:Ins}(ho:w'.ownsRow w.heap.size 125 8 v' (is.length+1) (progC is++insC x)):AAt w (w'.setCell ⟨w.heap.size+1,0,none⟩ v') (is++[x]) ls ns ks v' vl vn vk:=by
 have hW:=grown_row hX hg
 have hB:=row_below h.b h.b.size h.i hW
 have h2:Within w' (w'.setCell ⟨w.heap.size+1,0,none⟩ v') (fun b=>b=w.heap.size+1):=(Within.refl w' _).put _ _ _ (.inl rfl)
 have hr:=h.r.within hW (own_unbk h.i h.r (by decide))
 have hO:=h.o.within hW (own_unbk h.i h.o (by decide))
 have hl:=own_within h.l hW (own_unlike h.l h.i (by decide))
 have hn:=own_within h.n hW (own_unlike h.n h.i (by decide))
 have hk:=own_within h.k hW (own_unlike h.k h.i (by decide))
 refine⟨hB.setCell (by show w.heap.size≤w.heap.size+1;omega) _,hr.within h2 (by omega),hO.put 0 v',?_,own_within hl h2 ?_,own_within hn h2 ?_,own_within hk h2 ?_⟩
 ·rw[progC_snoc,List.length_append]
  refine own_within ho h2 ?_
  rintro g e rfl
  exact own_unbk ho hO (by decide) e.symm
 ·rintro g e rfl
  exact own_unbk hl hO (by decide) e.symm
 ·rintro g e rfl
  exact own_unbk hn hO (by decide) e.symm
 ·rintro g e rfl
  exact own_unbk hk hO (by decide) e.symm
theorem AAt.ls_at (h:AAt w W is ls ns ks vi vl vn vk):∃ a cap,vl=.slice a ls.length cap∧ls.length≤cap∧cap≤maxLen∧LsAt W a ls:=by
 obtain⟨a,cap,rfl,h1,h2,hg⟩:=own_is h.l
 refine⟨a,cap,rfl,h1,h2,fun j x hx=>?_⟩
 have hj:=(List.getElem?_eq_some_iff.1 hx).1
 obtain⟨g,rfl,_,_,hlt,_,hc⟩:=hg (by omega)
 refine⟨g,rfl,hlt,?_,?_⟩
 ·have:=hc (j * 2) (by omega)
  rw[this]
  have:=labsC_at hx (j:=0) (by omega)
  rw[Nat.add_zero] at this
  rw[this]
  rfl
 ·have:=hc (j * 2+1) (by omega)
  rw[this,labsC_at hx (j:=1) (by omega)]
  rfl
end
theorem one_at {W:World}{base n m cap:Nat}{t:TypeId}{a:Option Addr}{xs:List Value}(h:W.ownsRow base t 1 (.slice a m cap) n xs){j:Nat}{u:Value}(hj:xs[j]?=some u):∃ g,a=some ⟨g,0,none⟩∧g < W.heap.size∧W.cell? ⟨g,j,none⟩=some u:=by
 have hl:=h.1
 have hlt:=(List.getElem?_eq_some_iff.1 hj).1
 obtain⟨a2,cap2,e,_,_,hg⟩:=own_is h
 simp only[Value.slice.injEq] at e
 obtain⟨rfl,-,-⟩:=e
 obtain⟨g,rfl,_,_,hgl,_,hc⟩:=hg (by omega)
 exact⟨g,rfl,hgl,by rw[hc j (by omega),hj]⟩
theorem progC_set:∀ (l:List Ins) (j:Nat) (i:Ins) (p:Int),l[j]?=some i→progC (l.set j { i with pl:=p })=(progC l).set (j * 8+7) (.int .i64 p)
 | [],j,i,p,h=>by simp at h
 | x :: l,0,i,p,h=>by
  simp at h
  subst h
  rfl
 | x :: l,j+1,i,p,h=>by
  have ih:=progC_set l j i p (by simpa using h)
  have e:(j+1) * 8+7=8+(j * 8+7):=by omega
  show insC x++progC (l.set j { i with pl:=p })=(insC x++progC l).set ((j+1) * 8+7) _
  rw[ih,e,List.set_append_right _ _ (by rw[insC_len];omega),insC_len]
  congr 2
  omega
theorem AAt.place {w W:World}{is:List Ins}{ls:List (List UInt8×Int)}{ns:List (List UInt8)}{ks:List Int}{vl vn vk:Value}{a:Option Addr}{n cap:Nat}(h:AAt w W is ls ns ks (.slice a n cap) vl vn vk){j:Nat}{i:Ins}(hj:is[j]?=some i):∃ g,a=some ⟨g,0,none⟩∧g < W.heap.size∧w.heap.size≤g∧W.cell? ⟨g,j * 8+7,none⟩=some (.int .i64 i.pl)∧(∀ o,W.frozen? ⟨g,o,none⟩=false):=by
 have hlt:=(List.getElem?_eq_some_iff.1 hj).1
 obtain⟨a2,cap2,e,_,_,hg⟩:=own_is h.i
 simp only[Value.slice.injEq] at e
 obtain⟨rfl,-,-⟩:=e
 obtain⟨g,rfl,_,hge,hgl,hf,hc⟩:=hg (by omega)
 refine⟨g,rfl,hgl,hge,?_,hf⟩
 rw[hc _ (by omega),progC_at hj (by omega)]
 rfl
theorem AAt.to_ {w W:World}{is:List Ins}{ls:List (List UInt8×Int)}{ns:List (List UInt8)}{ks:List Int}{vl vn vk:Value}{g n cap:Nat}(h:AAt w W is ls ns ks (.slice (some ⟨g,0,none⟩) n cap) vl vn vk){j:Nat}{i:Ins}(hj:is[j]?=some i)(p:Int):
 AAt w (W.setCell ⟨g,j * 8+7,none⟩ (.int .i64 p)) (is.set j { i with pl:=p }) ls ns ks (.slice (some ⟨g,0,none⟩) n cap) vl vn vk:=by
 have hn:n=is.length:=by
  obtain⟨a2,cap2,e,_,_,_⟩:=own_is h.i
  simp only[Value.slice.injEq] at e
  exact e.2.1
 subst hn
 have h2:Within W (W.setCell ⟨g,j * 8+7,none⟩ (.int .i64 p)) (fun b=>some b=(Value.slice (some ⟨g,0,none⟩) is.length cap).ownBlock):=(Within.refl W _).put _ _ _ (.inl rfl)
 refine⟨row_below h.b h.b.size h.i h2,h.r.within h2 (own_unbk h.i h.r (by decide)),h.o.within h2 (own_unbk h.i h.o (by decide)),?_,own_within h.l h2 (own_unlike h.l h.i (by decide)),own_within h.n h2 (own_unlike h.n h.i (by decide)),own_within h.k h2 (own_unlike h.k h.i (by decide))⟩
 rw[progC_set is j i p hj,List.length_set]
 exact(World.ownsRow.stored h.i (j * 8+7) (.int .i64 p)).1
-- bytes of a text,up to an end of line
structure LpA (text:List UInt8)(fr k ln:Nat)(ls:List (List UInt8×Int))(rs:List (Ins×List UInt8×Int)):Prop where
 fk:fr≤k
 lk:ln≤k
 few:rs.length≤64
 many:ls.length≤k
 no:Nl ((text.take k).drop fr)
 go:asmL text=asmGo (text.drop fr) ((ln:Int)+1) ls rs
section
variable {text:List UInt8}{fr k ln:Nat}{ls:List (List UInt8×Int)}{rs:List (Ins×List UInt8×Int)}
theorem cut_snoc (h:fr≤k)(hk:k < text.length):(text.take (k+1)).drop fr=(text.take k).drop fr++[text[k]]:=by
 have e:text.take (k+1)=text.take k++[text[k]]:=by simp
 rw[e,List.drop_append,List.length_take,Nat.min_eq_left (by omega),show fr - k=0 by omega]
 rfl
theorem cut_split (h:fr≤k)(hk:k < text.length):text.drop fr=(text.take k).drop fr++text[k] :: text.drop (k+1):=by
 have e:text=text.take k++text[k] :: text.drop (k+1):=by
  rw[List.getElem_cons_drop hk,List.take_append_drop]
 have e2:text.drop fr=(text.take k++text[k] :: text.drop (k+1)).drop fr:=congrArg (List.drop fr) e
 rw[e2,List.drop_append,List.length_take,Nat.min_eq_left (by omega),show fr - k=0 by omega]
 rfl
theorem LpA.on (h:LpA text fr k ln ls rs)(hk:k < text.length)(hc:text[k]≠10):LpA text fr (k+1) ln ls rs:=by
 refine⟨by have:=h.fk;omega,by have:=h.lk;omega,h.few,by have:=h.many;omega,?_,h.go⟩
 rw[cut_snoc h.fk hk]
 exact Nl.app h.no (fun c hc'=>by simp at hc';subst hc';exact hc)
theorem LpA.line (h:LpA text fr k ln ls rs)(hk:k < text.length)(hc:text[k]=10):asmL text=asmGo ((text.take k).drop fr++10 :: text.drop (k+1)) ((ln:Int)+1) ls rs:=by
 rw[h.go,cut_split h.fk hk,hc]
theorem LpA.next (h:LpA text fr k ln ls rs)(hk:k < text.length){ls2:List (List UInt8×Int)}{rs2:List (Ins×List UInt8×Int)}(hf:rs2.length≤64)(hm:ls2.length≤ls.length+1)(hg:asmL text=asmGo (text.drop (k+1)) ((ln:Int)+1+1) ls2 rs2):LpA text (k+1) (k+1) (ln+1) ls2 rs2:=by
 refine⟨Nat.le_refl _,by have:=h.lk;omega,hf,by have:=h.many;omega,?_,by rw[hg];push_cast;rfl⟩
 intro c hc
 rw[List.drop_of_length_le (by simp;omega)] at hc
 cases hc
theorem LpA.twice (h:LpA text fr k ln ls rs)(hk:k < text.length)(hc:text[k]=10)(hl:lbB ((text.take k).drop fr)=true)(ha:(ls.any fun x=>x.1==((text.take k).drop fr).dropLast)=true):asmL text=(Prg.zero,(ln:Int)+1,2):=by
 rw[h.line hk hc,asmGo_line _ _ h.no,if_pos hl,if_pos ha]
theorem LpA.label (h:LpA text fr k ln ls rs)(hk:k < text.length)(hc:text[k]=10)(hl:lbB ((text.take k).drop fr)=true)(ha:(ls.any fun x=>x.1==((text.take k).drop fr).dropLast)=false):LpA text (k+1) (k+1) (ln+1) (ls++[(((text.take k).drop fr).dropLast,(rs.length:Int))]) rs:=
 h.next hk h.few (by simp) (by rw[h.line hk hc,asmGo_line _ _ h.no,if_pos hl,if_neg (by rw[ha];simp)])
theorem LpA.none_ (h:LpA text fr k ln ls rs)(hk:k < text.length)(hc:text[k]=10)(hl:lbB ((text.take k).drop fr)=false)(hn:lineL ((text.take k).drop fr)=none):asmL text=(Prg.zero,(ln:Int)+1,8):=by
 rw[h.line hk hc,asmGo_line _ _ h.no,if_neg (by rw[hl];simp),hn]
theorem LpA.big (h:LpA text fr k ln ls rs)(hk:k < text.length)(hc:text[k]=10)(hl:lbB ((text.take k).drop fr)=false){i:Ins}{nm:List UInt8}(hn:lineL ((text.take k).drop fr)=some (i,nm))(hb:64≤rs.length):asmL text=(Prg.zero,(ln:Int)+1,9):=by
 rw[h.line hk hc,asmGo_line _ _ h.no,if_neg (by rw[hl];simp),hn]
 simp only
 rw[if_pos hb]
theorem LpA.row (h:LpA text fr k ln ls rs)(hk:k < text.length)(hc:text[k]=10)(hl:lbB ((text.take k).drop fr)=false){i:Ins}{nm:List UInt8}(hn:lineL ((text.take k).drop fr)=some (i,nm))(hb:rs.length < 64):LpA text (k+1) (k+1) (ln+1) ls (rs++[(i,nm,(ln:Int)+1)]):=
 h.next hk (by simp;omega) (by omega) (by
  rw[h.line hk hc,asmGo_line _ _ h.no,if_neg (by rw[hl];simp),hn]
  simp only
  rw[if_neg (by omega)])
theorem LpA.short (h:LpA text fr text.length ln ls rs)(hf:fr < text.length):asmL text=(Prg.zero,(ln:Int)+1,8):=by
 have hn:=h.no
 rw[List.take_length] at hn
 rw[h.go,asmGo_end _ hn,if_pos (by intro e;have:=congrArg List.length e;simp at this;omega)]
theorem LpA.end_ (h:LpA text fr text.length ln ls rs)(hf:¬ fr < text.length):asmL text=finishL ls rs:=by
 have hn:=h.no
 rw[List.take_length] at hn
 rw[h.go,asmGo_end _ hn,if_neg (by rw[List.drop_of_length_le (by omega)];simp)]
end
def Asmr (w:World)(text:List UInt8)(e:Ending)(w':World):Prop:=
 ∃ v,e=.returned (.tuple #[v,.int .i64 (asmL text).2.1,.int .i64 (asmL text).2.2])∧(∃ sl,v=.agg #[sl,.int .i64 (asmL text).1.lo,.int .i64 (asmL text).1.un]∧w'.ownsRow w.heap.size 125 8 sl (asmL text).1.l.length (progC (asmL text).1.l))∧Below w.heap.size w w'
theorem asmr_no {w w':World}{text:List UInt8}{n e:Int}(h:asmL text=(Prg.zero,n,e))(hb:Below w.heap.size w w'):Asmr w text (.returned (.tuple #[.agg #[.slice none 0 0,.int .i64 0,.int .i64 0],.int .i64 n,.int .i64 e])) w':=by
 unfold Asmr
 rw[h]
 exact⟨_,rfl,⟨_,rfl,World.ownsRow_nil _ _ _ _⟩,hb⟩
end Go.Proofs.YthdgehcghklflaaGreatDoor
