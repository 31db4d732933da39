import Derived.Test.YthdgehcghklflaaGreatDoorRMem
import Derived.Test.YthdgehcghklflaaGreatDoorProg
import Derived.Lib.Hide
import Derived.WalkKit
import Derived.ProofKit
import Derived.WalkLawsBesides
import Derived.Lib.ItoaNum
import Derived.Lib.Strings
import Derived.Deep.RegionLaw
import Derived.Laws.IdiomStrings
import Derived.Deep.QuietTactic
import Derived.BigQuiet
import Derived.StillTailTactics
import Derived.Deep.RegionHeld3
import Derived.RegionTactic
import Derived.Laws.Pointers
import Derived.Maps.OwnSet
import Derived.Test.YthdgehcghklflaaGreatDoorShelf
import Derived.Lib.AtoiErrMem
import Derived.Lib.AtoiAll
import Derived.Test.YthdgehcghklflaaGreatDoorRows
import Derived.ArgAppend
import Derived.Deep.RegionLawGrows
import Derived.Deep.Onto
import Derived.Lib.SmallJoins
import Derived.Deep.CutBlock
import Derived.Lib.IndexMore
set_option linter.unusedVariables false
namespace Go.Proofs.YthdgehcghklflaaGreatDoor
open Go.ChangeShapes Go.WideShapes Go.ChangeAt Go.RowKit
def bs (l:List UInt8):Value:=.string ⟨l.toArray⟩
theorem run_ltr (hs:List UInt8)(n:Nat)(h:n < hs.length)(w:World):(Instr.index 9 (.string ⟨hs.toArray⟩) (.int .i64 n)).run Tryz.prog w=.ok (.int .u8 ((hs.getD n 0).toNat:Int)) w:=by
 have hu:=Tryz.underlying9
 have h2:(n:Int) < (hs.length:Int):=by omega
 go_simp
 rfl
theorem cat_bs (a b:List UInt8):(⟨a.toArray⟩:ByteArray)++⟨b.toArray⟩=⟨(a++b).toArray⟩:=by
 apply ByteArray.ext
 simp
theorem run_cat (a b:List UInt8)(h:a.length+b.length < 1000000)(w:World):(binOp .add 9 (.string ⟨a.toArray⟩) (.string ⟨b.toArray⟩)).run Tryz.prog w=.ok (.string ⟨(a++b).toArray⟩) w:=by
 have hu:=Tryz.underlying9
 go_simp
 rw[if_neg (by omega),cat_bs]
theorem ret_bs {a b:List UInt8}(h:a=b):Ending.returned (.string ⟨a.toArray⟩)=.returned (bs b):=by rw[h];rfl
theorem itoa_len (n:Int)(h0:-9223372036854775808≤n)(h1:n≤9223372036854775807):(Lib.itoa n).length≤30:=by
 have key:∀ (m u:Nat),u < 10 ^ (m+1)→(Lib.decDigits u).length≤m+1:=by
  intro m
  induction m with
  | zero=>intro u hu;rw[Lib.decDigits,dif_pos (by simpa using hu)];simp
  | succ m ih=>
   intro u hu
   rw[Lib.decDigits]
   by_cases h:u < 10
   ·rw[dif_pos h];simp
   ·rw[dif_neg h]
    have h2:u / 10 < 10 ^ (m+1):=by
     rw[Nat.div_lt_iff_lt_mul (by decide)]
     rw[Nat.pow_succ] at hu
     exact hu
    have:=ih _ h2
    simp
    omega
 have e:(10:Nat) ^ (19+1)=100000000000000000000:=by decide
 unfold Lib.itoa
 split
 ·have:=key 19 n.natAbs (by rw[e];omega)
  simp;omega
 ·have:=key 19 n.toNat (by rw[e];omega)
  omega
theorem run_str1 (W:World)(b:Nat)(c:UInt8)(h:W.cell? ⟨b,0,none⟩=some (.int .u8 (c.toNat:Int))):
 (convert 272 9 (.slice (some ⟨b,0,none⟩) 1 1)).run Tryz.prog W=.ok (.string ⟨#[c]⟩) W:=
 run_convert_bytes_back W 272 9 5 ⟨b,0,none⟩ 1 [c] Tryz.underlying272 Tryz.underlying5 Tryz.underlying9 (fun j hj=>by
  simp only[List.length_cons,List.length_nil] at hj
  obtain rfl:j=0:=by omega
  have e:(⟨b,0,none⟩:Addr).add 0=⟨b,0,none⟩:=by unfold Addr.add;simp
  rw[e]
  exact h)
theorem dec_lenB (n:Nat)(h:n < 5000000000000000):(Lib.decDigits n).length≤30:=by
 have:=itoa_len n (by omega) (by omega)
 unfold Lib.itoa at this
 rw[if_neg (by omega)] at this
 simpa using this
set_option maxRecDepth 20000 in
theorem rDigB:∀ (n:Nat) (w:World),n < 5000000000000000→Calls Tryz.prog 164 #[.int .i64 n] w fun e w'=>e=.returned (bs (Lib.decDigits n))∧Below w.heap.size w w':=by
 intro n
 induction n using Nat.strongRecOn with
 | _ n ih=>
  intro w hn
  by_cases h:n < 10
  ·have E:=Lib.hid (show Lib.decDigits n=[UInt8.ofNat (48+n)] by rw[Lib.decDigits,dif_pos h])
   clear ih
   have hi:(n:Int) < 10:=by omega
   have hc:((UInt8.ofNat (48+n)).toNat:Int)=48+(n:Int):=by
    rw[UInt8.toNat_ofNat',Nat.mod_eq_of_lt (by omega)];omega
   have hcv:=run_str1 (w.alloc (.cells #[.int .u8 (48+(n:Int))] 5)) w.heap.size (UInt8.ofNat (48+n)) (by rw[hc];exact Bk.cell (Bk.made w _ _) 0)
   clear hc
   generalize UInt8.ofNat (48+n)=c at *
   go_enter Tryz.func164,Tryz.ntmps164
   go_wp2
   go_ret
   exact⟨by rw[E.out];rfl,(Below.refl _ _).alloc (Nat.le_refl _) _⟩
  ·have E:=Lib.hid (show Lib.decDigits n=Lib.decDigits (n / 10)++[UInt8.ofNat (48+n % 10)] by rw[Lib.decDigits,dif_neg h])
   have hsz:¬ 9223372036854775807 < (Lib.decDigits (n / 10)).length+1:=by have:=dec_lenB (n / 10) (by omega);omega
   have HI:=Lib.hid (fun W=>ih (n / 10) (by omega) W (by omega))
   clear ih
   have hm:n % 10 < 10:=by omega
   have hl:=dec_lenB (n / 10) (by omega)
   have hc:((UInt8.ofNat (48+n % 10)).toNat:Int)=48+((n % 10:Nat):Int):=by
    rw[UInt8.toNat_ofNat',Nat.mod_eq_of_lt (by omega)];omega
   have hcv:∀ W b,W.cell? ⟨b,0,none⟩=some (.int .u8 (48+((n % 10:Nat):Int)))→(convert 272 9 (.slice (some ⟨b,0,none⟩) 1 1)).run Tryz.prog W=.ok (.string ⟨#[UInt8.ofNat (48+n % 10)]⟩) W:=fun W b h=>run_str1 W b _ (by rw[hc];exact h)
   have hd:¬ (n:Int) < 10:=by omega
   have hcat:=cat_bs (Lib.decDigits (n / 10)) [UInt8.ofNat (48+n % 10)]
   have hq1:(n:Int) / 10=((n / 10:Nat):Int):=by omega
   have hq2:(n:Int) % 10=((n % 10:Nat):Int):=by omega
   have hq3:(n:Int).tmod 10=((n % 10:Nat):Int):=by rw[Int.tmod_eq_emod_of_nonneg (by omega)];omega
   have hw1:IntKind.i64.wrap ((n / 10:Nat):Int)=((n / 10:Nat):Int):=IntWalk.i64_in _ (by omega)
   have hw2:IntKind.i64.wrap ((n % 10:Nat):Int)=((n % 10:Nat):Int):=IntWalk.i64_in _ (by omega)
   have hw3:IntKind.i64.wrap (48+((n % 10:Nat):Int))=48+((n % 10:Nat):Int):=IntWalk.i64_in _ (by omega)
   have hw4:IntKind.u8.wrap (48+((n % 10:Nat):Int))=48+((n % 10:Nat):Int):=by simp[IntKind.wrap,IntKind.signed,IntKind.bits];omega
   clear hc
   generalize UInt8.ofNat (48+n % 10)=c at *
   generalize Lib.decDigits (n / 10)=l at *
   generalize hmm:n % 10=m at *
   generalize hqq:n / 10=q at *
   clear hmm hqq
   go_enter Tryz.func164,Tryz.ntmps164
   go_wp2
   go_region_law (first | (go_simp;go_at_call 164;refine(HI.out _).mono ?_;rintro e y ⟨rfl,hy⟩;have hcy:∀ b o,b < _→y.cell? ⟨b,o,none⟩=_:=fun b o h=>hy.cell (p:=⟨b,o,none⟩) h;unfold bs))
   all_goals
    clear hq1 hq2 hq3 hw1 hw2 hw3 hw4 hcv
    go_wp2
    go_ret
    refine⟨by rw[E.out];rfl,?_⟩
    first | exact(((Below.refl _ _).alloc (Nat.le_refl _) _).drew).trans (hy.mono (by simp)) | exact(below_of_drew hy).alloc (below_of_drew hy).size _
theorem dec_len (n:Nat)(h:n < 5000000000):(Lib.decDigits n).length≤30:=dec_lenB n (by omega)
theorem rDigits (n:Nat)(w:World)(h:n < 5000000000):Calls Tryz.prog 164 #[.int .i64 n] w fun e w'=>e=.returned (bs (Lib.decDigits n))∧Below w.heap.size w w':=rDigB n w (by omega)
theorem itoa_nat (n:Nat):Lib.itoa (n:Int)=Lib.decDigits n:=by
 unfold Lib.itoa
 rw[if_neg (by omega)]
 rfl
theorem rDig (n:Nat)(w:World)(h:n < 5000000000):Calls Tryz.prog 164 #[.int .i64 n] w fun e w'=>e=.returned (.string ⟨(Lib.decDigits n).toArray⟩)∧Below w.heap.size w w':=rDigits n w h
theorem cat2 (a b:List UInt8)(m n:Nat)(ha:a.length≤m)(hb:b.length≤n)(hm:m≤1000:=by decide)(hn:n≤1000:=by decide):
 ∃ z,z=a++b∧(⟨a.toArray⟩:ByteArray)++⟨b.toArray⟩=⟨z.toArray⟩∧¬ 9223372036854775807 < a.length+b.length∧z.length≤m+n:=
 ⟨a++b,rfl,cat_bs a b,by omega,by simp;omega⟩
theorem run_cutS (s:List UInt8)(f i:Nat)(h:f≤i)(hi:i≤s.length)(w:World):(Instr.slice 9 (.string ⟨s.toArray⟩) (some (.int .i64 f)) (some (.int .i64 i)) none).run Tryz.prog w=.ok (.string ⟨((s.take i).drop f).toArray⟩) w:=by
 have hu:=Tryz.underlying9
 go_simp
 apply ByteArray.ext
 rw[ByteArray.data_extract]
 apply Array.ext'
 simp[List.drop_take]
def leavesK (P:Program)(K:Value→World→Prop):Result Next→Prop
 | .ok (.value v) W'=>K v W'
 | .ok .skip W'=>K undef W'
 | .ok (.enter f args) W'=>Calls P f args W' fun e W2=>∃ v,e=.returned v∧K v W2
 | _=>False
def leavesIf (P:Program)(ops:Array Oper)(K:Value→World→Prop)(o:Oper)(a:Act)(W:World):Prop:=
 if Region.wanted o (yielded ops a.tmps)=true then leavesK P K ((execOp a.eval o).run P W) else K undef W
theorem leavesIf_of {P:Program}{ops:Array Oper}{F:Value→World→Prop}{K:Value→World→Prop}{o:Oper}{a:Act}{W:World}(h:leavesOp P ops F o a W)(hK:∀ v W',F v W'→Below W.heap.size W W'→K v W'):leavesIf P ops K o a W:=by
 unfold leavesOp at h
 unfold leavesIf
 by_cases hw:Region.wanted o (yielded ops a.tmps)=true
 ·rw[if_pos hw] at h ⊢
  generalize (execOp a.eval o).run P W=r at *
  cases r with
  | ok x W'=>
   cases x <;> simp only[leaves,leavesK] at h ⊢
   ·exact hK _ _ h.1 h.2
   ·exact hK _ _ h.1 h.2
   ·exact h.mono fun e W2 ⟨v,he,h1,h2⟩=>⟨v,he,hK _ _ h1 h2⟩
  | halt x W'=>simp only[leaves] at h
 ·rw[if_neg hw] at h ⊢
  exact hK _ _ h (Below.refl _ _)
theorem leavesIf_free {P:Program}{ops:Array Oper}{K:Value→World→Prop}{o:Oper}{a:Act}{W:World}(hg:o.guard=none)(h:leavesK P K ((execOp a.eval o).run P W)):leavesIf P ops K o a W:=by
 unfold leavesIf
 rw[if_pos (by simp[Region.wanted,hg])]
 exact h
theorem leavesIf_mono {P:Program}{ops:Array Oper}{K K':Value→World→Prop}{o:Oper}{a:Act}{W:World}(h:leavesIf P ops K o a W)(hK:∀ v W',K v W'→K' v W'):leavesIf P ops K' o a W:=by
 unfold leavesIf at *
 by_cases hw:Region.wanted o (yielded ops a.tmps)=true
 ·rw[if_pos hw] at h ⊢
  generalize (execOp a.eval o).run P W=r at *
  cases r with
  | ok x W'=>
   cases x <;> simp only[leavesK] at h ⊢
   ·exact hK _ _ h
   ·exact hK _ _ h
   ·exact h.mono fun e W2 ⟨v,he,h1⟩=>⟨v,he,hK _ _ h1⟩
  | halt x W'=>simp only[leavesK] at h
 ·rw[if_neg hw] at h ⊢
  exact hK _ _ h
theorem wp_region_holds {P:Program}{ops:Array Oper}{Q:Exit→Act→World→Prop}{id:Nat}{a:Act}{w:World}(hm:P.follows .mixedOrders=true)(hr:relyB ops=true)(I:(Nat→Bool)→(Nat→Value)→World→Prop)
 (h0:I (fun _=>false) (fun _=>undef) w.drew)
 (hop:∀ i o,ops[i]?=some o→∀ (d:Nat→Bool) (vs:Nat→Value) W,I d vs W→d i=false→(∀ j∈depsOf ops i,d j=true)→leavesIf P ops (fun v W'=>I (fun j=>if j=i then true else d j) (fun j=>if j=i then v else vs j) W') o (frameOf ops a (fun _=>true) vs) W)
 (hend:∀ (d:Nat→Bool) (vs:Nat→Value) W,I d vs W→(∀ i,i < ops.size→d i=true)→Q .normal (frameOf ops a (fun _=>true) vs) W):(Code.region id ops true).wp P Q a w:=by
 have hR:∀ i o,ops[i]?=some o→noSel o.op=true∧(∀ t∈o.looksAt ops,∀ j,ownOf ops t=some j→j∈depsOf ops i)∧(∀ x,o.dst=some x→ownOf ops x=some i)∧∀ j∈depsOf ops i,j < i:=by
  intro i o ho
  have hi:i < ops.size:=(Array.getElem?_eq_some_iff.1 ho).1
  unfold relyB at hr
  have h:=List.all_eq_true.1 hr i (List.mem_range.2 hi)
  rw[ho] at h
  simp only[Bool.and_eq_true] at h
  refine⟨h.1.1.1,fun t ht j hj=>?_,fun x hx=>?_,fun j hj=>?_⟩
  ·have:=List.all_eq_true.1 h.1.1.2 t ht
   rw[hj] at this
   simpa using this
  ·have:=h.1.2
   rw[hx] at this
   simpa using this
  ·have:=List.all_eq_true.1 h.2 j hj
   simpa using this
 have hN:∀ t i o,ops[i]?=some o→ownOf ops t=some i→o.dst=some t:=by
  intro t i o ho h
  have:=List.find?_some h
  simp only[dstOf,ho,Option.bind_some,beq_iff_eq] at this
  exact this
 refine wp_region_inv hm (fun listed a' W=>∃ vs:Nat→Value,listed.size=ops.size∧a'=frameOf ops a (fun i=>listed.getD i false) vs∧I (fun i=>listed.getD i false) vs W) ?_ ?_ ?_
 ·have e:(fun i=>(Array.replicate ops.size false).getD i false)=fun _=>false:=by
   funext i
   rw[Array.getD_eq_getD_getElem?,Array.getElem?_replicate]
   split <;> rfl
  refine⟨fun _=>undef,by simp,?_,?_⟩
  ·rw[e,frame_none]
  ·rw[e];exact h0
 ·rintro listed a' W i ⟨vs,hsz,rfl,hI⟩ hi
  have hfree:=ready_free hi
  have hready:=hi
  unfold Region.ready at hready
  rw[List.mem_filter,List.mem_range] at hready
  obtain⟨hlt,hc⟩:=hready
  simp only[Bool.and_eq_true] at hc
  have hc2:=hc.2
  have ho:ops[i]?=some ops[i]:=Array.getElem?_eq_getElem hlt
  rw[ho] at hc2
  simp only[Option.map_some,Option.getD_some] at hc2
  rw[←Array.all_toList,List.all_eq_true] at hc2
  generalize ops[i]=o at *
  obtain⟨r1,r2,r3,r4⟩:=hR i o ho
  have hdep:∀ j∈depsOf ops i,listed.getD j false=true:=by
   intro j hj
   unfold depsOf at hj
   rw[ho] at hj
   simp only[List.mem_map,List.mem_filter] at hj
   obtain⟨e,⟨he,hb⟩,rfl⟩:=hj
   have:=hc2 e he
   simpa [hb] using this
  obtain⟨s1,s2⟩:=frame_same ops a (fun i=>listed.getD i false) vs o r1 fun t ht j hj=>hdep j (r2 t ht j hj)
  have hif:listed.getD i false=false:=by
   rw[Array.getD_eq_getD_getElem?,←Array.getElem?_toList,hfree];rfl
  have hl:=hop i o ho (fun i=>listed.getD i false) vs W hI hif hdep
  have eg:(fun j=>(listed.setIfInBounds i true).getD j false)=fun j=>if j=i then true else listed.getD j false:=by
   funext j
   rw[Array.getD_eq_getD_getElem?,Array.getElem?_setIfInBounds,Array.getD_eq_getD_getElem?]
   by_cases e:j=i
   ·subst e
    simp[hsz,hlt]
   ·rw[if_neg (fun e2=>e e2.symm),if_neg e]
  have next:∀ v W',I (fun j=>if j=i then true else listed.getD j false) (fun j=>if j=i then v else vs j) W'→∃ vs':Nat→Value,(listed.setIfInBounds i true).size=ops.size∧(frameOf ops a (fun i=>listed.getD i false) vs).put o.dst v=frameOf ops a (fun j=>(listed.setIfInBounds i true).getD j false) vs'∧I (fun j=>(listed.setIfInBounds i true).getD j false) vs' W':=by
   intro v W' hK
   refine⟨fun j=>if j=i then v else vs j,by simpa using hsz,?_,?_⟩
   ·rw[eg]
    exact frame_put ops a _ vs i o ho r3 (fun t ht=>hN t i o ho ht) hif v
   ·rw[eg];exact hK
  unfold wpOp
  rw[ho]
  simp only
  unfold leavesIf at hl
  rw[s2]
  by_cases hw:Region.wanted o (yielded ops (frameOf ops a (fun _=>true) vs).tmps)=true
  ·rw[if_pos hw] at hl ⊢
   refine .inl ?_
   unfold Oper.wp
   rw[s1]
   generalize (execOp (frameOf ops a (fun _=>true) vs).eval o).run P W=r at *
   cases r with
   | ok x W'=>
    cases x <;> simp only[leavesK] at hl
    ·rw[Oper.upon_value];exact next _ _ hl
    ·rw[Oper.upon_skip];exact next _ _ hl
    ·rw[Oper.upon_enter]
     refine hl.mono ?_
     rintro e W2 ⟨v,rfl,h1⟩
     exact next _ _ h1
   | halt x W'=>simp only[leavesK] at hl
  ·rw[if_neg hw] at hl ⊢
   exact next _ _ hl
 ·rintro listed a' W ⟨vs,hsz,rfl,hI⟩ he
  have hall:∀ n i,i < n→i < ops.size→listed.getD i false=true:=by
   intro n
   induction n with
   | zero=>intro i h;omega
   | succ n ih=>
    intro i h hi
    by_cases hin:i < n
    ·exact ih i hin hi
    ·obtain rfl:i=n:=by omega
     cases hl:listed.getD i false with
     | true=>rfl
     | false=>
      exfalso
      have hm2:i∈Region.ready .any ops listed:=by
       unfold Region.ready
       rw[List.mem_filter,List.mem_range]
       refine⟨hi,?_⟩
       have ho:ops[i]?=some ops[i]:=Array.getElem?_eq_getElem hi
       have hd:=(hR i _ ho).2.2.2
       rw[ho]
       simp only[Option.map_some,Option.getD_some,Bool.and_eq_true]
       constructor
       ·rw[Array.getD_eq_getD_getElem?] at hl ⊢
        rw[Array.getElem?_eq_getElem (by omega)] at hl ⊢
        simp at hl ⊢
        exact hl
       ·rw[←Array.all_toList,List.all_eq_true]
        intro e he
        by_cases hb:Region.binds .any e=true
        ·have hmem:e.on∈depsOf ops i:=by
          unfold depsOf
          rw[ho]
          simp only[List.mem_map,List.mem_filter]
          exact⟨e,⟨he,hb⟩,rfl⟩
         have hlt:=hd _ hmem
         rw[ih e.on hlt (by omega)]
         simp
        ·simp[hb]
      rw[he] at hm2
      cases hm2
  have e:frameOf ops a (fun i=>listed.getD i false) vs=frameOf ops a (fun _=>true) vs:=by
   have key:(frameOf ops a (fun i=>listed.getD i false) vs).tmps=(frameOf ops a (fun _=>true) vs).tmps:=by
    apply Array.ext_getElem?
    intro t
    rw[frame_at,frame_at]
    cases h2:ownOf ops t with
    | none=>rfl
    | some i=>
     have hlt:i < ops.size:=List.mem_range.1 (List.mem_of_find?_eq_some h2)
     simp[hall (i+1) i (by omega) hlt]
   have e1:frameOf ops a (fun i=>listed.getD i false) vs=⟨(frameOf ops a (fun i=>listed.getD i false) vs).tmps,a.defers⟩:=rfl
   have e2:frameOf ops a (fun _=>true) vs=⟨(frameOf ops a (fun _=>true) vs).tmps,a.defers⟩:=rfl
   rw[e1,e2,key]
  rw[e]
  exact hend _ vs W hI fun i hi=>hall (i+1) i (by omega) hi
def eachBut (P:Program)(ops:Array Oper)(F:Nat→Value→World→Prop)(lit:(Nat→Value)→Act)(w:World)(sk:Nat→Bool):List Oper→Nat→Prop
 | [],_=>True
 | o :: rest,i=>(sk i=false→∀ (vs:Nat→Value) W,Below w.heap.size w W→(∀ j∈depsOf ops i,sk j=false→F j (vs j) W)→leavesOp P ops (F i) o (lit vs) W)∧eachBut P ops F lit w sk rest (i+1)
theorem eachBut_at {P:Program}{ops:Array Oper}{F:Nat→Value→World→Prop}{lit:(Nat→Value)→Act}{w:World}{sk:Nat→Bool}:∀ (l:List Oper) (n:Nat),eachBut P ops F lit w sk l n→∀ i o,l[i]?=some o→sk (n+i)=false→∀ (vs:Nat→Value) W,Below w.heap.size w W→(∀ j∈depsOf ops (n+i),sk j=false→F j (vs j) W)→leavesOp P ops (F (n+i)) o (lit vs) W
 | [],n,_,i,o,h=>by simp at h
 | x :: l,n,hx,0,o,h=>by
  simp at h
  subst h
  exact hx.1
 | x :: l,n,hx,i+1,o,h=>by
  have:=eachBut_at l (n+1) hx.2 i o (by simpa using h)
  rw[show n+1+i=n+(i+1) by omega] at this
  exact this
theorem wp_region_put {P:Program}{l:List Oper}{Q:Exit→Act→World→Prop}{id:Nat}{a:Act}{w:World}(na ns:Nat)(t:TypeId)(cs0:Array Value)(put:World→Nat→World)(done:World→Nat→Prop)(lit:(Nat→Value)→Act)(F:Nat→Value→World→Prop)
 (hm:P.follows .mixedOrders=true) (hr:relyB l.toArray=true) (hns:(na != ns && (depsOf l.toArray ns).contains na)=true) (hlen:(decide (na < l.length) && decide (ns < l.length))=true) (hlit:∀ vs,frameOf l.toArray a (fun _=>true) vs=lit vs)
 (hst:∀ i v W W',F i v W→Below W.heap.size W W'→F i v W')
 (hst2:∀ i v W b,F i v W→Bk W b t cs0→F i v (put W b))
 (hd1:∀ W W' b,done W b→Below W.heap.size W W'→done W' b)
 (hbel:∀ W b,w.heap.size≤b→Below w.heap.size w W→Below w.heap.size w (put W b))
 (hdone:∀ W b,Bk W b t cs0→done (put W b) b)
 (hnew:∀ o,l[na]?=some o→∀ (vs:Nat→Value) W,Below w.heap.size w W→leavesOp P l.toArray (fun v W'=>∃ b,v=.pointer (some ⟨b,0,none⟩)∧w.heap.size≤b∧Bk W' b t cs0) o (lit vs) W)
 (hsto:∀ o,l[ns]?=some o→∀ (vs:Nat→Value) W b,Below w.heap.size w W→(∀ j∈depsOf l.toArray ns,(decide (j=na) || decide (j=ns))=false→F j (vs j) W)→vs na=.pointer (some ⟨b,0,none⟩)→Bk W b t cs0→leavesIf P l.toArray (fun _ W'=>W'=put W b) o (lit vs) W)
 (hop:eachBut P l.toArray F lit w (fun j=>decide (j=na) || decide (j=ns)) l 0)
 (hend:∀ (vs:Nat→Value) W b,Below w.heap.size w W→(∀ i,i < l.length→(decide (i=na) || decide (i=ns))=false→F i (vs i) W)→vs na=.pointer (some ⟨b,0,none⟩)→w.heap.size≤b→done W b→Q .normal (lit vs) W):(Code.region id l.toArray true).wp P Q a w:=by
 simp only[Bool.and_eq_true,bne_iff_ne,ne_eq,List.contains_iff_mem,decide_eq_true_eq] at hns hlen
 obtain⟨hne,hdn⟩:=hns
 refine wp_region_holds hm hr (fun d vs W=>Below w.heap.size w W∧(∀ i,d i=true→(decide (i=na) || decide (i=ns))=false→F i (vs i) W)∧(d na=true→∃ b,vs na=.pointer (some ⟨b,0,none⟩)∧w.heap.size≤b∧((d ns=false∧Bk W b t cs0)∨(d ns=true∧done W b)))∧(d ns=true→d na=true)) ?_ ?_ ?_
 ·exact⟨(Below.refl _ _).drew,(fun i h=>by cases h),(fun h=>by cases h),(fun h=>by cases h)⟩
 ·rintro i o ho d vs W ⟨hB,hF,hA,hS⟩ hdi hdep
  have ho':l[i]?=some o:=by simpa using ho
  rw[hlit]
  by_cases hina:i=na
  ·subst hina
   have hdns:d ns=false:=by
    cases e:d ns with
    | false=>rfl
    | true=>rw[hS e] at hdi;cases hdi
   refine leavesIf_of (hnew o ho' vs W hB) ?_
   rintro v W' ⟨b,hv,hb,hk⟩ hbw
   dsimp only
   refine⟨hB.trans (hbw.mono hB.size),fun j hj hsk=>?_,fun _=>⟨b,by rw[if_pos rfl];exact hv,hb,.inl ⟨by rw[if_neg (fun e=>hne e.symm)];exact hdns,hk⟩⟩,fun _=>by rw[if_pos rfl]⟩
   have hji:j≠i:=fun e=>by subst e;simp at hsk
   rw[if_neg hji] at hj ⊢
   exact hst j _ _ _ (hF j hj hsk) hbw
  ·by_cases hins:i=ns
   ·subst hins
    have hdna:=hdep na hdn
    obtain⟨b,hv,hb,⟨_,hk⟩ | ⟨h,_⟩⟩:=hA hdna
    ·refine leavesIf_mono (hsto o ho' vs W b hB (fun j hj hsk=>hF j (hdep j hj) hsk) hv hk) ?_
     rintro v W' rfl
     dsimp only
     refine⟨hbel W b hb hB,fun j hj hsk=>?_,fun _=>⟨b,by rw[if_neg hne];exact hv,hb,.inr ⟨by rw[if_pos rfl],hdone W b hk⟩⟩,fun _=>by rw[if_neg hne];exact hdna⟩
     have hji:j≠i:=fun e=>by subst e;simp at hsk
     rw[if_neg hji] at hj ⊢
     exact hst2 j _ _ _ (hF j hj hsk) hk
    ·rw[hdi] at h;cases h
   ·have hsk0:(decide (i=na) || decide (i=ns))=false:=by simp[hina,hins]
    have:=eachBut_at l 0 hop i o ho' (by rw[Nat.zero_add];exact hsk0) vs W hB (by rw[Nat.zero_add];exact fun j hj hsk=>hF j (hdep j hj) hsk)
    rw[Nat.zero_add] at this
    refine leavesIf_of this ?_
    intro v W' hv hbw
    dsimp only
    refine⟨hB.trans (hbw.mono hB.size),fun j hj hsk=>?_,fun h=>?_,fun h=>?_⟩
    ·by_cases e:j=i
     ·subst e;rw[if_pos rfl];exact hv
     ·rw[if_neg e] at hj ⊢
      exact hst j _ _ _ (hF j hj hsk) hbw
    ·rw[if_neg (fun e=>hina e.symm)] at h ⊢
     obtain⟨b,h1,h2,h3⟩:=hA h
     rw[if_neg (fun e=>hins e.symm)]
     refine⟨b,h1,h2,?_⟩
     rcases h3 with ⟨h3,h4⟩ | ⟨h3,h4⟩
     ·exact .inl ⟨h3,(hbw.block b h4.lt).trans h4⟩
     ·exact .inr ⟨h3,hd1 _ _ _ h4 hbw⟩
    ·rw[if_neg (fun e=>hins e.symm)] at h
     rw[if_neg (fun e=>hina e.symm)]
     exact hS h
 ·rintro d vs W ⟨hB,hF,hA,hS⟩ hall
  rw[hlit]
  obtain⟨b,h1,h2,⟨h3,_⟩ | ⟨_,h4⟩⟩:=hA (hall na (by simpa using hlen.1))
  ·rw[hall ns (by simpa using hlen.2)] at h3;cases h3
  ·exact hend vs W b hB (fun i hi hsk=>hF i (hall i (by simpa using hi)) hsk) h1 h2 h4
theorem mixT_keep {R:World→World→Prop}{ps:List (Nat×(Value→World→Prop))}{l:List Value}(h:∀ x∈ps,∀ v W W',x.2 v W→R W W'→x.2 v W'):∀ i v W W',mixT ps l i v W→R W W'→mixT ps l i v W':=by
 intro i v W W' hm hb
 unfold mixT at *
 cases hl:ps.lookup i with
 | none=>rw[hl] at hm;exact hm
 | some p=>
  rw[hl] at hm
  have:(i,p)∈ps:=by
   clear hm h
   induction ps with
   | nil=>cases hl
   | cons x ps ih=>
    obtain⟨k,q⟩:=x
    rw[List.lookup_cons] at hl
    by_cases e:i=k
    ·subst e;simp at hl;subst hl;exact List.mem_cons_self
    ·have e2:(i==k)=false:=by simpa using e
     rw[e2] at hl
     exact List.mem_cons_of_mem _ (ih hl)
  exact h _ this v W W' hm hb
def Its (w:World)(q cap:Nat)(xs:List Int):Prop:=w.ownsRow 0 3 1 (.slice (some ⟨q,0,none⟩) xs.length cap) xs.length (xs.map (Value.int .i64))
section
variable {w w':World}{q cap:Nat}{xs:List Int}
theorem Its.lt (h:Its w q cap xs):q < w.heap.size:=(World.ownsRow.lt h q rfl).2
theorem Its.at_ (h:Its w q cap xs){i:Nat}(hi:i < xs.length):w.cell? ⟨q,i,none⟩=some (.int .i64 (nth xs i)):=by
 rw[World.ownsRow.cellAt h i (by omega),List.getElem?_map,nth_get hi];rfl
theorem Its.bk (h:Its w q cap xs):∃ cs,Bk w q 3 cs∧cs.size=cap∧xs.length≤cap∧cap≤maxLen:=by
 rcases h.2 with ⟨h',_⟩ | ⟨g',cap',cur,h',hb,hg,hnc,hcm,hcs,htake⟩
 ·simp at h'
 ·simp only[Value.slice.injEq,Option.some.injEq,Addr.mk.injEq,and_true,true_and] at h'
  obtain⟨rfl,rfl⟩:=h'
  exact⟨cur,hg,by omega,hnc,hcm⟩
theorem Its.free (h:Its w q cap xs)(i:Nat):w.frozen? ⟨q,i,none⟩=false:=by obtain⟨cs,hb,_⟩:=h.bk;exact hb.free i
theorem Its.put (h:Its w q cap xs)(i:Nat)(v:Int):Its (w.setCell ⟨q,i,none⟩ (.int .i64 v)) q cap (xs.set i v):=by
 have:=(World.ownsRow.stored h i (.int .i64 v)).1
 unfold Its;rw[List.length_set,List.map_set];exact this
theorem Its.within {S:Nat→Prop}(h:Its w q cap xs)(k:Within w w' S)(hn:¬ S q):Its w' q cap xs:=by
 rcases h.2 with ⟨h',_⟩ | ⟨g',cap',cur,h',hb,hg,hnc,hcm,hcs,htake⟩
 ·simp at h'
 ·simp only[Value.slice.injEq,Option.some.injEq,Addr.mk.injEq,and_true,true_and] at h'
  obtain⟨rfl,rfl⟩:=h'
  exact⟨h.1,.inr ⟨q,cap,cur,rfl,hb,(k.block q (Array.getElem?_eq_some_iff.1 hg).1 hn).trans hg,hnc,hcm,hcs,htake⟩⟩
theorem Its.of_bk (h:Bk w q 3 (xs.map (Value.int .i64)).toArray)(hn:xs.length≤maxLen):Its w q xs.length xs:=
 ⟨by simp,.inr ⟨q,xs.length,_,rfl,Nat.zero_le _,h,Nat.le_refl _,hn,by simp,by simp[List.take_of_length_le]⟩⟩
theorem Its.made (w:World)(n:Nat)(hn:n≤maxLen):Its (w.alloc (.cells (madeCells #[.int .i64 0] n) 3)) w.heap.size n (List.replicate n 0):=by
 have h:=Bk.made w 3 (madeCells #[.int .i64 0] n)
 have e:madeCells #[.int .i64 0] n=((List.replicate n (0:Int)).map (Value.int .i64)).toArray:=by
  apply Array.ext
  ·simp[madeCells]
  ·intro i h1 h2;simp[madeCells,Nat.mod_one]
 have h2:Bk (w.alloc (.cells (madeCells #[.int .i64 0] n) 3)) w.heap.size 3 ((List.replicate n (0:Int)).map (Value.int .i64)).toArray:=by rw[←e];exact h
 have:=Its.of_bk h2 (by simpa using hn)
 simpa using this
end
theorem intinfo:(Tryz.prog.info? 3).map (fun i=>(i.zero,i.size,i.bytes))=some (some (.int .i64 0),1,8):=by kernel_rfl
end Go.Proofs.YthdgehcghklflaaGreatDoor
namespace Go.Proofs.YthdgehcghklflaaGreatDoor.RWord
set_option maxRecDepth 100000
open Go.ChangeShapes Go.WideShapes Go.ChangeAt Go.RowKit
abbrev C (x:Int):Value:=.int .u32 x
section
variable {w:World}{p:Nat}{a:Option Addr}{n f r:Nat}
def held (x:Int):Nat:=if x < 0 then 0 else if 4096 < x then 4096 else x.toNat
end
end Go.Proofs.YthdgehcghklflaaGreatDoor.RWord
namespace Go.Proofs.YthdgehcghklflaaGreatDoor
set_option maxRecDepth 100000
open Go.ChangeShapes Go.WideShapes Go.ChangeAt Go.RowKit Go.Maps
def Outs (w:World)(b:Nat)(os:Int→Bool)(c:Nat):Prop:=
 ∃ D:DataW Unit,w.ownsMap Tryz.prog 22 (plainElem Tryz.prog 4) b c D∧size D=c∧
  ∀ x,0≤x→x < 4294967296→Maps.has D (.int .u32 x)=os x∧D.atKey (.int .u32 x) (.lit (.bool false))=.lit (.bool (os x))
end Go.Proofs.YthdgehcghklflaaGreatDoor
namespace Go.Proofs.YthdgehcghklflaaGreatDoor
open Go.ChangeShapes Go.WideShapes Go.ChangeAt Go.RowKit
section
variable {P:Program}{ops:Array Oper}{rest:List Oper}{o:Oper}{a:Act}{w:World}{Q:Exit→Act→World→Prop}{base:Nat}{t:TypeId}{size:Nat}{v:Value}{n:Nat}{xs:List Value}
theorem wpOwnB (hgd:o.guard=none)(s x:Operand)(ts:TypeId)(ho:o.op=Op.call { callee:=Callee.builtin Builtin.append,args:=#[s,x],argTypes:=#[ts,ts] })
 (z:Value) (bytes:Nat) (ht:P.underlying ts=some (.slice t)) (hi:(P.info? t).map (fun i=>(i.zero,i.size,i.bytes))=some (some z,size,bytes)) (hz:z.cells.size=size) (hsz:0 < size) (hby:bytes≤200)
 (h:w.ownsRow base t size v n xs) (hs:a.eval s=v) (news:List Value) (hnl:news.length=size) (hone:∀ u∈news,u.oneCell'=true) (B:Nat) (hx:a.eval x=.slice (some ⟨B,0,none⟩) 1 1)
 (hB:∀ j u,news[j]?=some u→w.cell? ((⟨B,0,none⟩:Addr).add j)=some u) (hl:n < 1000000000) (hbase:base≤w.heap.size)
 (hK:∀ v' w',w'.ownsRow base t size v' (n+1) (xs++news)→w.grownBy w' v.ownBlock→(v'.ownBlock=v.ownBlock∨v'.ownBlock=some w.heap.size)→wpList P ops Q rest (a.put o.dst v') w'):
 wpList P ops Q (o :: rest) a w:=by
 obtain⟨i0,hi0,hz0,hz1,hz2⟩:=info_parts hi
 refine wpList_append_own_at _ hgd s x ts ho base t i0 _ size bytes ht hi0 hz0 hz1 hz2 hz hsz v n xs hs h ⟨B,0,none⟩ 1 1 news hx (by omega) hB hone (by simp only[maxLen];omega)
  (by
   have:(n+1) * bytes≤1000000001 * 200:=Nat.mul_le_mul (by omega) hby
   omega) hbase fun v' w' h2 h3 _ h5=>hK v' w' h2 h3 h5
theorem wpLstAppB {k:IntKind}{xs:List Int}(hgd:o.guard=none)(s x:Operand)(ts:TypeId)(ho:o.op=.call { callee:=.builtin .append,args:=#[s,x],argTypes:=#[ts,ts] })
 (bytes:Nat) (ht:P.underlying ts=some (.slice t)) (hi:(P.info? t).map (fun i=>(i.zero,i.size,i.bytes))=some (some (.int k 0),1,bytes)) (hby:bytes≤8)
 (h:Lst k t w v xs) (hs:a.eval s=v) (y:Int) (hx:a.eval x=.slice (some ⟨w.heap.size,0,none⟩) 1 1) (hl:xs.length < 1000000001)
 (hK:∀ v' w',Lst k t w' v' (xs++[y])→w.grownBy w' v.ownBlock→(v'.ownBlock=v.ownBlock∨v'.ownBlock=some (w.heap.size+1))→wpList P ops Q rest (a.put o.dst v') w'):
 wpList P ops Q (o :: rest) a (w.alloc (.cells #[.int k y] t)):=by
 obtain⟨i0,hi0,hz0,hz1,hz2⟩:=info_parts hi
 refine wpList_append_own_at _ hgd s x ts ho 0 t i0 _ 1 bytes ht hi0 hz0 hz1 hz2 rfl (by omega) v xs.length (xs.map (Value.int k)) hs (h.alloc _) ⟨w.heap.size,0,none⟩ 1 1 [.int k y] hx rfl (cell_one_new _ _ _) (ints_oneCell k [y]) (by simp only[maxLen];omega) ?_ (Nat.zero_le _) ?_
 ·have:(xs.length+1) * bytes≤1000000002 * 8:=Nat.mul_le_mul (by omega) hby
  omega
 ·intro v' w' hown hgr _ hloc
  refine hK v' w' ?_ ?_ ?_
  ·unfold Lst;simpa using hown
  ·exact grown_then (grown_made _ _ _) hgr (.inl rfl)
  ·simpa using hloc
end
def loOf (ops:Array Oper)(st:List Nat)(i:Nat):Nat:=(st.filter fun s=>(depsOf ops i).contains s).length
def hiOf (ops:Array Oper)(st:List Nat)(i:Nat):Nat:=st.findIdx fun s=>(depsOf ops s).contains i
def chainS (ops:Array Oper):List Nat→Bool
 | s :: t :: l=>(depsOf ops t).contains s && (decide (s < ops.size) && chainS ops (t :: l))
 | [s]=>decide (s < ops.size)
 | []=>true
def eachFlow (P:Program)(ops:Array Oper)(F:Nat→Value→World→Prop)(Wp:Nat→World→Prop)(Step:Nat→World→World→Prop)(lit:(Nat→Value)→Act)(st:List Nat):List Oper→Nat→Prop
 | [],_=>True
 | o :: l,i=>(match st.contains i with
  | true=>∀ (vs:Nat→Value) W,Wp (st.idxOf i) W→(∀ j∈depsOf ops i,F j (vs j) W)→leavesIf P ops (fun v W'=>F i v W'∧Wp (st.idxOf i+1) W'∧Step (st.idxOf i) W W') o (lit vs) W
  | false=>∀ (vs:Nat→Value) W k,loOf ops st i≤k→k≤hiOf ops st i→Wp k W→(∀ j∈depsOf ops i,F j (vs j) W)→leavesOp P ops (F i) o (lit vs) W)∧eachFlow P ops F Wp Step lit st l (i+1)
theorem eachFlow_at {P:Program}{ops:Array Oper}{F:Nat→Value→World→Prop}{Wp:Nat→World→Prop}{Step:Nat→World→World→Prop}{lit:(Nat→Value)→Act}{st:List Nat}:∀ (l:List Oper) (b i:Nat) (o:Oper),eachFlow P ops F Wp Step lit st l b→l[i]?=some o→
 (st.contains (b+i)=true→∀ (vs:Nat→Value) W,Wp (st.idxOf (b+i)) W→(∀ j∈depsOf ops (b+i),F j (vs j) W)→leavesIf P ops (fun v W'=>F (b+i) v W'∧Wp (st.idxOf (b+i)+1) W'∧Step (st.idxOf (b+i)) W W') o (lit vs) W)∧
 (st.contains (b+i)=false→∀ (vs:Nat→Value) W k,loOf ops st (b+i)≤k→k≤hiOf ops st (b+i)→Wp k W→(∀ j∈depsOf ops (b+i),F j (vs j) W)→leavesOp P ops (F (b+i)) o (lit vs) W)
 | [],b,i,o,_,hi=>by simp at hi
 | x :: l,b,0,o,h,hi=>by
  simp only[List.getElem?_cons_zero,Option.some.injEq] at hi
  subst hi
  have h1:=h.1
  simp only[Nat.add_zero]
  constructor
  ·intro e;rw[e] at h1;exact h1
  ·intro e;rw[e] at h1;exact h1
 | x :: l,b,i+1,o,h,hi=>by
  have:=eachFlow_at l (b+1) i o h.2 (by simpa using hi)
  rw[show b+1+i=b+(i+1) by omega] at this
  exact this
theorem chainS_at {ops:Array Oper}:∀ (st:List Nat),chainS ops st=true→∀ (j s t:Nat),st[j]?=some s→st[j+1]?=some t→s∈depsOf ops t
 | [],_,j,s,t,h,_=>by simp at h
 | [x],_,j,s,t,_,h=>by simp at h
 | x :: y :: l,h,0,s,t,h1,h2=>by
  simp at h1 h2
  subst h1;subst h2
  simp only[chainS,Bool.and_eq_true] at h
  simpa using h.1
 | x :: y :: l,h,j+1,s,t,h1,h2=>by
  simp only[chainS,Bool.and_eq_true] at h
  exact chainS_at (y :: l) h.2.2 j s t (by simpa using h1) (by simpa using h2)
theorem chainS_lt {ops:Array Oper}:∀ (st:List Nat),chainS ops st=true→∀ s∈st,s < ops.size
 | [],_,s,h=>by simp at h
 | [x],h,s,hs=>by simp at hs;subst hs;simpa [chainS] using h
 | x :: y :: l,h,s,hs=>by
  simp only[chainS,Bool.and_eq_true,decide_eq_true_eq] at h
  rcases List.mem_cons.1 hs with rfl | hs
  ·exact h.2.1
  ·exact chainS_lt (y :: l) h.2.2 s hs
theorem wp_region_flow {P:Program}{l:List Oper}{Q:Exit→Act→World→Prop}{id:Nat}{a:Act}{w:World}(st:List Nat)(Wp:Nat→World→Prop)(Step:Nat→World→World→Prop)(lit:(Nat→Value)→Act)(F:Nat→Value→World→Prop)
 (hm:P.follows .mixedOrders=true) (hr:relyB l.toArray=true) (hc:chainS l.toArray st=true) (hnd:st.Nodup) (hlit:∀ vs,frameOf l.toArray a (fun _=>true) vs=lit vs)
 (h0:Wp 0 w)
 (hW:∀ k W W',Wp k W→Below W.heap.size W W'→Wp k W')
 (hF:∀ i v W W',F i v W→Below W.heap.size W W'→F i v W')
 (hS:∀ k W W',Wp k W→Step k W W'→∀ i v,F i v W→F i v W')
 (hop:eachFlow P l.toArray F Wp Step lit st l 0)
 (hend:∀ (vs:Nat→Value) W,Wp st.length W→(∀ i,i < l.length→F i (vs i) W)→Q .normal (lit vs) W):(Code.region id l.toArray true).wp P Q a w:=by
 refine wp_region_holds hm hr (fun d vs W=>∃ k,k≤st.length∧(∀ j s,st[j]?=some s→(d s=true↔j < k))∧(∀ i,d i=true→∀ j∈depsOf l.toArray i,d j=true)∧Wp k W∧∀ i,d i=true→F i (vs i) W) ?_ ?_ ?_
 ·exact⟨0,Nat.zero_le _,fun j s _=>by simp,(fun i h=>by cases h),hW 0 _ _ h0 (Below.refl _ _).drew,(fun i h=>by cases h)⟩
 ·rintro i o ho d vs W ⟨k,hk,hst,hcl,hWk,hFd⟩ hdi hdep
  have ho':l[i]?=some o:=by simpa using ho
  rw[hlit]
  obtain⟨e1,e2⟩:=eachFlow_at l 0 i o hop ho'
  rw[Nat.zero_add] at e1 e2
  have hFdep:∀ j∈depsOf l.toArray i,F j (vs j) W:=fun j hj=>hFd j (hdep j hj)
  cases hci:st.contains i with
  | true=>
   have hmem:i∈st:=by simpa using hci
   have hidx:st.idxOf i < st.length:=List.idxOf_lt_length_iff.2 hmem
   have hat:st[st.idxOf i]?=some i:=by rw[List.getElem?_eq_getElem hidx,List.getElem_idxOf hidx]
   -- it is the next one
   have hki:st.idxOf i=k:=by
    have h1:¬ st.idxOf i < k:=fun h=>by
     have:=(hst _ i hat).2 h
     rw[hdi] at this;cases this
    rcases Nat.lt_or_eq_of_le (Nat.le_of_not_lt h1) with h2 | h2
    ·exfalso
     -- the one ahead is done,so all ahead are
     have hp:st.idxOf i - 1+1=st.idxOf i:=by omega
     have hpl:st.idxOf i - 1 < st.length:=by omega
     have hs:=chainS_at st hc (st.idxOf i - 1) st[st.idxOf i - 1] i (List.getElem?_eq_getElem hpl) (by rw[hp];exact hat)
     have hd:=hdep _ hs
     have:=(hst _ _ (List.getElem?_eq_getElem hpl)).1 hd
     omega
    ·exact h2.symm
   have h3:=e1 hci vs W (by rw[hki];exact hWk) hFdep
   refine leavesIf_mono h3 ?_
   rintro v W' ⟨hv,hW2,hstep⟩
   rw[hki] at hW2 hstep
   refine⟨k+1,by omega,fun j s hs=>?_,fun x hx j hj=>by
    by_cases e:x=i
    ·subst e;have h4:=hdep j hj;by_cases e2:j=x <;> simp[e2,h4]
    ·simp only[if_neg e] at hx;have h4:=hcl x hx j hj;by_cases e2:j=i <;> simp[e2,h4],hW2,fun j hj=>?_⟩
   ·by_cases e:s=i
    ·subst e
     have hj:j=k:=by
      rw[←hki]
      have hjl:=(List.getElem?_eq_some_iff.1 hs).1
      have hsj:=(List.getElem?_eq_some_iff.1 hs).2
      have:=hnd.idxOf_getElem j hjl
      rw[hsj] at this
      exact this.symm
     simp;omega
    ·simp only[if_neg e]
     rw[hst j s hs]
     constructor
     ·omega
     ·intro h
      by_cases hj:j=k
      ·exfalso
       subst hj
       rw[←hki,hat] at hs
       injection hs with hs
       exact e hs.symm
      ·omega
   ·by_cases e:j=i
    ·subst e;simp only[if_true];exact hv
    ·simp only[if_neg e] at hj ⊢
     exact hS k W W' hWk hstep j _ (hFd j hj)
  | false=>
   have hnm:i ∉ st:=by simpa using hci
   have hlo:loOf l.toArray st i≤k:=by
    unfold loOf
    have hsub:∀ (s:List Nat) (b:Nat),(∀ j x,s[j]?=some x→st[b+j]?=some x)→(s.filter fun x=>(depsOf l.toArray i).contains x).length≤k - b:=by
     intro s
     induction s with
     | nil=>intro b _;simp
     | cons x s ih=>
      intro b hb
      have hx:=hb 0 x (by simp)
      rw[Nat.add_zero] at hx
      have ih2:=ih (b+1) (fun j y hy=>by rw[show b+1+j=b+(j+1) by omega];exact hb (j+1) y (by simpa using hy))
      rw[List.filter_cons]
      split
      ·rename_i hcx
       have hd:=hdep x (by simpa using hcx)
       have:=(hst b x hx).1 hd
       simp only[List.length_cons]
       omega
      ·omega
    have:=hsub st 0 (fun j x h=>by rw[Nat.zero_add];exact h)
    omega
   have hhi:k≤hiOf l.toArray st i:=by
    unfold hiOf
    rcases Nat.lt_or_ge (st.findIdx fun s=>(depsOf l.toArray s).contains i) st.length with h | h
    ·refine Nat.le_of_not_lt fun hlt=>?_
     have hp:=List.findIdx_getElem (w:=h)
     have hd:=(hst _ _ (List.getElem?_eq_getElem h)).2 hlt
     -- what is done had all that it waits for done
     have:=hcl _ hd i (by simpa using hp)
     rw[hdi] at this
     cases this
    ·omega
   exact leavesIf_of (e2 hci vs W k hlo hhi hWk hFdep) (fun v W' hv hb=>⟨k,hk,fun j s hs=>by
    have hne:s≠i:=fun e=>hnm (e ▸ List.mem_of_getElem? hs)
    simp only[if_neg hne]
    exact hst j s hs,fun x hx j hj=>by
    by_cases e:x=i
    ·subst e;have h4:=hdep j hj;by_cases e2:j=x <;> simp[e2,h4]
    ·simp only[if_neg e] at hx;have h4:=hcl x hx j hj;by_cases e2:j=i <;> simp[e2,h4],hW k W W' hWk hb,fun j hj=>by
    by_cases e:j=i
    ·subst e;simp only[if_true];exact hv
    ·simp only[if_neg e] at hj ⊢
     exact hF j _ W W' (hFd j hj) hb⟩)
 ·rintro d vs W ⟨k,hk,hst,hcl,hWk,hFd⟩ hall
  rw[hlit]
  have hks:k=st.length:=by
   rcases Nat.lt_or_eq_of_le hk with h | h
   ·exfalso
    have h1:=(hst k _ (List.getElem?_eq_getElem h))
    have h2:=hall st[k] (chainS_lt st hc _ (List.getElem_mem h))
    have:=h1.1 h2
    omega
   ·exact h
  rw[hks] at hWk
  exact hend vs W hWk (fun i hi=>hFd i (hall i (by simpa using hi)))
end Go.Proofs.YthdgehcghklflaaGreatDoor
namespace Go.Proofs.YthdgehcghklflaaGreatDoor
open Go.ChangeShapes Go.WideShapes Go.ChangeAt Go.RowKit Go.Sort
structure Lb (w:World):Prop where
 tab:Lib.TabIs Tryz.prog w "internal/strconv.uint64pow10" .u64 Lib.pow10Tab
 syn:∃ tp p,w.var? Tryz.prog "strconv.ErrSyntax" = some #[.iface tp p]
 rng:∃ tp p,w.var? Tryz.prog "strconv.ErrRange" = some #[.iface tp p]
 mx:∃ m,w.cell? ⟨0,0,none⟩=some (.int .i64 m)
 low:0 < w.heap.size∧5 < w.heap.size∧1 < w.heap.size∧2 < w.heap.size
theorem Lb.below {w w':World}(h:Lb w)(hb:Below w.heap.size w w'):Lb w':=by
 obtain⟨l0,l1,l2,l3⟩:=h.low
 have hz:=hb.size
 refine⟨?_,?_,?_,?_,by omega,by omega,by omega,by omega⟩
 ·exact var?_below hb (g:=5) (by kernel_rfl) (by omega) h.tab
 ·obtain⟨tp,p,e⟩:=h.syn
  exact⟨tp,p,var?_below hb (g:=1) (by kernel_rfl) (by omega) e⟩
 ·obtain⟨tp,p,e⟩:=h.rng
  exact⟨tp,p,var?_below hb (g:=2) (by kernel_rfl) (by omega) e⟩
 ·obtain⟨m,e⟩:=h.mx
  exact⟨m,(hb.cell (p:=⟨0,0,none⟩) (by show 0 < _;omega)).trans e⟩
theorem Lb.grw {w:World}(h:Lb w)(g:Grw w):Lb g.x:=h.below g.ok
theorem below_grow (w:World)(k:Nat)(os:Array Obj):Below w.heap.size w (grow (w.drewN k) os):=by
 refine⟨rfl,rfl,rfl,?_,fun j hj=>?_⟩
 ·show w.heap.size≤(w.heap++os).size
  simp
 ·show (w.heap++os)[j]?=w.heap[j]?
  rw[Array.getElem?_append_left hj]
theorem lItoa (n:Int)(h0:-9223372036854775808≤n)(h1:n≤9223372036854775807)(w:World)(L:Lb w):
 Calls Tryz.prog 181 #[.int .i64 n] w fun e w'=>e=.returned (bs (Lib.itoa n))∧Below w.heap.size w w':=
 (Any.strconv_Itoa Tryz.laysM171 n h0 h1 w L.tab).mono fun _ _ ⟨he,k,os,hw⟩=>⟨he,by rw[hw];exact below_grow w k os⟩
theorem lTrim (s p:List UInt8)(w:World):
 Calls Tryz.prog 177 #[bs s,bs p] w fun e w'=>e=.returned (bs (Lib.trimPrefix s p))∧w=w':=
 (Any.strings_TrimPrefix Tryz.lays101 ⟨s.toArray⟩ ⟨p.toArray⟩ w).mono fun _ _ ⟨he,hw⟩=>⟨he,hw.symm⟩
theorem lAtoiOk (s:List UInt8)(hl:s.length≤281474976710656)(v:Int)(h:Lib.atoiAll s=.ok v)(w:World):
 Calls Tryz.prog 176 #[bs s] w fun e w'=>e=.returned (.tuple #[.int .i64 v,.nilIface])∧Below w.heap.size w w':=by
 have hs:(⟨s.toArray⟩:ByteArray).size=s.length:=by simp[ByteArray.size]
 refine(Any.strconv_Atoi_ok Tryz.laysC172 ⟨s.toArray⟩ (by omega) v h w).mono fun e w' ⟨he,hw⟩=>⟨he,?_⟩
 rcases hw with rfl | ⟨t,rfl⟩
 ·exact Below.refl _ _
 ·exact Lib.bytesWorld_below _ _ _
def Failed (w:World)(e:Ending)(w':World):Prop:=∃ (v:Int) (b:Nat),e=.returned (.tuple #[.int .i64 v,.iface 287 (.pointer (some ⟨b,0,none⟩))])∧Below w.heap.size w w'
theorem lAtoiNo (s:List UInt8)(hl:s.length≤281474976710656)(h:∀ v,Lib.atoiAll s≠.ok v)(w:World)(L:Lb w):
 Calls Tryz.prog 176 #[bs s] w (Failed w):=by
 have hs:(⟨s.toArray⟩:ByteArray).size=s.length:=by simp[ByteArray.size]
 cases ha:Lib.atoiAll s with
 | ok v=>exact absurd ha (h v)
 | range=>
  obtain⟨tp,p,hv⟩:=L.rng
  exact(Any.strconv_Atoi_range_var Tryz.laysC172 ⟨s.toArray⟩ (by omega) ha tp p w hv).mono fun e w' ⟨N,he,_,_,hb⟩=>⟨_,N,he,hb⟩
 | _=>
  obtain⟨tp,p,hv⟩:=L.syn
  exact(Any.strconv_Atoi_syntax_var Tryz.laysC172 ⟨s.toArray⟩ (by omega) ha tp p w hv).mono fun e w' ⟨N,he,_,_,hb⟩=>⟨_,N,he,hb⟩
def splitL (s:List UInt8):List (List UInt8):=Lib.splitN s [32] 9 -- 162
def Strs (w:World)(v:Value)(ws:List (List UInt8)):Prop:=
 ∃ g cap,v=.slice (some ⟨g,0,none⟩) ws.length cap∧ws.length≤cap∧cap≤1000000∧g < w.heap.size∧∀ n,n < ws.length→w.cell? ⟨g,n,none⟩=some (bs (ws.getD n []))
theorem Strs.below {w w':World}{v:Value}{ws:List (List UInt8)}(h:Strs w v ws)(hb:Below w.heap.size w w'):Strs w' v ws:=by
 obtain⟨g,cap,e,h1,h2,h3,h4⟩:=h
 exact⟨g,cap,e,h1,h2,Nat.lt_of_lt_of_le h3 hb.size,fun n hn=>(hb.cell (p:=⟨g,n,none⟩) h3).trans (h4 n hn)⟩
theorem lSplit (s:List UInt8)(hl:s.length < 4294967281)(w:World)(L:Lb w):
 Calls Tryz.prog 162 #[bs s,bs [32],.int .i64 9] w fun e w'=>∃ v,e=.returned v∧Strs w' v (splitL s)∧Below w.heap.size w w':=by
 obtain⟨m,hm⟩:=L.mx
 have hs:(⟨s.toArray⟩:ByteArray).size=s.length:=by simp[ByteArray.size]
 refine(Any.strings_SplitN { Tryz.laysM147 with } Tryz.laysM147.i9 ⟨s.toArray⟩ ⟨#[32]⟩ 9 m w (by omega) hm (by decide) (by decide) (by decide)).mono fun e w' ⟨he,hw⟩=>?_
 have hdat:=Lib.splitB_data ⟨#[32]⟩ 0 (min 9 ((⟨s.toArray⟩:ByteArray).size+1) - 1) ⟨s.toArray⟩
 have hle:=Lib.splitB_length_le ⟨#[32]⟩ 0 (min 9 ((⟨s.toArray⟩:ByteArray).size+1) - 1) ⟨s.toArray⟩
 generalize hl2:Lib.splitB ⟨#[32]⟩ 0 (min 9 ((⟨s.toArray⟩:ByteArray).size+1) - 1) ⟨s.toArray⟩=l at *
 have hlen:(splitL s).length=l.length:=by
  unfold splitL Lib.splitN
  rw[←hs]
  have:=congrArg List.length hdat
  simpa using this.symm
 have hcap:min 9 ((⟨s.toArray⟩:ByteArray).size+1)≤9:=Nat.min_le_left _ _
 have hcap1:1≤min 9 ((⟨s.toArray⟩:ByteArray).size+1):=by omega
 subst hw
 refine⟨_,he,⟨w.heap.size,min 9 ((⟨s.toArray⟩:ByteArray).size+1),by rw[hlen],by omega,by omega,by simp,fun n hn=>?_⟩,(Below.refl _ _).alloc (Nat.le_refl _) _⟩
 rw[cell_of_row _ _ _ _ _ _ (heap_alloc_new w _)]
 rw[hlen] at hn
 have h1:(Lib.cellsOf l (min 9 ((⟨s.toArray⟩:ByteArray).size+1)))[n]?=some (.string l[n]):=by
  unfold Lib.cellsOf
  rw[List.getElem?_toArray,List.getElem?_append_left (by simpa using hn),List.getElem?_map,List.getElem?_eq_getElem hn]
  rfl
 rw[h1]
 have h2:(splitL s).getD n []=l[n].data.toList:=by
  have h3:splitL s=l.map (·.data.toList):=by rw[hdat];unfold splitL Lib.splitN;rw[hs]
  rw[h3]
  simp[hn]
 rw[h2]
 rfl
end Go.Proofs.YthdgehcghklflaaGreatDoor
namespace Go.Proofs.YthdgehcghklflaaGreatDoor
open Go.ChangeShapes Go.WideShapes Go.ChangeAt Go.RowKit
def ahead (c:UInt8):List (List UInt8)→List (List UInt8)
 | []=>[[c]]
 | l :: r=>(c :: l) :: r
def wordsL:List UInt8→List (List UInt8)
 | []=>[[]]
 | c :: r=>if c=32 then [] :: wordsL r else ahead c (wordsL r)
theorem wordsL_pos:∀ s,0 < (wordsL s).length
 | []=>by simp[wordsL]
 | c :: r=>by
  unfold wordsL
  split
  ·simp
  ·have:=wordsL_pos r
   generalize wordsL r=ws at *
   cases ws with
   | nil=>simp at this
   | cons a b=>simp[ahead]
theorem wordsL_one:∀ t:List UInt8,(∀ c∈t,c≠32)→wordsL t=[t]
 | [],_=>rfl
 | c :: r,h=>by
  unfold wordsL
  rw[if_neg (h c List.mem_cons_self),wordsL_one r fun d hd=>h d (List.mem_cons_of_mem _ hd)]
  rfl
theorem wordsL_more:∀ (t r:List UInt8),(∀ c∈t,c≠32)→wordsL (t++32 :: r)=t :: wordsL r
 | [],r,_=>by simp[wordsL]
 | c :: t,r,h=>by
  have e:wordsL (c :: (t++32 :: r))=ahead c (wordsL (t++32 :: r)):=by
   rw[wordsL,if_neg (h c List.mem_cons_self)]
  show wordsL (c :: (t++32 :: r))=_
  rw[e,wordsL_more t r fun d hd=>h d (List.mem_cons_of_mem _ hd)]
  rfl
theorem wordsL_len:∀ s:List UInt8,(wordsL s).length≤s.length+1
 | []=>by simp[wordsL]
 | c :: r=>by
  have h:=wordsL_len r
  unfold wordsL
  split
  ·simp;omega
  ·generalize wordsL r=ws at *
   cases ws with
   | nil=>simp[ahead]
   | cons a b=>simp[ahead] at *;omega
theorem wordsL_le:∀ s:List UInt8,∀ l∈wordsL s,l.length≤s.length
 | [],l,h=>by simp[wordsL] at h;subst h;simp
 | c :: r,l,h=>by
  have ih:=wordsL_le r
  unfold wordsL at h
  split at h
  ·rcases List.mem_cons.1 h with rfl | h
   ·simp
   ·have:=ih l h;simp;omega
  ·generalize wordsL r=ws at *
   cases ws with
   | nil=>simp[ahead] at h;subst h;simp
   | cons a b=>
    simp only[ahead] at h
    rcases List.mem_cons.1 h with rfl | h
    ·have:=ih a List.mem_cons_self;simp;omega
    ·have:=ih l (List.mem_cons_of_mem _ h);simp;omega
structure WordsAt (s:List UInt8)(out:List (List UInt8))(f i:Nat):Prop where
 le:f≤i
 no:∀ j,f≤j→j < i→s.getD j 0≠32
 all:out++wordsL (s.drop f)=wordsL s
 few:out.length≤f
theorem cut_no {s:List UInt8}{f i:Nat}(hi:i≤s.length)(h:∀ j,f≤j→j < i→s.getD j 0≠32):∀ c∈(s.take i).drop f,c≠32:=by
 intro c hc
 obtain⟨n,hn,rfl⟩:=List.getElem_of_mem hc
 have h1:=h (f+n) (by omega) (by simp at hn;omega)
 simp at hn
 rw[List.getElem_drop,List.getElem_take]
 simpa [show f+n < s.length by omega] using h1
theorem WordsAt.blank {s:List UInt8}{out:List (List UInt8)}{f i:Nat}(h:WordsAt s out f i)(hi:i < s.length)(hc:s.getD i 0=32):WordsAt s (out++[(s.take i).drop f]) (i+1) (i+1):=by
 refine⟨Nat.le_refl _,fun j h1 h2=>by omega,?_,by have:=h.few;have:=h.le;simp;omega⟩
 rw[←h.all,List.append_assoc]
 congr 1
 have e:s.drop f=(s.take i).drop f++32 :: s.drop (i+1):=by
  have e1:s=s.take i++32 :: s.drop (i+1):=by
   have hg:s[i]=32:=by simpa [hi] using hc
   rw[←hg,←List.drop_eq_getElem_cons hi,List.take_append_drop]
  have hle:f≤(s.take i).length:=by have:=h.le;simp;omega
  rw[←List.drop_append_of_le_length hle,←e1]
 rw[e,wordsL_more _ _ (cut_no (by omega) h.no)]
 rfl
theorem WordsAt.last {s:List UInt8}{out:List (List UInt8)}{f:Nat}(h:WordsAt s out f s.length):out++[(s.take s.length).drop f]=wordsL s:=by
 rw[←h.all]
 congr 1
 have:=cut_no (Nat.le_refl _) h.no
 rw[List.take_length] at this ⊢
 rw[wordsL_one _ this]
theorem WordsAt.on {s:List UInt8}{out:List (List UInt8)}{f i:Nat}(h:WordsAt s out f i)(hc:s.getD i 0≠32):WordsAt s out f (i+1):=
 ⟨by have:=h.le;omega,fun j h1 h2=>by
  by_cases e:j=i
  ·subst e;exact hc
  ·exact h.no j h1 (by omega),h.all,h.few⟩
def wvs (ws:List (List UInt8)):List Value:=ws.map bs
theorem wvs_snoc (ws:List (List UInt8))(l:List UInt8):wvs (ws++[l])=wvs ws++[.string ⟨l.toArray⟩]:=by simp[wvs,bs]
set_option maxHeartbeats 1000000 in
theorem rWords (s:List UInt8)(hl:s.length < 100000)(w:World):
 Calls Tryz.prog 101 #[bs s] w fun e w'=>∃ v,e=.returned v∧Vls 9 w' v (wvs (wordsL s))∧Below w.heap.size w w':=by
 unfold bs
 go_enter Tryz.func101,Tryz.ntmps101
 go_wp2
 go_loopw [3,4,5] (fun o f i x=>∃ (out:List (List UInt8)) (fn n:Nat),i=.int .i64 n∧f=.int .i64 fn∧Vls 9 x o (wvs out)∧Below w.heap.size w x∧(∀ g,o.ownBlock=some g→w.heap.size≤g)∧n≤s.length+1∧((n≤s.length∧WordsAt s out fn n)∨(n=s.length+1∧out=wordsL s))) (fun _ _ i _=>s.length+1 - (intOf i).toNat)
 case atStart=>exact⟨[],0,0,rfl,rfl,Vls.nil _ _,Below.refl _ _,(fun g e=>by cases e),by omega,.inl ⟨by omega,⟨Nat.le_refl _,fun j h1 h2=>by omega,rfl,Nat.le_refl _⟩⟩⟩
 case round=>
  obtain⟨out,fn,n,rfl,rfl,hV,hb,hown,hn,hW⟩:=hrel
  rcases hW with ⟨hle,hW⟩ | ⟨rfl,rfl⟩
  ·have hfew:=hW.few
   have hfl:=hW.le
   have hvl:(wvs out).length=out.length:=by simp[wvs]
   by_cases hend:n=s.length
   ·subst hend
    have hcut:=run_cutS s fn s.length hfl (Nat.le_refl _)
    have hlast:=hW.last
    generalize (s.take s.length).drop fn=wd at *
    have HL:=Lib.hid hlast
    clear hlast
    have hle2:(s.length:Int)≤(s.length:Int):=by omega
    go_wp2_with (at_builtin;refine wpVlsApp (by rfl) _ _ 144 (by rfl) (.string ⟨#[]⟩) 16 Tryz.underlying144 (by kernel_rfl) rfl (by decide) hV (by rfl) (.string ⟨wd.toArray⟩) rfl (by rfl) (by omega) ?_;intro v' x' hV' hg hloc)
    have hb2:Below w.heap.size w x':=hb.grown hg hb.size hown
    have hown2:∀ g,v'.ownBlock=some g→w.heap.size≤g:=by
     intro g e
     rcases hloc with h | h
     ·exact hown g (h ▸ e)
     ·rw[h] at e;injection e with e;have:=hb.size;omega
    go_roundw
    case rel=>exact⟨out++[wd],s.length+1,s.length+1,by go_num,by go_num,by rw[wvs_snoc];exact hV',hb2,hown2,by omega,.inr ⟨rfl,HL.out⟩⟩
    case measure=>(simp[intOf] <;> omega)
   ·have hlt:n < s.length:=by omega
    have hidx:=run_ltr s n hlt
    have dne:((n:Int)==(s.length:Int))=false:=by simp;omega
    have dle:(n:Int)≤(s.length:Int):=by omega
    by_cases hc:s.getD n 0=32
    ·have hW2:=hW.blank hlt hc
     have hcut:=run_cutS s fn n hfl hle
     rw[hc] at hidx
     have e32:(((32:UInt8).toNat:Nat):Int)=32:=rfl
     rw[e32] at hidx
     clear e32 hc
     generalize (s.take n).drop fn=wd at *
     go_wp2_with (at_builtin;refine wpVlsApp (by rfl) _ _ 144 (by rfl) (.string ⟨#[]⟩) 16 Tryz.underlying144 (by kernel_rfl) rfl (by decide) hV (by rfl) (.string ⟨wd.toArray⟩) rfl (by rfl) (by omega) ?_;intro v' x' hV' hg hloc)
     have hb2:Below w.heap.size w x':=hb.grown hg hb.size hown
     have hown2:∀ g,v'.ownBlock=some g→w.heap.size≤g:=by
      intro g e
      rcases hloc with h | h
      ·exact hown g (h ▸ e)
      ·rw[h] at e;injection e with e;have:=hb.size;omega
     go_roundw
     case rel=>exact⟨out++[wd],n+1,n+1,by go_num,by go_num,by rw[wvs_snoc];exact hV',hb2,hown2,by omega,.inl ⟨by omega,hW2⟩⟩
     case measure=>(simp[intOf] <;> omega)
    ·have hW2:=hW.on hc
     have dc:((((s.getD n 0).toNat:Nat):Int)==32)=false:=by
      have h:(s.getD n 0).toNat≠32:=fun e=>hc (UInt8.toNat_inj.1 e)
      generalize (s.getD n 0).toNat=c at *
      simp;omega
     generalize (s.getD n 0).toNat=c at *
     clear hc
     go_wp2
     go_roundw
     case rel=>exact⟨out,fn,n+1,by go_num,rfl,hV,hb,hown,by omega,.inl ⟨by omega,hW2⟩⟩
     case measure=>(simp[intOf] <;> omega)
  ·go_wp2
   go_ret
   exact⟨_,rfl,hV,hb⟩
end Go.Proofs.YthdgehcghklflaaGreatDoor
namespace Go.Proofs.YthdgehcghklflaaGreatDoor
def lastD (l:List En)(t:Int):Int:=l.foldl (fun k x=>if x.th=t then x.kind else k) 0
theorem lastD_nil (t:Int):lastD [] t=0:=rfl
theorem lastD_snoc (l:List En)(x:En)(t:Int):lastD (l++[x]) t=if x.th=t then x.kind else lastD l t:=by simp[lastD,List.foldl_append]
def qAt (l:List En)(i:Nat):Option Int:=match l[i]? with
 | some x=>if x.kind=2∧lastD l x.th=2∧lastD (l.drop (i+1)) x.th=0 then some x.th else none
 | none=>none
def queueD (l:List En):List Int:=(List.range l.length).filterMap (qAt l)
def ownK (k:Int):Bool:=decide (k=3∨k=5∨k=8)
def ownerD (l:List En):Int:=match l.reverse.find? (fun x=>ownK (lastD l x.th)) with
 | some x=>x.th
 | none=>-1
def nowD (l:List En)(x:En):Prop:=0≤x.now∧match l.getLast? with
 | some y=>y.now≤x.now
 | none=>True
def kindD (last:Int)(q:List Int)(ow:Int)(x:En):Prop:=
 (x.kind=1∧(last=0∨last=6∨last=7∨last=10))∨((x.kind=2∨x.kind=7)∧last=1)∨(x.kind=3∧last=2∧q.head?=some x.th∧ow=-1)∨(x.kind=4∧last=2)∨
 (x.kind=5∧last=3)∨(x.kind=6∧last=4)∨(x.kind=8∧last=5)∨(x.kind=9∧last=8)∨(x.kind=10∧last=9)
instance (last:Int) (q:List Int) (ow:Int) (x:En):Decidable (kindD last q ow x):=by unfold kindD;infer_instance
instance (l:List En) (x:En):Decidable (nowD l x):=by
 unfold nowD
 cases l.getLast? <;> infer_instance
def fitsD (n:Int)(l:List En)(x:En):Prop:=0≤x.th∧x.th < n∧nowD l x∧kindD (lastD l x.th) (queueD l) (ownerD l) x
instance (n:Int) (l:List En) (x:En):Decidable (fitsD n l x):=by unfold fitsD;infer_instance
def Trace (n:Int)(l:List En):Prop:=∀ k x,l[k]?=some x→fitsD n (l.take k) x
structure Fa where
 la:Int→Int
 q:List Int
 ow:Int
def fa0:Fa:=⟨fun _=>0,[],-1⟩
def faStep (a:Fa)(x:En):Fa:=
 ⟨fun t=>if x.th=t then x.kind else a.la t,a.q.filter (fun t=>t != x.th)++(if x.kind=2 then [x.th] else []),if ownK x.kind then x.th else if x.th=a.ow then -1 else a.ow⟩
def faRun (l:List En):Fa:=l.foldl faStep fa0
def fitsA (n:Int)(a:Fa)(x:En):Prop:=0≤x.th∧x.th < n∧kindD (a.la x.th) a.q a.ow x
theorem faRun_snoc (l:List En)(x:En):faRun (l++[x])=faStep (faRun l) x:=by simp[faRun,List.foldl_append]
theorem faRun_nil:faRun []=fa0:=rfl
theorem snoc_ind {α:Type}{P:List α→Prop}(h0:P [])(h1:∀ l x,P l→P (l++[x]))(l:List α):P l:=by
 have:∀ n (l:List α),l.length=n→P l:=by
  intro n
  induction n with
  | zero=>intro l h;rw[List.eq_nil_of_length_eq_zero h];exact h0
  | succ n ih=>
   intro l h
   have hne:l≠[]:=fun e=>by rw[e] at h;simp at h
   rw[←List.dropLast_concat_getLast hne]
   exact h1 _ _ (ih _ (by simp[h]))
 exact this _ l rfl
theorem la_is (l:List En):(faRun l).la=lastD l:=by
 refine snoc_ind (P:=fun l=>(faRun l).la=lastD l) ?_ ?_ l
 ·rfl
 ·intro l x ih
  funext t
  rw[faRun_snoc,lastD_snoc]
  show (if x.th=t then x.kind else (faRun l).la t)=_
  rw[ih]
theorem qAt_snoc (l:List En)(x:En)(i:Nat)(hi:i < l.length):qAt (l++[x]) i=(qAt l i).filter (fun t=>t != x.th):=by
 unfold qAt
 rw[List.getElem?_append_left hi,List.getElem?_eq_getElem hi]
 simp only
 have hd:(l++[x]).drop (i+1)=l.drop (i+1)++[x]:=by rw[List.drop_append_of_le_length (by omega)]
 rw[hd,lastD_snoc,lastD_snoc]
 generalize l[i]=y
 by_cases e:x.th=y.th
 ·rw[if_pos e,if_pos e]
  rw[if_neg (by omega)]
  split
  ·simp only[Option.filter_some]
   have:(y.th != x.th)=false:=by simp[e]
   rw[this];rfl
  ·rfl
 ·rw[if_neg e,if_neg e]
  split
  ·simp only[Option.filter_some]
   have:(y.th != x.th)=true:=by simp;exact fun h=>e h.symm
   rw[this];rfl
  ·rfl
theorem filterMap_filter {α β:Type}(f:α→Option β)(p:β→Bool)(l:List α):l.filterMap (fun a=>(f a).filter p)=(l.filterMap f).filter p:=by
 induction l with
 | nil=>rfl
 | cons a l ih=>
  simp only[List.filterMap_cons,ih]
  cases h:f a with
  | none=>simp
  | some b=>
   simp only[Option.filter_some]
   cases hp:p b <;> simp[hp]
theorem filterMap_same {α β:Type}{f g:α→Option β}:∀ l:List α,(∀ a∈l,f a=g a)→l.filterMap f=l.filterMap g
 | [],_=>rfl
 | a :: l,h=>by
  rw[List.filterMap_cons,List.filterMap_cons,h a (by simp),filterMap_same l fun b hb=>h b (by simp[hb])]
theorem queueD_snoc (l:List En)(x:En):queueD (l++[x])=(queueD l).filter (fun t=>t != x.th)++(if x.kind=2 then [x.th] else []):=by
 unfold queueD
 rw[List.length_append,List.length_singleton,List.range_succ,List.filterMap_append]
 congr 1
 ·rw[←filterMap_filter]
  refine filterMap_same _ fun i hi=>?_
  exact qAt_snoc l x i (List.mem_range.1 hi)
 ·have:qAt (l++[x]) l.length=if x.kind=2 then some x.th else none:=by
   unfold qAt
   rw[List.getElem?_append_right (Nat.le_refl _),Nat.sub_self]
   simp only[List.getElem?_cons_zero]
   rw[lastD_snoc,if_pos rfl,List.drop_of_length_le (by simp),lastD_nil]
   by_cases e:x.kind=2 <;> simp[e]
  simp only[List.filterMap_cons,List.filterMap_nil,this]
  by_cases e:x.kind=2 <;> simp[e]
theorem q_is (l:List En):(faRun l).q=queueD l:=by
 refine snoc_ind (P:=fun l=>(faRun l).q=queueD l) ?_ ?_ l
 ·rfl
 ·intro l x ih
  rw[faRun_snoc,queueD_snoc,←ih];rfl
theorem trace_nil (n:Int):Trace n []:=fun k x h=>by simp at h
theorem trace_snoc {n:Int}{l:List En}{x:En}:Trace n (l++[x])↔Trace n l∧fitsD n l x:=by
 constructor
 ·intro h
  refine⟨fun k y hk=>?_,?_⟩
  ·have hlt:k < l.length:=(List.getElem?_eq_some_iff.1 hk).1
   have:=h k y (by rw[List.getElem?_append_left hlt];exact hk)
   rwa [List.take_append_of_le_length (by omega)] at this
  ·have:=h l.length x (by simp)
   rwa [List.take_append_of_le_length (Nat.le_refl _),List.take_length] at this
 ·rintro⟨h1,h2⟩ k y hk
  by_cases hlt:k < l.length
  ·rw[List.getElem?_append_left hlt] at hk
   rw[List.take_append_of_le_length (by omega)]
   exact h1 k y hk
  ·have hkl:k=l.length:=by
    have:=(List.getElem?_eq_some_iff.1 hk).1
    simp at this;omega
   subst hkl
   rw[List.getElem?_append_right (Nat.le_refl _),Nat.sub_self] at hk
   simp at hk
   subst hk
   rw[List.take_append_of_le_length (Nat.le_refl _),List.take_length]
   exact h2
def OwnP (n:Int)(l:List En):Prop:=Trace n l→(∀ t,ownK (lastD l t)=true↔((faRun l).ow=t∧0≤t))∧(faRun l).ow=ownerD l∧-1≤(faRun l).ow∧(∀ x∈l,0≤x.th)
theorem owner_iff {n:Int}(l:List En):OwnP n l:=by
 refine snoc_ind (P:=OwnP n) ?_ ?_ l
 ·intro _
  refine⟨fun t=>?_,rfl,by simp[faRun,fa0],by simp⟩
  simp only[lastD_nil,faRun_nil,fa0]
  constructor
  ·intro h;simp[ownK] at h
  ·rintro⟨h1,h2⟩;omega
 ·intro l x ih h
  obtain⟨hl,f0,f1,f2,fk⟩:=trace_snoc.1 h
  obtain⟨i1,i2,i3,i4⟩:=ih hl
  have hA:∀ t,ownK (lastD (l++[x]) t)=true↔((faRun (l++[x])).ow=t∧0≤t):=by
   intro t
   rw[lastD_snoc,faRun_snoc]
   show _↔((if ownK x.kind then x.th else if x.th=(faRun l).ow then -1 else (faRun l).ow)=t∧0≤t)
   by_cases ho:ownK x.kind=true
   ·rw[if_pos ho]
    by_cases e:x.th=t
    ·subst e;rw[if_pos rfl];simp[ho,f0]
    ·rw[if_neg e,i1 t]
     constructor
     ·rintro⟨e1,e2⟩
      exfalso
      -- another one owns it: then x isn't one of these
      unfold kindD at fk
      have hk:x.kind=3∨x.kind=5∨x.kind=8:=of_decide_eq_true ho
      rcases hk with hk | hk | hk
      ·rw[←i2] at fk;omega
      ·have hx:ownK (lastD l x.th)=true:=by
        unfold ownK;refine decide_eq_true ?_;omega
       have:=(i1 x.th).1 hx
       omega
      ·have hx:ownK (lastD l x.th)=true:=by
        unfold ownK;refine decide_eq_true ?_;omega
       have:=(i1 x.th).1 hx
       omega
     ·rintro⟨e1,_⟩;exact absurd e1 e
   ·rw[if_neg ho]
    by_cases e:x.th=t
    ·subst e
     rw[if_pos rfl]
     constructor
     ·intro h2;exact absurd h2 ho
     ·rintro⟨e1,e2⟩
      exfalso
      split at e1 <;> omega
    ·rw[if_neg e,i1 t]
     constructor
     ·rintro⟨e1,e2⟩
      refine⟨?_,e2⟩
      rw[if_neg (by omega)];exact e1
     ·rintro⟨e1,e2⟩
      refine⟨?_,e2⟩
      split at e1 <;> omega
  have hI4:∀ y∈l++[x],0≤y.th:=by
   intro y hy
   rcases List.mem_append.1 hy with hy | hy
   ·exact i4 y hy
   ·simp at hy;subst hy;exact f0
  have hI3:-1≤(faRun (l++[x])).ow:=by
   rw[faRun_snoc]
   show -1≤(if ownK x.kind then x.th else if x.th=(faRun l).ow then -1 else (faRun l).ow)
   split
   ·omega
   ·split <;> omega
  refine⟨hA,?_,hI3,hI4⟩
  unfold ownerD
  cases hf:(l++[x]).reverse.find? (fun y=>ownK (lastD (l++[x]) y.th)) with
  | some y=>
   have:=List.find?_some hf
   exact((hA y.th).1 this).1
  | none=>
   simp only
   rw[List.find?_eq_none] at hf
   by_cases hc:(faRun (l++[x])).ow=-1
   ·exact hc
   ·exfalso
    have h2:=(hA (faRun (l++[x])).ow).2 ⟨rfl,by omega⟩
    -- it has an entry,for its last one isn't 0
    have hex:∃ y∈l++[x],y.th=(faRun (l++[x])).ow:=by
     by_cases hn:∃ y∈l++[x],y.th=(faRun (l++[x])).ow
     ·exact hn
     ·exfalso
      have h0:∀ (m:List En),(∀ y∈m,¬ y.th=(faRun (l++[x])).ow)→lastD m (faRun (l++[x])).ow=0:=by
       intro m
       refine snoc_ind (P:=fun m=>(∀ y∈m,¬ y.th=(faRun (l++[x])).ow)→lastD m (faRun (l++[x])).ow=0) ?_ ?_ m
       ·intro _;rfl
       ·intro m z ihm hm
        rw[lastD_snoc,if_neg (hm z (by simp))]
        exact ihm fun y hy=>hm y (by simp[hy])
      rw[h0 _ (fun y hy e=>hn ⟨y,hy,e⟩)] at h2
      simp[ownK] at h2
    obtain⟨y,hy,e⟩:=hex
    have:=hf y (by rw[List.mem_reverse];exact hy)
    rw[e,h2] at this
    exact this rfl
theorem fits_iff {n:Int}{l:List En}{x:En}(h:Trace n l):fitsD n l x↔nowD l x∧fitsA n (faRun l) x:=by
 unfold fitsD fitsA
 rw[la_is,q_is,(owner_iff l h).2.1]
 constructor
 ·rintro⟨a,b,c,d⟩;exact⟨c,a,b,d⟩
 ·rintro⟨c,a,b,d⟩;exact⟨a,b,c,d⟩
theorem trace_more {n:Int}{l:List En}{x:En}(h:Trace n l)(hl:∀ y∈l,y.now=0)(hx:x.now=0)(hf:fitsA n (faRun l) x):Trace n (l++[x]):=by
 rw[trace_snoc]
 refine⟨h,(fits_iff h).2 ⟨⟨by omega,?_⟩,hf⟩⟩
 cases hg:l.getLast? with
 | none=>trivial
 | some y=>
  have:=hl y (List.mem_of_getLast? hg)
  show y.now≤x.now
  omega
theorem mem_q {n:Int}(l:List En)(h:Trace n l):(∀ t,t∈(faRun l).q↔lastD l t=2)∧(faRun l).q.Nodup∧(∀ t∈(faRun l).q,0≤t∧t < n):=by
 refine snoc_ind (P:=fun l=>Trace n l→(∀ t,t∈(faRun l).q↔lastD l t=2)∧(faRun l).q.Nodup∧(∀ t∈(faRun l).q,0≤t∧t < n)) ?_ ?_ l h
 ·intro _
  simp[faRun,fa0,lastD]
 ·intro l x ih h
  obtain⟨hl,f0,f1,f2,fk⟩:=trace_snoc.1 h
  obtain⟨i1,i2,i3⟩:=ih hl
  have e:(faRun (l++[x])).q=(faRun l).q.filter (fun t=>t != x.th)++(if x.kind=2 then [x.th] else []):=by rw[faRun_snoc];rfl
  rw[e]
  have hm:∀ t,t∈(faRun l).q.filter (fun t=>t != x.th)↔(t∈(faRun l).q∧t≠x.th):=fun t=>by simp[List.mem_filter]
  refine⟨fun t=>?_,?_,fun t ht=>?_⟩
  ·rw[lastD_snoc,List.mem_append,hm,i1]
   by_cases et:x.th=t
   ·subst et
    by_cases ek:x.kind=2 <;> simp[ek]
   ·rw[if_neg et]
    have et2:¬ t=x.th:=fun e=>et e.symm
    by_cases ek:x.kind=2 <;> simp[ek,et2]
  ·refine List.nodup_append.2 ⟨i2.filter _,by split <;> simp,fun a ha b hb=>?_⟩
   have:=(hm a).1 ha
   split at hb
   ·simp at hb;subst hb;exact this.2
   ·simp at hb
  ·rcases List.mem_append.1 ht with ht | ht
   ·exact i3 t ((hm t).1 ht).1
   ·split at ht
    ·simp at ht;subst ht;exact⟨f0,f1⟩
    ·simp at ht
theorem nodup_few:∀ (k:Nat) (l:List Int),l.Nodup→(∀ t∈l,0≤t∧t < (k:Int))→l.length≤k
 | 0,l,_,h=>by
  cases l with
  | nil=>simp
  | cons q r=>have:=h q (by simp);omega
 | k+1,l,hd,h=>by
  have h1:=nodup_few k (l.erase (k:Int)) (hd.erase _) (fun q hq=>by
   have hm:=hd.mem_erase_iff.1 hq
   have:=h q hm.2
   have:=hm.1
   omega)
  by_cases hm:(k:Int)∈l
  ·have:=List.length_erase_of_mem hm;omega
  ·rw[List.erase_of_not_mem hm] at h1;omega
theorem filter_not {q:List Int}{t:Int}(h:t ∉ q):q.filter (fun x=>x != t)=q:=by
 rw[List.filter_eq_self]
 intro a ha
 have:a≠t:=fun e=>h (e ▸ ha)
 simpa using this
theorem filter_head {q:List Int}{t:Int}(h:(t :: q).Nodup):(t :: q).filter (fun x=>x != t)=q:=by
 rw[List.filter_cons]
 simp only[bne_self_eq_false,Bool.false_eq_true,if_false]
 exact filter_not (List.nodup_cons.1 h).1
theorem last_thread {n:Int}(l:List En)(h:Trace n l)(t:Int)(ht:lastD l t≠0):0≤t∧t < n:=by
 revert ht
 refine snoc_ind (P:=fun l=>Trace n l→lastD l t≠0→0≤t∧t < n) ?_ ?_ l h
 ·intro _ h0;exact absurd rfl h0
 ·intro l x ih h h0
  obtain⟨hl,f0,f1,_⟩:=trace_snoc.1 h
  rw[lastD_snoc] at h0
  split at h0
  ·omega
  ·exact ih hl h0
section
variable {n:Int}{l:List En}{x:En}
theorem q_other (h:Trace n l)(hk:x.kind≠2)(hl:lastD l x.th≠2):(faRun (l++[x])).q=(faRun l).q:=by
 rw[faRun_snoc]
 show (faRun l).q.filter _++_=_
 rw[filter_not (fun hm=>hl (((mem_q l h).1 _).1 hm)),if_neg hk,List.append_nil]
theorem q_enq (h:Trace n l)(hk:x.kind=2)(hl:lastD l x.th≠2):(faRun (l++[x])).q=(faRun l).q++[x.th]:=by
 rw[faRun_snoc]
 show (faRun l).q.filter _++_=_
 rw[filter_not (fun hm=>hl (((mem_q l h).1 _).1 hm)),if_pos hk]
theorem q_head {rest:List Int}(h:Trace n l)(hk:x.kind≠2)(hq:(faRun l).q=x.th :: rest):(faRun (l++[x])).q=rest:=by
 have hd:=(mem_q l h).2.1
 rw[faRun_snoc]
 show (faRun l).q.filter _++_=_
 rw[hq] at hd ⊢
 rw[filter_head hd,if_neg hk,List.append_nil]
theorem ow_take (hk:ownK x.kind=true):(faRun (l++[x])).ow=x.th:=by
 rw[faRun_snoc]
 show (if ownK x.kind then x.th else _)=_
 rw[if_pos hk]
theorem ow_other (h:Trace n l)(h0:0≤x.th)(hk:ownK x.kind=false)(hl:ownK (lastD l x.th)=false):(faRun (l++[x])).ow=(faRun l).ow:=by
 have h1:=(owner_iff l h).1 x.th
 rw[faRun_snoc]
 show (if ownK x.kind then x.th else if x.th=(faRun l).ow then -1 else (faRun l).ow)=_
 rw[if_neg (by simp[hk])]
 by_cases e:x.th=(faRun l).ow
 ·have:=h1.2 ⟨e.symm,h0⟩
  rw[hl] at this;cases this
 ·rw[if_neg e]
theorem ow_none (h:Trace n l)(hk:ownK x.kind=false)(hl:ownK (lastD l x.th)=true):(faRun (l++[x])).ow=-1:=by
 have h1:=((owner_iff l h).1 x.th).1 hl
 rw[faRun_snoc]
 show (if ownK x.kind then x.th else if x.th=(faRun l).ow then -1 else (faRun l).ow)=_
 rw[if_neg (by simp[hk]),if_pos h1.1.symm]
theorem ow_only (h:Trace n l){s t:Int}(hs:ownK (lastD l s)=true)(ht:ownK (lastD l t)=true):s=t:=by
 have h1:=((owner_iff l h).1 s).1 hs
 have h2:=((owner_iff l h).1 t).1 ht
 omega
theorem ow_is (h:Trace n l){t:Int}(ht:ownK (lastD l t)=true):(faRun l).ow=t:=(((owner_iff l h).1 t).1 ht).1
theorem last_other (k:Int)(s t:Nat)(c:Int)(h:s≠t):lastD (l++[⟨k,(t:Int),c⟩]) (s:Int)=lastD l s:=by
 rw[lastD_snoc,if_neg (by show ¬ ((t:Int)=s);omega)]
theorem last_same (k t c:Int):lastD (l++[⟨k,t,c⟩]) t=k:=by rw[lastD_snoc];simp
theorem now_more {k t:Int}(h:∀ y∈l,y.now=0):∀ y∈l++[⟨k,t,0⟩],y.now=0:=by
 intro y hy
 rcases List.mem_append.1 hy with hy | hy
 ·exact h y hy
 ·simp at hy;subst hy;rfl
end
def checkD (n:Int)(l:List En):Nat:=((List.range l.length).find? fun k=>match l[k]? with
 | some x=>!decide (fitsD n (l.take k) x)
 | none=>false).getD l.length
theorem checkD_all {n:Int}{l:List En}(h:Trace n l):checkD n l=l.length:=by
 unfold checkD
 have:((List.range l.length).find? fun k=>match l[k]? with
  | some x=>!decide (fitsD n (l.take k) x)
  | none=>false)=none:=by
  rw[List.find?_eq_none]
  intro k hk
  cases hx:l[k]? with
  | none=>simp
  | some x=>simp[h k x hx]
 rw[this];rfl
end Go.Proofs.YthdgehcghklflaaGreatDoor
namespace Go.Proofs.YthdgehcghklflaaGreatDoor
open Go.ChangeShapes Go.WideShapes Go.ChangeAt Go.RowKit
theorem given_add {k:IntKind}{w:World}{b off:Nat}{xs:List Int}(hc:∀ i,i < xs.length→w.cell? ⟨b,off+i,none⟩=some (.int k (nth xs i))):
 ∀ j v,(xs.map (Value.int k))[j]?=some v→w.cell? ((⟨b,off,none⟩:Addr).add j)=some v:=by
 intro j v hj
 have hl:j < xs.length:=by have:=(List.getElem?_eq_some_iff.1 hj).1;simpa using this
 rw[List.getElem?_map,nth_get hl] at hj
 have e:(⟨b,off,none⟩:Addr).add j=⟨b,off+j,none⟩:=by unfold Addr.add;split <;> simp_all
 rw[e,hc j hl,←hj];rfl
set_option maxRecDepth 100000
def Fs (w:World)(v:Value)(xs:List Int):Prop:=
 (v=.slice none 0 0∧xs=[])∨∃ g off cap cs,v=.slice (some ⟨g,off,none⟩) xs.length cap∧xs.length≤cap∧cap≤maxLen∧Bk w g 3 cs∧off+cap≤cs.size∧∀ i,i < xs.length→cs[off+i]?=some (.int .i64 (nth xs i))
section
variable {w w':World}{v:Value}{xs:List Int}
theorem Fs.of_lst (h:Lst .i64 3 w v xs):Fs w v xs:=by
 rcases h.2 with ⟨rfl,h0⟩ | ⟨g,cap,cur,rfl,hb,hg,hnc,hcm,hcs,htake⟩
 ·exact .inl ⟨rfl,List.eq_nil_of_length_eq_zero h0⟩
 ·refine .inr ⟨g,0,cap,cur,rfl,hnc,hcm,hg,by omega,fun i hi=>?_⟩
  have h1:=World.ownsRow.cellAt ⟨h.1,.inr ⟨g,cap,cur,rfl,hb,hg,hnc,hcm,hcs,htake⟩⟩ i (by omega)
  rw[List.getElem?_map,nth_get hi] at h1
  rw[Nat.zero_add,←Bk.cell (cs:=cur) (t:=3) hg i,h1];rfl
theorem Fs.lt (h:Fs w v xs){g:Nat}(e:v.ownBlock=some g):g < w.heap.size:=by
 rcases h with ⟨rfl,_⟩ | ⟨g',off,cap,cs,rfl,_,_,hb,_⟩
 ·cases e
 ·simp only[Value.ownBlock,Option.some.injEq] at e;subst e;exact hb.lt
theorem Fs.bk (h:Fs w v xs){g:Nat}(e:v.ownBlock=some g):∃ cs,Bk w g 3 cs:=by
 rcases h with ⟨rfl,_⟩ | ⟨g',off,cap,cs,rfl,_,_,hb,_⟩
 ·cases e
 ·simp only[Value.ownBlock,Option.some.injEq] at e;subst e;exact⟨cs,hb⟩
theorem Fs.within {S:Nat→Prop}(h:Fs w v xs)(k:Within w w' S)(hn:∀ g,v.ownBlock=some g→¬ S g):Fs w' v xs:=by
 rcases h with ⟨rfl,rfl⟩ | ⟨g,off,cap,cs,rfl,h1,h2,hb,h3⟩
 ·exact .inl ⟨rfl,rfl⟩
 ·exact .inr ⟨g,off,cap,cs,rfl,h1,h2,hb.within k (hn g rfl),h3⟩
theorem Fs.oneCell (h:Fs w v xs):v.oneCell'=true:=by
 rcases h with ⟨rfl,_⟩ | ⟨g,off,cap,cs,rfl,_⟩ <;> rfl
end
end Go.Proofs.YthdgehcghklflaaGreatDoor
namespace Go.Proofs.YthdgehcghklflaaGreatDoor
open Go.ChangeShapes Go.WideShapes Go.ChangeAt Go.RowKit Go.Deep
def Up (w x:World):Prop:=Below w.heap.size w x
def Nb (t:TypeId)(w:World)(g:Nat)(x:En):Prop:=Bk w g t #[.int .i64 x.kind,.int .i64 x.th,.int .i64 x.now]
theorem Nb.cells {t:TypeId}{w:World}{g:Nat}{x:En}(h:Nb t w g x):w.cell? ⟨g,0,none⟩=some (.int .i64 x.kind)∧w.cell? ⟨g,1,none⟩=some (.int .i64 x.th)∧w.cell? ⟨g,2,none⟩=some (.int .i64 x.now):=⟨Bk.cell h 0,Bk.cell h 1,Bk.cell h 2⟩
theorem Nb.below {t:TypeId}{w w':World}{g:Nat}{x:En}(h:Nb t w g x)(hb:Below w.heap.size w w'):Nb t w' g x:=(hb.block g (Bk.lt h)).trans h
theorem Nb.made (t:TypeId)(w:World)(k h n:Int):Nb t (w.alloc (.cells #[.int .i64 k,.int .i64 h,.int .i64 n] t)) w.heap.size ⟨k,h,n⟩:=Bk.made _ _ _
theorem EnS.cut {w:World}{a:Option Addr}{l:List En}(h:EnS w a l)(k:Nat):EnS w a (l.take k):=by
 intro h0
 rw[List.length_take] at h0
 obtain⟨b,off,e,hlt,hc⟩:=h (by omega)
 refine⟨b,off,e,hlt,fun i x hi j hj=>hc i x ?_ j hj⟩
 rw[List.getElem?_take] at hi
 split at hi
 ·exact hi
 ·cases hi
end Go.Proofs.YthdgehcghklflaaGreatDoor
namespace Go.Proofs.YthdgehcghklflaaGreatDoor
def Nl (s:List UInt8):Prop:=∀ c∈s,c≠10
theorem Nl.app {a b:List UInt8}(ha:Nl a)(hb:Nl b):Nl (a++b):=fun c hc=>by
 rcases List.mem_append.1 hc with h | h
 ·exact ha c h
 ·exact hb c h
def Bf (l:List UInt8):Prop:=∀ c∈l,c≠32
theorem blank_or:∀ s:List UInt8,Bf s∨∃ t r,Bf t∧s=t++32 :: r
 | []=>.inl (by intro c h;cases h)
 | c :: s=>by
  by_cases h:c=32
  ·exact .inr ⟨[],s,(by intro c h;cases h),(by rw[h];rfl)⟩
  ·rcases blank_or s with h1 | ⟨t,r,h1,rfl⟩
   ·exact .inl (by intro d hd;rcases List.mem_cons.1 hd with rfl | hd;exact h;exact h1 d hd)
   ·exact .inr ⟨c :: t,r,(by intro d hd;rcases List.mem_cons.1 hd with rfl | hd;exact h;exact h1 d hd),rfl⟩
theorem index_bf:∀ t:List UInt8,Bf t→Lib.index t [32]=-1
 | [],_=>by simp[Lib.index]
 | c :: t,h=>by
  have h1:=index_bf t fun d hd=>h d (List.mem_cons_of_mem _ hd)
  have h2:c≠32:=h c List.mem_cons_self
  unfold Lib.index
  rw[if_neg (by simp[List.isPrefixOf];exact fun e=>h2 e.symm),h1]
  rfl
theorem index_at:∀ (t r:List UInt8),Bf t→Lib.index (t++32 :: r) [32]=t.length
 | [],r,_=>by simp[Lib.index,List.isPrefixOf]
 | c :: t,r,h=>by
  have h1:=index_at t r fun d hd=>h d (List.mem_cons_of_mem _ hd)
  have h2:c≠32:=h c List.mem_cons_self
  show Lib.index (c :: (t++32 :: r)) [32]=_
  unfold Lib.index
  rw[if_neg (by simp[List.isPrefixOf];exact fun e=>h2 e.symm),h1,if_neg (by simp <;> omega)]
  simp
def joinL (w0:List UInt8)(ws:List (List UInt8)):List UInt8:=w0++ws.flatMap fun w=>32 :: w
theorem words_join:∀ (ws:List (List UInt8)) (w0:List UInt8),Bf w0→(∀ w∈ws,Bf w)→wordsL (joinL w0 ws)=w0 :: ws
 | [],w0,h,_=>by unfold joinL;simp;exact wordsL_one w0 h
 | w :: ws,w0,h,hs=>by
  have ih:=words_join ws w (hs w List.mem_cons_self) fun v hv=>hs v (List.mem_cons_of_mem _ hv)
  unfold joinL at *
  simp only[List.flatMap_cons,List.cons_append]
  rw[wordsL_more w0 _ h,ih]
theorem dec_digit:∀ (n:Nat),∀ c∈Lib.decDigits n,48≤c.toNat∧c.toNat≤57:=by
 intro n
 induction n using Nat.strongRecOn with
 | _ n ih=>
  intro c hc
  rw[Lib.decDigits] at hc
  by_cases h:n < 10
  ·rw[dif_pos h] at hc
   obtain rfl:=List.mem_singleton.1 hc
   rw[UInt8.toNat_ofNat',Nat.mod_eq_of_lt (by omega)]
   omega
  ·rw[dif_neg h] at hc
   rcases List.mem_append.1 hc with hc | hc
   ·exact ih (n / 10) (by omega) c hc
   ·obtain rfl:=List.mem_singleton.1 hc
    rw[UInt8.toNat_ofNat',Nat.mod_eq_of_lt (by omega)]
    omega
theorem dec_bf (n:Nat):Bf (Lib.decDigits n):=by
 intro c hc e
 have:=dec_digit n c hc
 rw[e] at this
 exact absurd this (by decide)
theorem dec_cons (n:Nat):∃ c r,Lib.decDigits n=c :: r∧48≤c.toNat∧c.toNat≤57∧(10≤n→49≤c.toNat):=by
 induction n using Nat.strongRecOn with
 | _ n ih=>
  rw[Lib.decDigits]
  by_cases h:n < 10
  ·rw[dif_pos h]
   refine⟨_,[],rfl,?_⟩
   rw[UInt8.toNat_ofNat',Nat.mod_eq_of_lt (by omega)]
   omega
  ·rw[dif_neg h]
   obtain⟨c,r,e,h1,h2,h3⟩:=ih (n / 10) (by omega)
   rw[e]
   refine⟨c,_,rfl,h1,h2,fun _=>?_⟩
   by_cases h9:10≤n / 10
   ·exact h3 h9
   ·rw[Lib.decDigits,dif_pos (by omega)] at e
    injection e with e1 _
    rw[←e1,UInt8.toNat_ofNat',Nat.mod_eq_of_lt (by omega)]
    omega
theorem parse_app:∀ (a b:List UInt8) (acc u:Nat),Lib.parseUint10 acc a=.ok u→Lib.parseUint10 acc (a++b)=Lib.parseUint10 u b
 | [],b,acc,u,h=>by simp[Lib.parseUint10] at h;subst h;rfl
 | c :: a,b,acc,u,h=>by
  simp only[Lib.parseUint10,List.cons_append] at h ⊢
  split at h
  ·split at h
   ·cases h
   ·split at h
    ·cases h
    ·rename_i h1 h2 h3
     rw[if_pos h1,if_neg h2,if_neg h3]
     exact parse_app a b _ u h
  ·cases h
theorem parse_dec:∀ (n:Nat),n < 18446744073709551616→Lib.parseUint10 0 (Lib.decDigits n)=.ok n:=by
 intro n
 induction n using Nat.strongRecOn with
 | _ n ih=>
  intro hn
  rw[Lib.decDigits]
  by_cases h:n < 10
  ·rw[dif_pos h]
   have e:(UInt8.ofNat (48+n)).toNat=48+n:=by rw[UInt8.toNat_ofNat',Nat.mod_eq_of_lt (by omega)]
   simp only[Lib.parseUint10,e]
   rw[if_pos (by omega),if_neg (by omega),if_neg (by omega)]
   congr 1
   omega
  ·rw[dif_neg h,parse_app _ _ _ _ (ih (n / 10) (by omega) (by omega))]
   have e:(UInt8.ofNat (48+n % 10)).toNat=48+n % 10:=by rw[UInt8.toNat_ofNat',Nat.mod_eq_of_lt (by omega)]
   simp only[Lib.parseUint10,e]
   rw[if_pos (by omega),if_neg (by omega),if_neg (by omega)]
   congr 1
   omega
theorem atoi_dec (n:Nat)(h:n < 9223372036854775808):Lib.atoiAll (Lib.decDigits n)=.ok n:=by
 obtain⟨c,r,e,h1,h2,-⟩:=dec_cons n
 have hp:=parse_dec n (by omega)
 rw[e] at hp ⊢
 unfold Lib.atoiAll Lib.parseMag
 simp only
 rw[if_neg (show ¬ (c.toNat=43∨c.toNat=45) by omega),if_neg (by simp),hp]
 simp only
 rw[if_neg (by omega),if_neg (by omega),if_neg (by omega)]
end Go.Proofs.YthdgehcghklflaaGreatDoor
namespace Go.Proofs.YthdgehcghklflaaGreatDoor
open Go.ChangeShapes Go.WideShapes Go.ChangeAt Go.RowKit
def eachFlowK (P:Program)(ops:Array Oper)(F:Nat→Nat→Value→World→Prop)(Wp:Nat→World→Prop)(Step:Nat→World→World→Prop)(lit:(Nat→Value)→Act)(st:List Nat):List Oper→Nat→Prop
 | [],_=>True
 | o :: l,i=>(match st.contains i with
  | true=>∀ (vs:Nat→Value) W,Wp (st.idxOf i) W→(∀ j∈depsOf ops i,F j (st.idxOf i) (vs j) W)→leavesIf P ops (fun v W'=>F i (st.idxOf i+1) v W'∧Wp (st.idxOf i+1) W'∧Step (st.idxOf i) W W') o (lit vs) W
  | false=>∀ (vs:Nat→Value) W k,loOf ops st i≤k→k≤hiOf ops st i→Wp k W→(∀ j∈depsOf ops i,F j k (vs j) W)→leavesOp P ops (F i k) o (lit vs) W)∧eachFlowK P ops F Wp Step lit st l (i+1)
theorem eachFlowK_at {P:Program}{ops:Array Oper}{F:Nat→Nat→Value→World→Prop}{Wp:Nat→World→Prop}{Step:Nat→World→World→Prop}{lit:(Nat→Value)→Act}{st:List Nat}:∀ (l:List Oper) (b i:Nat) (o:Oper),eachFlowK P ops F Wp Step lit st l b→l[i]?=some o→
 (st.contains (b+i)=true→∀ (vs:Nat→Value) W,Wp (st.idxOf (b+i)) W→(∀ j∈depsOf ops (b+i),F j (st.idxOf (b+i)) (vs j) W)→leavesIf P ops (fun v W'=>F (b+i) (st.idxOf (b+i)+1) v W'∧Wp (st.idxOf (b+i)+1) W'∧Step (st.idxOf (b+i)) W W') o (lit vs) W)∧
 (st.contains (b+i)=false→∀ (vs:Nat→Value) W k,loOf ops st (b+i)≤k→k≤hiOf ops st (b+i)→Wp k W→(∀ j∈depsOf ops (b+i),F j k (vs j) W)→leavesOp P ops (F (b+i) k) o (lit vs) W)
 | [],b,i,o,_,hi=>by simp at hi
 | x :: l,b,0,o,h,hi=>by
  simp only[List.getElem?_cons_zero,Option.some.injEq] at hi
  subst hi
  have h1:=h.1
  simp only[Nat.add_zero]
  constructor
  ·intro e;rw[e] at h1;exact h1
  ·intro e;rw[e] at h1;exact h1
 | x :: l,b,i+1,o,h,hi=>by
  have:=eachFlowK_at l (b+1) i o h.2 (by simpa using hi)
  rw[show b+1+i=b+(i+1) by omega] at this
  exact this
theorem wp_region_flowK {P:Program}{l:List Oper}{Q:Exit→Act→World→Prop}{id:Nat}{a:Act}{w:World}(st:List Nat)(Wp:Nat→World→Prop)(Step:Nat→World→World→Prop)(lit:(Nat→Value)→Act)(F:Nat→Nat→Value→World→Prop)
 (hm:P.follows .mixedOrders=true) (hr:relyB l.toArray=true) (hc:chainS l.toArray st=true) (hnd:st.Nodup) (hlit:∀ vs,frameOf l.toArray a (fun _=>true) vs=lit vs)
 (h0:Wp 0 w)
 (hW:∀ k W W',Wp k W→Below W.heap.size W W'→Wp k W')
 (hF:∀ i k v W W',F i k v W→Below W.heap.size W W'→F i k v W')
 (hS:∀ k W W',Wp k W→Step k W W'→∀ i v,F i k v W→F i (k+1) v W')
 (hop:eachFlowK P l.toArray F Wp Step lit st l 0)
 (hend:∀ (vs:Nat→Value) W,Wp st.length W→(∀ i,i < l.length→F i st.length (vs i) W)→Q .normal (lit vs) W):(Code.region id l.toArray true).wp P Q a w:=by
 refine wp_region_holds hm hr (fun d vs W=>∃ k,k≤st.length∧(∀ j s,st[j]?=some s→(d s=true↔j < k))∧(∀ i,d i=true→∀ j∈depsOf l.toArray i,d j=true)∧Wp k W∧∀ i,d i=true→F i k (vs i) W) ?_ ?_ ?_
 ·exact⟨0,Nat.zero_le _,fun j s _=>by simp,(fun i h=>by cases h),hW 0 _ _ h0 (Below.refl _ _).drew,(fun i h=>by cases h)⟩
 ·rintro i o ho d vs W ⟨k,hk,hst,hcl,hWk,hFd⟩ hdi hdep
  have ho':l[i]?=some o:=by simpa using ho
  rw[hlit]
  obtain⟨e1,e2⟩:=eachFlowK_at l 0 i o hop ho'
  rw[Nat.zero_add] at e1 e2
  have hFdep:∀ j∈depsOf l.toArray i,F j k (vs j) W:=fun j hj=>hFd j (hdep j hj)
  cases hci:st.contains i with
  | true=>
   have hmem:i∈st:=by simpa using hci
   have hidx:st.idxOf i < st.length:=List.idxOf_lt_length_iff.2 hmem
   have hat:st[st.idxOf i]?=some i:=by rw[List.getElem?_eq_getElem hidx,List.getElem_idxOf hidx]
   -- it is the next one
   have hki:st.idxOf i=k:=by
    have h1:¬ st.idxOf i < k:=fun h=>by
     have:=(hst _ i hat).2 h
     rw[hdi] at this;cases this
    rcases Nat.lt_or_eq_of_le (Nat.le_of_not_lt h1) with h2 | h2
    ·exfalso
     -- the one ahead is done,so all ahead are
     have hp:st.idxOf i - 1+1=st.idxOf i:=by omega
     have hpl:st.idxOf i - 1 < st.length:=by omega
     have hs:=chainS_at st hc (st.idxOf i - 1) st[st.idxOf i - 1] i (List.getElem?_eq_getElem hpl) (by rw[hp];exact hat)
     have hd:=hdep _ hs
     have:=(hst _ _ (List.getElem?_eq_getElem hpl)).1 hd
     omega
    ·exact h2.symm
   have h3:=e1 hci vs W (by rw[hki];exact hWk) (by rw[hki];exact hFdep)
   refine leavesIf_mono h3 ?_
   rintro v W' ⟨hv,hW2,hstep⟩
   rw[hki] at hv hW2 hstep
   refine⟨k+1,by omega,fun j s hs=>?_,fun x hx j hj=>by
    by_cases e:x=i
    ·subst e;have h4:=hdep j hj;by_cases e2:j=x <;> simp[e2,h4]
    ·simp only[if_neg e] at hx;have h4:=hcl x hx j hj;by_cases e2:j=i <;> simp[e2,h4],hW2,fun j hj=>?_⟩
   ·by_cases e:s=i
    ·subst e
     have hj:j=k:=by
      rw[←hki]
      have hjl:=(List.getElem?_eq_some_iff.1 hs).1
      have hsj:=(List.getElem?_eq_some_iff.1 hs).2
      have:=hnd.idxOf_getElem j hjl
      rw[hsj] at this
      exact this.symm
     simp;omega
    ·simp only[if_neg e]
     rw[hst j s hs]
     constructor
     ·omega
     ·intro h
      by_cases hj:j=k
      ·exfalso
       subst hj
       rw[←hki,hat] at hs
       injection hs with hs
       exact e hs.symm
      ·omega
   ·by_cases e:j=i
    ·subst e;simp only[if_true];exact hv
    ·simp only[if_neg e] at hj ⊢
     exact hS k W W' hWk hstep j _ (hFd j hj)
  | false=>
   have hnm:i ∉ st:=by simpa using hci
   have hlo:loOf l.toArray st i≤k:=by
    unfold loOf
    have hsub:∀ (s:List Nat) (b:Nat),(∀ j x,s[j]?=some x→st[b+j]?=some x)→(s.filter fun x=>(depsOf l.toArray i).contains x).length≤k - b:=by
     intro s
     induction s with
     | nil=>intro b _;simp
     | cons x s ih=>
      intro b hb
      have hx:=hb 0 x (by simp)
      rw[Nat.add_zero] at hx
      have ih2:=ih (b+1) (fun j y hy=>by rw[show b+1+j=b+(j+1) by omega];exact hb (j+1) y (by simpa using hy))
      rw[List.filter_cons]
      split
      ·rename_i hcx
       have hd:=hdep x (by simpa using hcx)
       have:=(hst b x hx).1 hd
       simp only[List.length_cons]
       omega
      ·omega
    have:=hsub st 0 (fun j x h=>by rw[Nat.zero_add];exact h)
    omega
   have hhi:k≤hiOf l.toArray st i:=by
    unfold hiOf
    rcases Nat.lt_or_ge (st.findIdx fun s=>(depsOf l.toArray s).contains i) st.length with h | h
    ·refine Nat.le_of_not_lt fun hlt=>?_
     have hp:=List.findIdx_getElem (w:=h)
     have hd:=(hst _ _ (List.getElem?_eq_getElem h)).2 hlt
     -- what is done had all that it waits for done
     have:=hcl _ hd i (by simpa using hp)
     rw[hdi] at this
     cases this
    ·omega
   exact leavesIf_of (e2 hci vs W k hlo hhi hWk hFdep) (fun v W' hv hb=>⟨k,hk,fun j s hs=>by
    have hne:s≠i:=fun e=>hnm (e ▸ List.mem_of_getElem? hs)
    simp only[if_neg hne]
    exact hst j s hs,fun x hx j hj=>by
    by_cases e:x=i
    ·subst e;have h4:=hdep j hj;by_cases e2:j=x <;> simp[e2,h4]
    ·simp only[if_neg e] at hx;have h4:=hcl x hx j hj;by_cases e2:j=i <;> simp[e2,h4],hW k W W' hWk hb,fun j hj=>by
    by_cases e:j=i
    ·subst e;simp only[if_true];exact hv
    ·simp only[if_neg e] at hj ⊢
     exact hF j _ _ W W' (hFd j hj) hb⟩)
 ·rintro d vs W ⟨k,hk,hst,hcl,hWk,hFd⟩ hall
  rw[hlit]
  have hks:k=st.length:=by
   rcases Nat.lt_or_eq_of_le hk with h | h
   ·exfalso
    have h1:=(hst k _ (List.getElem?_eq_getElem h))
    have h2:=hall st[k] (chainS_lt st hc _ (List.getElem_mem h))
    have:=h1.1 h2
    omega
   ·exact h
  subst hks
  exact hend vs W hWk (fun i hi=>hFd i (hall i (by simpa using hi)))
def pairS (F:Nat→Value→World→Prop)(a b:Nat)(P2:Value→Value→World→Prop)(i:Nat)(W:World)(v:Value)(W':World):Prop:=F i v W'∧(i=a→∀ y,F b y W→P2 v y W')∧(i=b→∀ x,F a x W→P2 x v W')
def eachPair (P:Program)(ops:Array Oper)(F:Nat→Value→World→Prop)(Wp:World→Prop)(lit:(Nat→Value)→Act)(a b:Nat)(P2:Value→Value→World→Prop):List Oper→Nat→Prop
 | [],_=>True
 | o :: l,i=>(∀ (vs:Nat→Value) W,Wp W→(∀ j∈depsOf ops i,F j (vs j) W)→(a∈depsOf ops i→b∈depsOf ops i→P2 (vs a) (vs b) W)→leavesOp P ops (pairS F a b P2 i W) o (lit vs) W)∧eachPair P ops F Wp lit a b P2 l (i+1)
theorem eachPair_at {P:Program}{ops:Array Oper}{F:Nat→Value→World→Prop}{Wp:World→Prop}{lit:(Nat→Value)→Act}{a b:Nat}{P2:Value→Value→World→Prop}:∀ (l:List Oper) (c i:Nat) (o:Oper),eachPair P ops F Wp lit a b P2 l c→l[i]?=some o→
 ∀ (vs:Nat→Value) W,Wp W→(∀ j∈depsOf ops (c+i),F j (vs j) W)→(a∈depsOf ops (c+i)→b∈depsOf ops (c+i)→P2 (vs a) (vs b) W)→leavesOp P ops (pairS F a b P2 (c+i) W) o (lit vs) W
 | [],c,i,o,_,hi=>by simp at hi
 | x :: l,c,0,o,h,hi=>by
  simp only[List.getElem?_cons_zero,Option.some.injEq] at hi
  subst hi
  exact h.1
 | x :: l,c,i+1,o,h,hi=>by
  have:=eachPair_at l (c+1) i o h.2 (by simpa using hi)
  rw[show c+1+i=c+(i+1) by omega] at this
  exact this
theorem wp_region_pair {P:Program}{l:List Oper}{Q:Exit→Act→World→Prop}{id:Nat}{a0:Act}{w:World}(Wp:World→Prop)(lit:(Nat→Value)→Act)(F:Nat→Value→World→Prop)(a b:Nat)(P2:Value→Value→World→Prop)
 (hm:P.follows .mixedOrders=true) (hr:relyB l.toArray=true) (hab:a≠b) (hal:a < l.length) (hbl:b < l.length) (hlit:∀ vs,frameOf l.toArray a0 (fun _=>true) vs=lit vs)
 (h0:Wp w)
 (hW:∀ W W',Wp W→Below W.heap.size W W'→Wp W')
 (hF:∀ i v W W',F i v W→Below W.heap.size W W'→F i v W')
 (hP:∀ x y W W',P2 x y W→Below W.heap.size W W'→P2 x y W')
 (hop:eachPair P l.toArray F Wp lit a b P2 l 0)
 (hend:∀ (vs:Nat→Value) W,Wp W→(∀ i,i < l.length→F i (vs i) W)→P2 (vs a) (vs b) W→Q .normal (lit vs) W):(Code.region id l.toArray true).wp P Q a0 w:=by
 refine wp_region_holds hm hr (fun d vs W=>Wp W∧(∀ i,d i=true→F i (vs i) W)∧(d a=true→d b=true→P2 (vs a) (vs b) W)) ?_ ?_ ?_
 ·exact⟨hW _ _ h0 (Below.refl _ _).drew,(fun i h=>by cases h),(fun h=>by cases h)⟩
 ·rintro i o ho d vs W ⟨hWk,hFd,hPd⟩ hdi hdep
  have ho':l[i]?=some o:=by simpa using ho
  rw[hlit]
  have e2:=eachPair_at l 0 i o hop ho' vs W hWk (by rw[Nat.zero_add];exact fun j hj=>hFd j (hdep j hj)) (by rw[Nat.zero_add];exact fun h1 h2=>hPd (hdep a h1) (hdep b h2))
  rw[Nat.zero_add] at e2
  refine leavesIf_of e2 (fun v W' hv hb=>⟨hW _ _ hWk hb,fun j hj=>?_,fun ha hb'=>?_⟩)
  ·by_cases e:j=i
   ·subst e;simp only[if_true];exact hv.1
   ·simp only[if_neg e] at hj ⊢
    exact hF j _ W W' (hFd j hj) hb
  ·by_cases e:a=i
   ·have e3:¬ b=i:=fun h=>hab (e.trans h.symm)
    simp only[if_neg e3] at hb'
    simp only[if_pos e,if_neg e3]
    exact hv.2.1 e.symm _ (hFd b hb')
   ·simp only[if_neg e] at ha
    by_cases e3:b=i
    ·simp only[if_neg e,if_pos e3]
     exact hv.2.2 e3.symm _ (hFd a ha)
    ·simp only[if_neg e3] at hb'
     simp only[if_neg e,if_neg e3]
     exact hP _ _ W W' (hPd ha hb') hb
 ·rintro d vs W ⟨hWk,hFd,hPd⟩ hall
  rw[hlit]
  exact hend vs W hWk (fun i hi=>hFd i (hall i (by simpa using hi))) (hPd (hall a (by simpa using hal)) (hall b (by simpa using hbl)))
end Go.Proofs.YthdgehcghklflaaGreatDoor
namespace Go.Proofs.YthdgehcghklflaaGreatDoor
def stK (k:Int):Int:=if k=1 then 1 else if k=2 then 2 else if k=3 then 3 else if k=4 then 5 else if k=5 then 4 else if k=8 then 6 else if k=9 then 7 else 0
def ownS (s:Int):Bool:=decide (s=3) || (decide (s=4) || decide (s=6))
structure Rep (n:Nat)(had:List En)(st q:List Int)(now:Int):Prop where
 tr:Trace n had
 len:st.length=n
 st:∀ i,i < n→nth st i=stK (lastD had i)
 q:q=queueD had
 now:now=match had.getLast? with
  | some y=>y.now
  | none=>0
theorem stK_own {k:Int}:ownS (stK k)=ownK k:=by
 unfold stK ownS ownK
 by_cases h1:k=1
 ·subst h1;decide
 by_cases h2:k=2
 ·subst h2;decide
 by_cases h3:k=3
 ·subst h3;decide
 by_cases h4:k=4
 ·subst h4;decide
 by_cases h5:k=5
 ·subst h5;decide
 by_cases h8:k=8
 ·subst h8;decide
 by_cases h9:k=9
 ·subst h9;decide
 simp[*]
def ckB (n:Int)(l:List En)(k:Nat):Bool:=match l[k]? with
 | some x=>!decide (fitsD n (l.take k) x)
 | none=>false
theorem checkD_eq (n:Int)(l:List En):checkD n l=((List.range l.length).find? (ckB n l)).getD l.length:=rfl
theorem checkD_at {n:Int}{l:List En}{k:Nat}(hk:k < l.length)(h:Trace n (l.take k))(hf:¬ fitsD n (l.take k) l[k]):checkD n l=k:=by
 rw[checkD_eq]
 have:(List.range l.length).find? (ckB n l)=some k:=by
  rw[List.find?_eq_some_iff_getElem]
  refine⟨?_,k,by simpa using hk,by simp,fun j hj=>?_⟩
  ·unfold ckB
   rw[List.getElem?_eq_getElem hk]
   simp[hf]
  ·have hjl:j < l.length:=by omega
   simp only[List.getElem_range]
   unfold ckB
   rw[List.getElem?_eq_getElem hjl]
   have:=h j l[j] (by rw[List.getElem?_take,if_pos hj,List.getElem?_eq_getElem hjl])
   rw[List.take_take,show min j k=j by omega] at this
   simp[this]
 rw[this];rfl
def checkN (n:Int)(l:List En):Nat:=if 1≤n∧n≤64 then checkD n l else 0
end Go.Proofs.YthdgehcghklflaaGreatDoor
