import Derived.Test.YthdgehcghklflaaGreatDoorRMem
import Derived.Test.YthdgehcghklflaaGreatDoorProg
import Derived.Lib.Hide
import Derived.WalkKit
import Derived.ProofKit
import Derived.WalkLawsBesides
import Derived.Lib.ItoaNum
import Derived.Lib.Strings
import Derived.Deep.RegionLaw
import Derived.Laws.IdiomStrings
import Derived.Deep.QuietTactic
import Derived.BigQuiet
import Derived.StillTailTactics
import Derived.Deep.RegionHeld3
import Derived.RegionTactic
import Derived.Laws.Pointers
import Derived.Maps.OwnSet
import Derived.Test.YthdgehcghklflaaGreatDoorShelf
import Derived.Lib.AtoiErrMem
import Derived.Lib.AtoiAll
import Derived.Test.YthdgehcghklflaaGreatDoorRows
import Derived.ArgAppend
import Derived.Deep.RegionLawGrows
import Derived.Deep.Onto
import Derived.Lib.SmallJoins
import Derived.Deep.CutBlock
import Derived.Lib.IndexMore
set_option linter.unusedVariables false
set_option maxHeartbeats 1000000
set_option maxRecDepth 100000
open Go.Value renaming int->O,slice->G,pointer->M
open Go.IntKind renaming i64->Z
open Option renaming none->V,some->T
open Bool renaming false->U,true->J
open Go.RowKit.Below renaming refl->A
open Nat renaming le_refl->X
namespace Go.Proofs.YthdgehcghklflaaGreatDoor
open Go.ChangeShapes Go.WideShapes Go.ChangeAt Go.RowKit
def bs (l:List UInt8):Value:=.string ⟨l.toArray⟩
theorem eA (hs:List UInt8)(n:Nat)(h:n<hs.length)(w:World):(Instr.index 9 (.string ⟨hs.toArray⟩) (O Z n)).run Tryz.prog w=.ok (O .u8 ((hs.getD n 0).toNat:Int)) w:=by
 have hu:=Tryz.underlying9
 have h2:(n:Int)<(hs.length:Int):=by omega
 go_simp
 rfl
theorem cP (a b:List UInt8):(⟨a.toArray⟩:ByteArray)++⟨b.toArray⟩=⟨(a++b).toArray⟩:=by
 apply ByteArray.ext
 simp
theorem iP (a b:List UInt8)(h:a.length+b.length<1000000)(w:World):(binOp .add 9 (.string ⟨a.toArray⟩) (.string ⟨b.toArray⟩)).run Tryz.prog w=.ok (.string ⟨(a++b).toArray⟩) w:=by
 have hu:=Tryz.underlying9
 go_simp
 rw[if_neg (by omega),cP]
theorem bP {a b:List UInt8}(h:a=b):Ending.returned (.string ⟨a.toArray⟩)=.returned (bs b):=by rw[h];rfl
theorem mV (n:Int)(h0:-9223372036854775808<=n)(h1:n<=9223372036854775807):(Lib.itoa n).length<=30:=by
 have key:∀ (m u:Nat),u<10 ^ (m+1)->(Lib.decDigits u).length<=m+1:=by
  intro m
  induction m with
  | zero=>intro u hu;rw[Lib.decDigits,dif_pos (by simpa using hu)];simp
  | succ m ih=>
   intro u hu
   rw[Lib.decDigits]
   by_cases h:u<10
   ·rw[dif_pos h];simp
   ·rw[dif_neg h]
    have h2:u / 10<10 ^ (m+1):=by
     rw[Nat.div_lt_iff_lt_mul (by decide)]
     rw[Nat.pow_succ] at hu
     exact hu
    have:=ih _ h2
    simp
    omega
 have e:(10:Nat) ^ (19+1)=100000000000000000000:=by decide
 unfold Lib.itoa
 split
 ·have:=key 19 n.natAbs (by rw[e];omega)
  simp;omega
 ·have:=key 19 n.toNat (by rw[e];omega)
  omega
theorem qS (W:World)(b:Nat)(c:UInt8)(h:W.cell? ⟨b,0,V⟩=T (O .u8 (c.toNat:Int))):
 (convert 272 9 (G (T ⟨b,0,V⟩) 1 1)).run Tryz.prog W=.ok (.string ⟨#[c]⟩) W:=
 run_convert_bytes_back W 272 9 5 ⟨b,0,V⟩ 1 [c] Tryz.underlying272 Tryz.underlying5 Tryz.underlying9 (fun j hj=>by
  simp only[List.length_cons,List.length_nil] at hj
  obtain rfl:j=0:=by omega
  have e:(⟨b,0,V⟩:Addr).add 0=⟨b,0,V⟩:=by unfold Addr.add;simp
  rw[e]
  exact h)
theorem m6 (n:Nat)(h:n<5000000000000000):(Lib.decDigits n).length<=30:=by
 have:=mV n (by omega) (by omega)
 unfold Lib.itoa at this
 rw[if_neg (by omega)] at this
 simpa using this
theorem DZ:∀ (n:Nat) (w:World),n<5000000000000000->Calls Tryz.prog 164 #[O Z n] w fun e w'=>e=.returned (bs (Lib.decDigits n))/\Below w.heap.size w w':=by
 intro n
 induction n using Nat.strongRecOn with
 | _ n ih=>
  intro w hn
  by_cases h:n<10
  ·have E:=Lib.hid (show Lib.decDigits n=[UInt8.ofNat (48+n)] by rw[Lib.decDigits,dif_pos h])
   clear ih
   have hi:(n:Int)<10:=by omega
   have hc:((UInt8.ofNat (48+n)).toNat:Int)=48+(n:Int):=by
    rw[UInt8.toNat_ofNat',Nat.mod_eq_of_lt (by omega)];omega
   have hcv:=qS (w.alloc (.cells #[O .u8 (48+(n:Int))] 5)) w.heap.size (UInt8.ofNat (48+n)) (by rw[hc];exact Bk.cell (Bk.made w _ _) 0)
   clear hc
   generalize UInt8.ofNat (48+n)=c at *
   go_enter Tryz.func164,Tryz.ntmps164
   go_wp2
   go_ret
   exact⟨by rw[E.out];rfl,(A _ _).alloc (X _) _⟩
  ·have E:=Lib.hid (show Lib.decDigits n=Lib.decDigits (n / 10)++[UInt8.ofNat (48+n % 10)] by rw[Lib.decDigits,dif_neg h])
   have hsz:¬ 9223372036854775807<(Lib.decDigits (n / 10)).length+1:=by have:=m6 (n / 10) (by omega);omega
   have HI:=Lib.hid (fun W=>ih (n / 10) (by omega) W (by omega))
   clear ih
   have hm:n % 10<10:=by omega
   have hl:=m6 (n / 10) (by omega)
   have hc:((UInt8.ofNat (48+n % 10)).toNat:Int)=48+((n % 10:Nat):Int):=by
    rw[UInt8.toNat_ofNat',Nat.mod_eq_of_lt (by omega)];omega
   have hcv:∀ W b,W.cell? ⟨b,0,V⟩=T (O .u8 (48+((n % 10:Nat):Int)))->(convert 272 9 (G (T ⟨b,0,V⟩) 1 1)).run Tryz.prog W=.ok (.string ⟨#[UInt8.ofNat (48+n % 10)]⟩) W:=fun W b h=>qS W b _ (by rw[hc];exact h)
   have hd:¬ (n:Int)<10:=by omega
   have hcat:=cP (Lib.decDigits (n / 10)) [UInt8.ofNat (48+n % 10)]
   have hq1:(n:Int) / 10=((n / 10:Nat):Int):=by omega
   have hq2:(n:Int) % 10=((n % 10:Nat):Int):=by omega
   have hq3:(n:Int).tmod 10=((n % 10:Nat):Int):=by rw[Int.tmod_eq_emod_of_nonneg (by omega)];omega
   have hw1:IntKind.i64.wrap ((n / 10:Nat):Int)=((n / 10:Nat):Int):=IntWalk.i64_in _ (by omega)
   have hw2:IntKind.i64.wrap ((n % 10:Nat):Int)=((n % 10:Nat):Int):=IntWalk.i64_in _ (by omega)
   have hw3:IntKind.i64.wrap (48+((n % 10:Nat):Int))=48+((n % 10:Nat):Int):=IntWalk.i64_in _ (by omega)
   have hw4:IntKind.u8.wrap (48+((n % 10:Nat):Int))=48+((n % 10:Nat):Int):=by simp[IntKind.wrap,IntKind.signed,IntKind.bits];omega
   clear hc
   generalize UInt8.ofNat (48+n % 10)=c at *
   generalize Lib.decDigits (n / 10)=l at *
   generalize hmm:n % 10=m at *
   generalize hqq:n / 10=q at *
   clear hmm hqq
   go_enter Tryz.func164,Tryz.ntmps164
   go_wp2
   go_region_law (first | (go_simp;go_at_call 164;refine(HI.out _).mono ?_;rintro e y ⟨rfl,hy⟩;have hcy:∀ b o,b<_->y.cell? ⟨b,o,V⟩=_:=fun b o h=>hy.cell (p:=⟨b,o,V⟩) h;unfold bs))
   all_goals
    clear hq1 hq2 hq3 hw1 hw2 hw3 hw4 hcv
    go_wp2
    go_ret
    refine⟨by rw[E.out];rfl,?_⟩
    first | exact(((A _ _).alloc (X _) _).drew).trans (hy.mono (by simp)) | exact(dW hy).alloc (dW hy).size _
theorem cw (n:Nat)(h:n<5000000000):(Lib.decDigits n).length<=30:=m6 n (by omega)
theorem ur (n:Nat)(w:World)(h:n<5000000000):Calls Tryz.prog 164 #[O Z n] w fun e w'=>e=.returned (bs (Lib.decDigits n))/\Below w.heap.size w w':=DZ n w (by omega)
theorem az (n:Nat):Lib.itoa (n:Int)=Lib.decDigits n:=by
 unfold Lib.itoa
 rw[if_neg (by omega)]
 rfl
theorem iY (n:Nat)(w:World)(h:n<5000000000):Calls Tryz.prog 164 #[O Z n] w fun e w'=>e=.returned (.string ⟨(Lib.decDigits n).toArray⟩)/\Below w.heap.size w w':=ur n w h
theorem bC (a b:List UInt8)(m n:Nat)(ha:a.length<=m)(hb:b.length<=n)(hm:m<=1000:=by decide)(hn:n<=1000:=by decide):
 ∃ z,z=a++b/\(⟨a.toArray⟩:ByteArray)++⟨b.toArray⟩=⟨z.toArray⟩/\¬ 9223372036854775807<a.length+b.length/\z.length<=m+n:=
 ⟨a++b,rfl,cP a b,by omega,by simp;omega⟩
theorem mN (s:List UInt8)(f i:Nat)(h:f<=i)(hi:i<=s.length)(w:World):(Instr.slice 9 (.string ⟨s.toArray⟩) (T (O Z f)) (T (O Z i)) V).run Tryz.prog w=.ok (.string ⟨((s.take i).drop f).toArray⟩) w:=by
 have hu:=Tryz.underlying9
 go_simp
 apply ByteArray.ext
 rw[ByteArray.data_extract]
 apply Array.ext'
 simp[List.drop_take]
def gh (P:Program)(K:Value->World->Prop):Result Next->Prop
 | .ok (.value v) W'=>K v W'
 | .ok .skip W'=>K undef W'
 | .ok (.enter f args) W'=>Calls P f args W' fun e W2=>∃ v,e=.returned v/\K v W2
 | _=>False
def cY (P:Program)(ops:Array Oper)(K:Value->World->Prop)(o:Oper)(a:Act)(W:World):Prop:=
 if Region.wanted o (yielded ops a.tmps)=J then gh P K ((execOp a.eval o).run P W) else K undef W
theorem fe {P:Program}{ops:Array Oper}{F:Value->World->Prop}{K:Value->World->Prop}{o:Oper}{a:Act}{W:World}(h:bM P ops F o a W)(hK:∀ v W',F v W'->Below W.heap.size W W'->K v W'):cY P ops K o a W:=by
 unfold bM at h
 unfold cY
 by_cases hw:Region.wanted o (yielded ops a.tmps)=J
 ·rw[if_pos hw] at h ⊢
  generalize (execOp a.eval o).run P W=r at *
  cases r with
  | ok x W'=>
   cases x <;> simp only[iN,gh] at h ⊢
   ·exact hK _ _ h.1 h.2
   ·exact hK _ _ h.1 h.2
   ·exact h.mono fun e W2 ⟨v,he,h1,h2⟩=>⟨v,he,hK _ _ h1 h2⟩
  | halt x W'=>simp only[iN] at h
 ·rw[if_neg hw] at h ⊢
  exact hK _ _ h (A _ _)
theorem bc {P:Program}{ops:Array Oper}{K:Value->World->Prop}{o:Oper}{a:Act}{W:World}(hg:o.guard=V)(h:gh P K ((execOp a.eval o).run P W)):cY P ops K o a W:=by
 unfold cY
 rw[if_pos (by simp[Region.wanted,hg])]
 exact h
theorem gc {P:Program}{ops:Array Oper}{K K':Value->World->Prop}{o:Oper}{a:Act}{W:World}(h:cY P ops K o a W)(hK:∀ v W',K v W'->K' v W'):cY P ops K' o a W:=by
 unfold cY at *
 by_cases hw:Region.wanted o (yielded ops a.tmps)=J
 ·rw[if_pos hw] at h ⊢
  generalize (execOp a.eval o).run P W=r at *
  cases r with
  | ok x W'=>
   cases x <;> simp only[gh] at h ⊢
   ·exact hK _ _ h
   ·exact hK _ _ h
   ·exact h.mono fun e W2 ⟨v,he,h1⟩=>⟨v,he,hK _ _ h1⟩
  | halt x W'=>simp only[gh] at h
 ·rw[if_neg hw] at h ⊢
  exact hK _ _ h
theorem dX {P:Program}{ops:Array Oper}{Q:Exit->Act->World->Prop}{id:Nat}{a:Act}{w:World}(hm:P.follows .mixedOrders=J)(hr:lm ops=J)(I:(Nat->Bool)->(Nat->Value)->World->Prop)
 (h0:I (fun _=>U) (fun _=>undef) w.drew)
 (hop:∀ i o,ops[i]?=T o->∀ (d:Nat->Bool) (vs:Nat->Value) W,I d vs W->d i=U->(∀ j∈aW ops i,d j=J)->cY P ops (fun v W'=>I (fun j=>if j=i then J else d j) (fun j=>if j=i then v else vs j) W') o (aC ops a (fun _=>J) vs) W)
 (hend:∀ (d:Nat->Bool) (vs:Nat->Value) W,I d vs W->(∀ i,i<ops.size->d i=J)->Q .normal (aC ops a (fun _=>J) vs) W):(Code.region id ops J).wp P Q a w:=by
 have hR:∀ i o,ops[i]?=T o->sf o.op=J/\(∀ t∈o.looksAt ops,∀ j,eZ ops t=T j->j∈aW ops i)/\(∀ x,o.dst=T x->eZ ops x=T i)/\∀ j∈aW ops i,j<i:=by
  intro i o ho
  have hi:i<ops.size:=(Array.getElem?_eq_some_iff.1 ho).1
  unfold lm at hr
  have h:=List.all_eq_true.1 hr i (List.mem_range.2 hi)
  rw[ho] at h
  simp only[Bool.and_eq_true] at h
  refine⟨h.1.1.1,fun t ht j hj=>?_,fun x hx=>?_,fun j hj=>?_⟩
  ·have:=List.all_eq_true.1 h.1.1.2 t ht
   rw[hj] at this
   simpa using this
  ·have:=h.1.2
   rw[hx] at this
   simpa using this
  ·have:=List.all_eq_true.1 h.2 j hj
   simpa using this
 have hN:∀ t i o,ops[i]?=T o->eZ ops t=T i->o.dst=T t:=by
  intro t i o ho h
  have:=List.find?_some h
  simp only[zT,ho,Option.bind_some,beq_iff_eq] at this
  exact this
 refine nt hm (fun listed a' W=>∃ vs:Nat->Value,listed.size=ops.size/\a'=aC ops a (fun i=>listed.getD i U) vs/\I (fun i=>listed.getD i U) vs W) ?_ ?_ ?_
 ·have e:(fun i=>(Array.replicate ops.size U).getD i U)=fun _=>U:=by
   funext i
   rw[Array.getD_eq_getD_getElem?,Array.getElem?_replicate]
   split <;> rfl
  refine⟨fun _=>undef,by simp,?_,?_⟩
  ·rw[e,mj]
  ·rw[e];exact h0
 ·rintro listed a' W i ⟨vs,hsz,rfl,hI⟩ hi
  have hfree:=gL hi
  have hready:=hi
  unfold Region.ready at hready
  rw[List.mem_filter,List.mem_range] at hready
  obtain⟨hlt,hc⟩:=hready
  simp only[Bool.and_eq_true] at hc
  have hc2:=hc.2
  have ho:ops[i]?=T ops[i]:=Array.getElem?_eq_getElem hlt
  rw[ho] at hc2
  simp only[Option.map_some,Option.getD_some] at hc2
  rw[<-Array.all_toList,List.all_eq_true] at hc2
  generalize ops[i]=o at *
  obtain⟨r1,r2,r3,r4⟩:=hR i o ho
  have hdep:∀ j∈aW ops i,listed.getD j U=J:=by
   intro j hj
   unfold aW at hj
   rw[ho] at hj
   simp only[List.mem_map,List.mem_filter] at hj
   obtain⟨e,⟨he,hb⟩,rfl⟩:=hj
   have:=hc2 e he
   simpa [hb] using this
  obtain⟨s1,s2⟩:=jf ops a (fun i=>listed.getD i U) vs o r1 fun t ht j hj=>hdep j (r2 t ht j hj)
  have hif:listed.getD i U=U:=by
   rw[Array.getD_eq_getD_getElem?,<-Array.getElem?_toList,hfree];rfl
  have hl:=hop i o ho (fun i=>listed.getD i U) vs W hI hif hdep
  have eg:(fun j=>(listed.setIfInBounds i J).getD j U)=fun j=>if j=i then J else listed.getD j U:=by
   funext j
   rw[Array.getD_eq_getD_getElem?,Array.getElem?_setIfInBounds,Array.getD_eq_getD_getElem?]
   by_cases e:j=i
   ·subst e
    simp[hsz,hlt]
   ·rw[if_neg (fun e2=>e e2.symm),if_neg e]
  have next:∀ v W',I (fun j=>if j=i then J else listed.getD j U) (fun j=>if j=i then v else vs j) W'->∃ vs':Nat->Value,(listed.setIfInBounds i J).size=ops.size/\(aC ops a (fun i=>listed.getD i U) vs).put o.dst v=aC ops a (fun j=>(listed.setIfInBounds i J).getD j U) vs'/\I (fun j=>(listed.setIfInBounds i J).getD j U) vs' W':=by
   intro v W' hK
   refine⟨fun j=>if j=i then v else vs j,by simpa using hsz,?_,?_⟩
   ·rw[eg]
    exact oF ops a _ vs i o ho r3 (fun t ht=>hN t i o ho ht) hif v
   ·rw[eg];exact hK
  unfold wpOp
  rw[ho]
  simp only
  unfold cY at hl
  rw[s2]
  by_cases hw:Region.wanted o (yielded ops (aC ops a (fun _=>J) vs).tmps)=J
  ·rw[if_pos hw] at hl ⊢
   refine .inl ?_
   unfold Oper.wp
   rw[s1]
   generalize (execOp (aC ops a (fun _=>J) vs).eval o).run P W=r at *
   cases r with
   | ok x W'=>
    cases x <;> simp only[gh] at hl
    ·rw[Oper.upon_value];exact next _ _ hl
    ·rw[Oper.upon_skip];exact next _ _ hl
    ·rw[Oper.upon_enter]
     refine hl.mono ?_
     rintro e W2 ⟨v,rfl,h1⟩
     exact next _ _ h1
   | halt x W'=>simp only[gh] at hl
  ·rw[if_neg hw] at hl ⊢
   exact next _ _ hl
 ·rintro listed a' W ⟨vs,hsz,rfl,hI⟩ he
  have hall:∀ n i,i<n->i<ops.size->listed.getD i U=J:=by
   intro n
   induction n with
   | zero=>intro i h;omega
   | succ n ih=>
    intro i h hi
    by_cases hin:i<n
    ·exact ih i hin hi
    ·obtain rfl:i=n:=by omega
     cases hl:listed.getD i U with
     | true=>rfl
     | false=>
      exfalso
      have hm2:i∈Region.ready .any ops listed:=by
       unfold Region.ready
       rw[List.mem_filter,List.mem_range]
       refine⟨hi,?_⟩
       have ho:ops[i]?=T ops[i]:=Array.getElem?_eq_getElem hi
       have hd:=(hR i _ ho).2.2.2
       rw[ho]
       simp only[Option.map_some,Option.getD_some,Bool.and_eq_true]
       constructor
       ·rw[Array.getD_eq_getD_getElem?] at hl ⊢
        rw[Array.getElem?_eq_getElem (by omega)] at hl ⊢
        simp at hl ⊢
        exact hl
       ·rw[<-Array.all_toList,List.all_eq_true]
        intro e he
        by_cases hb:Region.binds .any e=J
        ·have hmem:e.on∈aW ops i:=by
          unfold aW
          rw[ho]
          simp only[List.mem_map,List.mem_filter]
          exact⟨e,⟨he,hb⟩,rfl⟩
         have hlt:=hd _ hmem
         rw[ih e.on hlt (by omega)]
         simp
        ·simp[hb]
      rw[he] at hm2
      cases hm2
  have e:aC ops a (fun i=>listed.getD i U) vs=aC ops a (fun _=>J) vs:=by
   have key:(aC ops a (fun i=>listed.getD i U) vs).tmps=(aC ops a (fun _=>J) vs).tmps:=by
    apply Array.ext_getElem?
    intro t
    rw[fp,fp]
    cases h2:eZ ops t with
    | none=>rfl
    | some i=>
     have hlt:i<ops.size:=List.mem_range.1 (List.mem_of_find?_eq_some h2)
     simp[hall (i+1) i (by omega) hlt]
   have e1:aC ops a (fun i=>listed.getD i U) vs=⟨(aC ops a (fun i=>listed.getD i U) vs).tmps,a.defers⟩:=rfl
   have e2:aC ops a (fun _=>J) vs=⟨(aC ops a (fun _=>J) vs).tmps,a.defers⟩:=rfl
   rw[e1,e2,key]
  rw[e]
  exact hend _ vs W hI fun i hi=>hall (i+1) i (by omega) hi
def pK (P:Program)(ops:Array Oper)(F:Nat->Value->World->Prop)(lit:(Nat->Value)->Act)(w:World)(sk:Nat->Bool):List Oper->Nat->Prop
 | [],_=>True
 | o :: rest,i=>(sk i=U->∀ (vs:Nat->Value) W,Below w.heap.size w W->(∀ j∈aW ops i,sk j=U->F j (vs j) W)->bM P ops (F i) o (lit vs) W)/\pK P ops F lit w sk rest (i+1)
theorem ml {P:Program}{ops:Array Oper}{F:Nat->Value->World->Prop}{lit:(Nat->Value)->Act}{w:World}{sk:Nat->Bool}:∀ (l:List Oper) (n:Nat),pK P ops F lit w sk l n->∀ i o,l[i]?=T o->sk (n+i)=U->∀ (vs:Nat->Value) W,Below w.heap.size w W->(∀ j∈aW ops (n+i),sk j=U->F j (vs j) W)->bM P ops (F (n+i)) o (lit vs) W
 | [],n,_,i,o,h=>by simp at h
 | x :: l,n,hx,0,o,h=>by
  simp at h
  subst h
  exact hx.1
 | x :: l,n,hx,i+1,o,h=>by
  have:=ml l (n+1) hx.2 i o (by simpa using h)
  rw[show n+1+i=n+(i+1) by omega] at this
  exact this
theorem nr {P:Program}{l:List Oper}{Q:Exit->Act->World->Prop}{id:Nat}{a:Act}{w:World}(na ns:Nat)(t:TypeId)(cs0:Array Value)(put:World->Nat->World)(done:World->Nat->Prop)(lit:(Nat->Value)->Act)(F:Nat->Value->World->Prop)
 (hm:P.follows .mixedOrders=J) (hr:lm l.toArray=J) (hns:(na != ns && (aW l.toArray ns).contains na)=J) (hlen:(decide (na<l.length) && decide (ns<l.length))=J) (hlit:∀ vs,aC l.toArray a (fun _=>J) vs=lit vs)
 (hst:∀ i v W W',F i v W->Below W.heap.size W W'->F i v W')
 (hst2:∀ i v W b,F i v W->Bk W b t cs0->F i v (put W b))
 (hd1:∀ W W' b,done W b->Below W.heap.size W W'->done W' b)
 (hbel:∀ W b,w.heap.size<=b->Below w.heap.size w W->Below w.heap.size w (put W b))
 (hdone:∀ W b,Bk W b t cs0->done (put W b) b)
 (hnew:∀ o,l[na]?=T o->∀ (vs:Nat->Value) W,Below w.heap.size w W->bM P l.toArray (fun v W'=>∃ b,v=M (T ⟨b,0,V⟩)/\w.heap.size<=b/\Bk W' b t cs0) o (lit vs) W)
 (hsto:∀ o,l[ns]?=T o->∀ (vs:Nat->Value) W b,Below w.heap.size w W->(∀ j∈aW l.toArray ns,(decide (j=na) || decide (j=ns))=U->F j (vs j) W)->vs na=M (T ⟨b,0,V⟩)->Bk W b t cs0->cY P l.toArray (fun _ W'=>W'=put W b) o (lit vs) W)
 (hop:pK P l.toArray F lit w (fun j=>decide (j=na) || decide (j=ns)) l 0)
 (hend:∀ (vs:Nat->Value) W b,Below w.heap.size w W->(∀ i,i<l.length->(decide (i=na) || decide (i=ns))=U->F i (vs i) W)->vs na=M (T ⟨b,0,V⟩)->w.heap.size<=b->done W b->Q .normal (lit vs) W):(Code.region id l.toArray J).wp P Q a w:=by
 simp only[Bool.and_eq_true,bne_iff_ne,ne_eq,List.contains_iff_mem,decide_eq_true_eq] at hns hlen
 obtain⟨hne,hdn⟩:=hns
 refine dX hm hr (fun d vs W=>Below w.heap.size w W/\(∀ i,d i=J->(decide (i=na) || decide (i=ns))=U->F i (vs i) W)/\(d na=J->∃ b,vs na=M (T ⟨b,0,V⟩)/\w.heap.size<=b/\((d ns=U/\Bk W b t cs0)\/(d ns=J/\done W b)))/\(d ns=J->d na=J)) ?_ ?_ ?_
 ·exact⟨(A _ _).drew,(fun i h=>by cases h),(fun h=>by cases h),(fun h=>by cases h)⟩
 ·rintro i o ho d vs W ⟨hB,hF,hA,hS⟩ hdi hdep
  have ho':l[i]?=T o:=by simpa using ho
  rw[hlit]
  by_cases hina:i=na
  ·subst hina
   have hdns:d ns=U:=by
    cases e:d ns with
    | false=>rfl
    | true=>rw[hS e] at hdi;cases hdi
   refine fe (hnew o ho' vs W hB) ?_
   rintro v W' ⟨b,hv,hb,hk⟩ hbw
   dsimp only
   refine⟨hB.trans (hbw.mono hB.size),fun j hj hsk=>?_,fun _=>⟨b,by rw[if_pos rfl];exact hv,hb,.inl ⟨by rw[if_neg (fun e=>hne e.symm)];exact hdns,hk⟩⟩,fun _=>by rw[if_pos rfl]⟩
   have hji:j≠i:=fun e=>by subst e;simp at hsk
   rw[if_neg hji] at hj ⊢
   exact hst j _ _ _ (hF j hj hsk) hbw
  ·by_cases hins:i=ns
   ·subst hins
    have hdna:=hdep na hdn
    obtain⟨b,hv,hb,⟨_,hk⟩ | ⟨h,_⟩⟩:=hA hdna
    ·refine gc (hsto o ho' vs W b hB (fun j hj hsk=>hF j (hdep j hj) hsk) hv hk) ?_
     rintro v W' rfl
     dsimp only
     refine⟨hbel W b hb hB,fun j hj hsk=>?_,fun _=>⟨b,by rw[if_neg hne];exact hv,hb,.inr ⟨by rw[if_pos rfl],hdone W b hk⟩⟩,fun _=>by rw[if_neg hne];exact hdna⟩
     have hji:j≠i:=fun e=>by subst e;simp at hsk
     rw[if_neg hji] at hj ⊢
     exact hst2 j _ _ _ (hF j hj hsk) hk
    ·rw[hdi] at h;cases h
   ·have hsk0:(decide (i=na) || decide (i=ns))=U:=by simp[hina,hins]
    have:=ml l 0 hop i o ho' (by rw[Nat.zero_add];exact hsk0) vs W hB (by rw[Nat.zero_add];exact fun j hj hsk=>hF j (hdep j hj) hsk)
    rw[Nat.zero_add] at this
    refine fe this ?_
    intro v W' hv hbw
    dsimp only
    refine⟨hB.trans (hbw.mono hB.size),fun j hj hsk=>?_,fun h=>?_,fun h=>?_⟩
    ·by_cases e:j=i
     ·subst e;rw[if_pos rfl];exact hv
     ·rw[if_neg e] at hj ⊢
      exact hst j _ _ _ (hF j hj hsk) hbw
    ·rw[if_neg (fun e=>hina e.symm)] at h ⊢
     obtain⟨b,h1,h2,h3⟩:=hA h
     rw[if_neg (fun e=>hins e.symm)]
     refine⟨b,h1,h2,?_⟩
     rcases h3 with ⟨h3,h4⟩ | ⟨h3,h4⟩
     ·exact .inl ⟨h3,(hbw.block b h4.lt).trans h4⟩
     ·exact .inr ⟨h3,hd1 _ _ _ h4 hbw⟩
    ·rw[if_neg (fun e=>hins e.symm)] at h
     rw[if_neg (fun e=>hina e.symm)]
     exact hS h
 ·rintro d vs W ⟨hB,hF,hA,hS⟩ hall
  rw[hlit]
  obtain⟨b,h1,h2,⟨h3,_⟩ | ⟨_,h4⟩⟩:=hA (hall na (by simpa using hlen.1))
  ·rw[hall ns (by simpa using hlen.2)] at h3;cases h3
  ·exact hend vs W b hB (fun i hi hsk=>hF i (hall i (by simpa using hi)) hsk) h1 h2 h4
theorem iF {R:World->World->Prop}{ps:List (Nat×(Value->World->Prop))}{l:List Value}(h:∀ x∈ps,∀ v W W',x.2 v W->R W W'->x.2 v W'):∀ i v W W',nC ps l i v W->R W W'->nC ps l i v W':=by
 intro i v W W' hm hb
 unfold nC at *
 cases hl:ps.lookup i with
 | none=>rw[hl] at hm;exact hm
 | some p=>
  rw[hl] at hm
  have:(i,p)∈ps:=by
   clear hm h
   induction ps with
   | nil=>cases hl
   | cons x ps ih=>
    obtain⟨k,q⟩:=x
    rw[List.lookup_cons] at hl
    by_cases e:i=k
    ·subst e;simp at hl;subst hl;exact List.mem_cons_self
    ·have e2:(i==k)=U:=by simpa using e
     rw[e2] at hl
     exact List.mem_cons_of_mem _ (ih hl)
  exact h _ this v W W' hm hb
def pQ (w:World)(q cap:Nat)(xs:List Int):Prop:=w.ownsRow 0 3 1 (G (T ⟨q,0,V⟩) xs.length cap) xs.length (xs.map (Value.int .i64))
section
variable {w w':World}{q cap:Nat}{xs:List Int}
theorem pQ.lt (h:pQ w q cap xs):q<w.heap.size:=(World.ownsRow.lt h q rfl).2
theorem pQ.at_ (h:pQ w q cap xs){i:Nat}(hi:i<xs.length):w.cell? ⟨q,i,V⟩=T (O Z (aG xs i)):=by
 rw[World.ownsRow.cellAt h i (by omega),List.getElem?_map,gT hi];rfl
theorem pQ.bk (h:pQ w q cap xs):∃ cs,Bk w q 3 cs/\cs.size=cap/\xs.length<=cap/\cap<=maxLen:=by
 rcases h.2 with ⟨h',_⟩ | ⟨g',cap',cur,h',hb,hg,hnc,hcm,hcs,htake⟩
 ·simp at h'
 ·simp only[Value.slice.injEq,Option.some.injEq,Addr.mk.injEq,and_true,true_and] at h'
  obtain⟨rfl,rfl⟩:=h'
  exact⟨cur,hg,by omega,hnc,hcm⟩
theorem pQ.free (h:pQ w q cap xs)(i:Nat):w.frozen? ⟨q,i,V⟩=U:=by obtain⟨cs,hb,_⟩:=h.bk;exact hb.free i
theorem pQ.put (h:pQ w q cap xs)(i:Nat)(v:Int):pQ (w.setCell ⟨q,i,V⟩ (O Z v)) q cap (xs.set i v):=by
 have:=(World.ownsRow.stored h i (O Z v)).1
 unfold pQ;rw[List.length_set,List.map_set];exact this
theorem pQ.kept {r:Option Nat}(h:pQ w q cap xs)(hg:w.grownBy w' r)(hne:T q≠r):pQ w' q cap xs:=World.ownsRow.kept h hg (.inr hne)
theorem pQ.within {S:Nat->Prop}(h:pQ w q cap xs)(k:ag w w' S)(hn:¬ S q):pQ w' q cap xs:=by
 rcases h.2 with ⟨h',_⟩ | ⟨g',cap',cur,h',hb,hg,hnc,hcm,hcs,htake⟩
 ·simp at h'
 ·simp only[Value.slice.injEq,Option.some.injEq,Addr.mk.injEq,and_true,true_and] at h'
  obtain⟨rfl,rfl⟩:=h'
  exact⟨h.1,.inr ⟨q,cap,cur,rfl,hb,(k.block q (Array.getElem?_eq_some_iff.1 hg).1 hn).trans hg,hnc,hcm,hcs,htake⟩⟩
theorem pQ.D0 (h:Bk w q 3 (xs.map (Value.int .i64)).toArray)(hn:xs.length<=maxLen):pQ w q xs.length xs:=
 ⟨by simp,.inr ⟨q,xs.length,_,rfl,Nat.zero_le _,h,X _,hn,by simp,by simp[List.take_of_length_le]⟩⟩
theorem pQ.made (w:World)(n:Nat)(hn:n<=maxLen):pQ (w.alloc (.cells (madeCells #[O Z 0] n) 3)) w.heap.size n (List.replicate n 0):=by
 have h:=Bk.made w 3 (madeCells #[O Z 0] n)
 have e:madeCells #[O Z 0] n=((List.replicate n (0:Int)).map (Value.int .i64)).toArray:=by
  apply Array.ext
  ·simp[madeCells]
  ·intro i h1 h2;simp[madeCells,Nat.mod_one]
 have h2:Bk (w.alloc (.cells (madeCells #[O Z 0] n) 3)) w.heap.size 3 ((List.replicate n (0:Int)).map (Value.int .i64)).toArray:=by rw[<-e];exact h
 have:=pQ.D0 h2 (by simpa using hn)
 simpa using this
theorem pQ.news (h:pQ w q cap xs):∀ j u,(xs.map (Value.int .i64))[j]?=T u->w.cell? ((⟨q,0,V⟩:Addr).add j)=T u:=by
 intro j u hj
 have hj':j<xs.length:=by have:=(List.getElem?_eq_some_iff.1 hj).1;simpa using this
 rw[List.getElem?_map,gT hj'] at hj
 have e:(⟨q,0,V⟩:Addr).add j=⟨q,j,V⟩:=by unfold Addr.add;split <;> simp_all
 rw[e,h.at_ hj',<-hj];rfl
end
theorem jT:(Tryz.prog.info? 3).map (fun i=>(i.zero,i.size,i.bytes))=T (T (O Z 0),1,8):=by kernel_rfl
end Go.Proofs.YthdgehcghklflaaGreatDoor
namespace Go.Proofs.YthdgehcghklflaaGreatDoor.RWord
open Go.ChangeShapes Go.WideShapes Go.ChangeAt Go.RowKit
abbrev C (x:Int):Value:=O .u32 x
def xy (f i n:Nat):Nat:=(f+i) % n
theorem tT {f i n:Nat}(h:0<n):xy f i n<n:=Nat.mod_lt _ h
theorem kS {f i n:Nat}(hf:f<n)(hi:i<=n):xy f i n=if f+i<n then f+i else f+i-n:=by
 unfold xy
 split
 ·exact Nat.mod_eq_of_lt (by omega)
 ·rw[Nat.mod_eq_sub_mod (by omega)];exact Nat.mod_eq_of_lt (by omega)
theorem zB {f i j n:Nat}(hf:f<n)(hi:i<j)(hj:j<n):xy f i n≠xy f j n:=by
 rw[kS hf (by omega),kS hf (by omega)];split <;> split <;> omega
theorem yo {f i n:Nat}(hf:f<n)(hi:i+1<=n):xy (xy f 1 n) i n=xy f (i+1) n:=by
 rw[kS (f:=xy f 1 n) (tT (by omega)) (by omega),kS (i:=i+1) hf hi,kS (i:=1) hf (by omega)]
 repeat' split
 all_goals omega
theorem vA {f n:Nat}(hf:f<n):xy f 0 n=f:=by rw[kS hf (by omega),if_pos (by omega)];rfl
def Hd (w:World)(p:Nat)(a:Option Addr)(n f c r:Nat):Prop:=Bk w p 255 #[G a n n,O Z f,O Z c,O Z r]
section
variable {w:World}{p:Nat}{a:Option Addr}{n f c r:Nat}
theorem Hd.c0 (h:Hd w p a n f c r):w.cell? ⟨p,0,V⟩=T (G a n n):=by rw[Bk.cell h];rfl
theorem Hd.c1 (h:Hd w p a n f c r):w.cell? ⟨p,1,V⟩=T (O Z f):=by rw[Bk.cell h];rfl
theorem Hd.c2 (h:Hd w p a n f c r):w.cell? ⟨p,2,V⟩=T (O Z c):=by rw[Bk.cell h];rfl
theorem Hd.c3 (h:Hd w p a n f c r):w.cell? ⟨p,3,V⟩=T (O Z r):=by rw[Bk.cell h];rfl
end
structure In (w:World)(p:Nat)(og:Option Nat)(n f room:Nat)(cs vs:List Int):Prop where
 hd:Hd w p (og.map fun g=>⟨g,0,V⟩) n f vs.length room
 row:∀ g,og=T g->Bk w g 22 (xg C cs)
 len:cs.length=n
 fits:vs.length<=n
 most:n<=room
 few:room<=4096
 at_:∀ i,i<vs.length->oS 0 vs i=oS 0 cs (xy f i n)
 some_:∀ g,og=T g->f<n
 none_:og=V->n=0/\f=0
def Rg (w:World)(p:Nat)(og:Option Nat)(room:Nat)(vs:List Int):Prop:=∃ n f cs,In w p og n f room cs vs
section
variable {w w':World}{p:Nat}{og:Option Nat}{n f room:Nat}{cs vs:List Int}
theorem In.jq (h:In w p og n f room cs vs)(k:Nat):In (w.drewN k) p og n f room cs vs:=⟨h.hd,h.row,h.len,h.fits,h.most,h.few,h.at_,h.some_,h.none_⟩
theorem In.same (h:In w p og n f room cs vs)(e:w'.heap=w.heap):In w' p og n f room cs vs:=
 ⟨by have:=h.hd;unfold Hd Bk at *;rw[e];exact this,fun g k=>by have:=h.row g k;unfold Bk at *;rw[e];exact this,h.len,h.fits,h.most,h.few,h.at_,h.some_,h.none_⟩
theorem In.kept {S:Nat->Prop}(h:In w p og n f room cs vs)(k:ag w w' S)(h1:¬ S p)(h2:∀ g,og=T g->¬ S g):In w' p og n f room cs vs:=
 ⟨Bk.within h.hd k h1,fun g e=>Bk.within (h.row g e) k (h2 g e),h.len,h.fits,h.most,h.few,h.at_,h.some_,h.none_⟩
theorem In.ne {g:Nat}(h:In w p og n f room cs vs)(e:og=T g):p≠g:=Bk.av h.hd (h.row g e) (by decide)
theorem In.lt {g:Nat}(h:In w p og n f room cs vs)(e:og=T g):g<w.heap.size:=(h.row g e).lt
theorem Rg.jq (h:Rg w p og room vs)(k:Nat):Rg (w.drewN k) p og room vs:=by obtain⟨n,f,cs,h⟩:=h;exact⟨n,f,cs,h.jq k⟩
theorem Rg.kept {S:Nat->Prop}(h:Rg w p og room vs)(k:ag w w' S)(h1:¬ S p)(h2:∀ g,og=T g->¬ S g):Rg w' p og room vs:=by
 obtain⟨n,f,cs,h⟩:=h;exact⟨n,f,cs,h.kept k h1 h2⟩
theorem Rg.El (h:Rg w p og room vs):p<w.heap.size:=by obtain⟨n,f,cs,h⟩:=h;exact Bk.lt h.hd
theorem Rg.Ep {g:Nat}(h:Rg w p og room vs)(e:og=T g):g<w.heap.size:=by obtain⟨n,f,cs,h⟩:=h;exact h.lt e
theorem In.more {g:Nat}(h:In w p (T g) n f room cs vs)(hv:vs.length<n)(v:Int):
 In ((w.setCell ⟨g,xy f vs.length n,V⟩ (C v)).setCell ⟨p,2,V⟩ (O Z ((vs.length+1:Nat):Int))) p (T g) n f room (cs.set (xy f vs.length n) v) (vs++[v]):=by
 have hf:=h.some_ g rfl
 have hl:=h.len
 refine⟨?_,?_,by simpa using hl,by simp;omega,h.most,h.few,?_,h.some_,h.none_⟩
 ·have h1:=Bk.put (Bk.off h.hd (p:=⟨g,xy f vs.length n,V⟩) (h.ne rfl) (C v)) 2 (O Z ((vs.length+1:Nat):Int))
  unfold Hd
  rw[List.length_append]
  exact h1
 ·intro g' e
  obtain rfl:g=g':=by injection e
  have h1:=(h.row g rfl).put (xy f vs.length n) (C v)
  rw[nV] at h1
  exact h1.off (p:=⟨p,2,V⟩) (h.ne rfl).symm _
 ·intro i hi
  simp only[List.length_append,List.length_cons,List.length_nil,Nat.zero_add] at hi
  rw[ri (by rw[hl];exact tT (by omega))]
  by_cases e:i=vs.length
  ·subst e;rw[if_pos rfl,lz]
  ·rw[if_neg (zB hf (by omega) hv).symm,ly (by omega)]
   exact h.at_ i (by omega)
theorem In.less {g:Nat}{v:Int}(h:In w p (T g) n f room cs (v :: vs)):
 In (((w.setCell ⟨g,f,V⟩ (C 0)).setCell ⟨p,1,V⟩ (O Z (xy f 1 n))).setCell ⟨p,2,V⟩ (O Z vs.length)) p (T g) n (xy f 1 n) room (cs.set f 0) vs:=by
 have hf:=h.some_ g rfl
 have hl:=h.len
 have hfit:=h.fits
 simp only[List.length_cons] at hfit
 refine⟨?_,?_,by simpa using hl,by omega,h.most,h.few,?_,fun _ _=>tT (by omega),fun e=>(by cases e)⟩
 ·have h1:=Bk.put (Bk.put (Bk.off h.hd (p:=⟨g,f,V⟩) (h.ne rfl) (C 0)) 1 (O Z (xy f 1 n))) 2 (O Z vs.length)
  exact h1
 ·intro g' e
  obtain rfl:g=g':=by injection e
  have h1:=(h.row g rfl).put f (C 0)
  rw[nV] at h1
  exact(h1.off (p:=⟨p,1,V⟩) (h.ne rfl).symm _).off (p:=⟨p,2,V⟩) (h.ne rfl).symm _
 ·intro i hi
  have h1:=h.at_ (i+1) (by simp;omega)
  have h2:=zB (n:=n) hf (i:=0) (j:=i+1) (by omega) (by omega)
  rw[vA hf] at h2
  rw[yo hf (by omega),ri (by rw[hl];exact hf),if_neg h2,<-h1]
  simp[oS]
end
section
variable {w:World}{p:Nat}{a:Option Addr}{n f r:Nat}
def p9 (x:Int):Nat:=if x<0 then 0 else if 4096<x then 4096 else x.toNat
end
end Go.Proofs.YthdgehcghklflaaGreatDoor.RWord
namespace Go.Proofs.YthdgehcghklflaaGreatDoor
open Go.ChangeShapes Go.WideShapes Go.ChangeAt Go.RowKit Go.Maps
theorem pH:Keyed Tryz.prog 22:=int_keyed Tryz.underlying22
theorem EN {x:Int}(h0:0<=x)(h1:x<4294967296):(Lit.int .u32 x).wf=J:=by
 simp[Lit.wf,IntKind.min,IntKind.max,IntKind.bits,IntKind.signed];omega
theorem B2 {x:Int}(h0:0<=x)(h1:x<4294967296):keyOf Tryz.prog 22 (.int .u32 x)=T (.int .u32 x):=keyOf_int_mk Tryz.underlying22 (EN h0 h1)
theorem xH (w:World):(zeroValue 4).run Tryz.prog w=.ok (.bool U) w:=by kernel_rfl
theorem uN (x:Int):WideAt.IsKeyLit (.int .u32 x):=by trivial
theorem rk {x y:Int}(h:y≠x):(Lit.int .u32 y)≠.int .u32 x:=fun e=>h (by injection e)
def tO (os:Int->Bool)(x:Int)(v:Bool):Int->Bool:=fun y=>if y=x then v else os y
theorem nL (os:Int->Bool)(x:Int)(v:Bool):tO os x v x=v:=by simp[tO]
theorem lU {os:Int->Bool}{x y:Int}{v:Bool}(h:y≠x):tO os x v y=os y:=by simp[tO,h]
def hG (w:World)(b:Nat)(os:Int->Bool)(c:Nat):Prop:=
 ∃ D:DataW Unit,w.ownsMap Tryz.prog 22 (plainElem Tryz.prog 4) b c D/\size D=c/\
  ∀ x,0<=x->x<4294967296->Maps.has D (.int .u32 x)=os x/\D.atKey (.int .u32 x) (.lit (.bool U))=.lit (.bool (os x))
section
variable {w w':World}{b c:Nat}{os:Int->Bool}
theorem hG.lt (h:hG w b os c):b<w.heap.size:=by obtain⟨D,h,_⟩:=h;exact h.lt
theorem hG.gz {g:Nat}{t:TypeId}{cs:Array Value}(h:hG w b os c)(k:Bk w g t cs):b≠g:=by
 obtain⟨D,⟨es,clock,hb,_⟩,_⟩:=h
 intro e;subst e;unfold Bk at k;rw[hb] at k;cases k
theorem hG.within {S:Nat->Prop}(h:hG w b os c)(k:ag w w' S)(hn:¬ S b):hG w' b os c:=by
 have hl:=h.lt
 obtain⟨D,⟨es,clock,hb,r⟩,r'⟩:=h
 exact⟨D,⟨es,clock,(k.block b hl hn).trans hb,r⟩,r'⟩
theorem hG.drewN (h:hG w b os c)(n:Nat):hG (w.drewN n) b os c:=h
theorem hG.made (w:World):hG (w.alloc (.map #[] 0)) w.heap.size (fun _=>U) 0:=
 ⟨.map [],World.ownsMap_made w _ _ _,rfl,fun _ _ _=>⟨rfl,rfl⟩⟩
theorem hG.look (h:hG w b os c){x:Int}(h0:0<=x)(h1:x<4294967296):(Instr.lookup 172 (.map (T b)) (O .u32 x) U).run Tryz.prog w=.ok (.bool (os x)) w:=by
 obtain⟨D,h,_,hk⟩:=h
 obtain⟨v,ps,hrun,hv⟩:=h.lookup pH Tryz.underlying172 (xH w) (plainElem_bool Tryz.underlying4 U) (B2 h0 h1)
 rw[(hk x h0 h1).2] at hv
 rw[hrun]
 unfold plainElem at hv
 rw[Tryz.underlying4] at hv
 cases v <;> simp at hv
 rw[hv.1]
theorem hG.len (h:hG w b os c)(ty:TypeId):(Builtin.len_ #[172] ty #[.map (T b)]).run Tryz.prog w=.ok (O Z c) w:=by
 obtain⟨D,h,hs,_⟩:=h
 rw[<-hs]
 exact h.len Tryz.underlying172 ty
theorem xJ {D:DataW Unit}{os:Int->Bool}(hD:IsMap D)(hk:∀ x,0<=x->x<4294967296->Maps.has D (.int .u32 x)=os x/\D.atKey (.int .u32 x) (.lit (.bool U))=.lit (.bool (os x)))(k:Int):
 ∀ x,0<=x->x<4294967296->Maps.has (D.put (.int .u32 k) (.lit (.bool J))) (.int .u32 x)=tO os k J x/\(D.put (.int .u32 k) (.lit (.bool J))).atKey (.int .u32 x) (.lit (.bool U))=.lit (.bool (tO os k J x)):=by
 intro x h0 h1
 by_cases e:x=k
 ·subst e;rw[nL];exact⟨has_put_same hD (uN _) _,atKey_put_same hD (uN _) _ _⟩
 ·rw[lU e,has_put_other (rk e),atKey_put_other (rk e)];exact hk x h0 h1
theorem hG.add (h:hG w b os c)(hc:c<1000000){k:Int}(h0:0<=k)(h1:k<4294967296)(hk:os k=U):
 ∃ w',(Instr.mapUpdate 172 (.map (T b)) (O .u32 k) (.bool J)).run Tryz.prog w=.ok () w'/\hG w' b (tO os k J) (c+1)/\xv w w' b:=by
 obtain⟨D,h,hs,hh⟩:=h
 obtain⟨w',hrun,ho,hg⟩:=h.update pH Tryz.underlying172 (by unfold maxLen;omega) (B2 h0 h1) (plainElem_bool (H:=Unit) Tryz.underlying4 J)
 refine⟨w',hrun,⟨_,ho,?_,xJ h.isMap hh k⟩,hg⟩
 rw[size_put (h.tidy pH),(hh k h0 h1).1,hk,hs];simp
end
end Go.Proofs.YthdgehcghklflaaGreatDoor
namespace Go.Proofs.YthdgehcghklflaaGreatDoor
open Go.ChangeShapes Go.WideShapes Go.ChangeAt Go.RowKit
section
variable {P:Program}{ops:Array Oper}{rest:List Oper}{o:Oper}{a:Act}{w:World}{Q:Exit->Act->World->Prop}{base:Nat}{t:TypeId}{size:Nat}{v:Value}{n:Nat}{xs:List Value}
theorem Cc (hgd:o.guard=V)(s x:Operand)(ts:TypeId)(ho:o.op=Op.call { callee:=Callee.builtin Builtin.append,args:=#[s,x],argTypes:=#[ts,ts] })
 (z:Value) (bytes:Nat) (ht:P.underlying ts=T (.slice t)) (hi:(P.info? t).map (fun i=>(i.zero,i.size,i.bytes))=T (T z,size,bytes)) (hz:z.cells.size=size) (hsz:0<size) (hby:bytes<=200)
 (h:w.ownsRow base t size v n xs) (hs:a.eval s=v) (news:List Value) (hnl:news.length=size) (hone:∀ u∈news,u.oneCell'=J) (B:Nat) (hx:a.eval x=G (T ⟨B,0,V⟩) 1 1)
 (hB:∀ j u,news[j]?=T u->w.cell? ((⟨B,0,V⟩:Addr).add j)=T u) (hl:n<1000000000) (hbase:base<=w.heap.size)
 (hK:∀ v' w',w'.ownsRow base t size v' (n+1) (xs++news)->w.grownBy w' v.ownBlock->(v'.ownBlock=v.ownBlock\/v'.ownBlock=T w.heap.size)->wpList P ops Q rest (a.put o.dst v') w'):
 wpList P ops Q (o :: rest) a w:=by
 obtain⟨i0,hi0,hz0,hz1,hz2⟩:=info_parts hi
 refine wpList_append_own_at _ hgd s x ts ho base t i0 _ size bytes ht hi0 hz0 hz1 hz2 hz hsz v n xs hs h ⟨B,0,V⟩ 1 1 news hx (by omega) hB hone (by simp only[maxLen];omega)
  (by
   have:(n+1)*bytes<=1000000001*200:=Nat.mul_le_mul (by omega) hby
   omega) hbase fun v' w' h2 h3 _ h5=>hK v' w' h2 h3 h5
theorem uW {k:IntKind}{xs:List Int}(hgd:o.guard=V)(s x:Operand)(ts:TypeId)(ho:o.op=.call { callee:=.builtin .append,args:=#[s,x],argTypes:=#[ts,ts] })
 (bytes:Nat) (ht:P.underlying ts=T (.slice t)) (hi:(P.info? t).map (fun i=>(i.zero,i.size,i.bytes))=T (T (.int k 0),1,bytes)) (hby:bytes<=8)
 (h:dQ k t w v xs) (hs:a.eval s=v) (y:Int) (hx:a.eval x=G (T ⟨w.heap.size,0,V⟩) 1 1) (hl:xs.length<1000000001)
 (hK:∀ v' w',dQ k t w' v' (xs++[y])->w.grownBy w' v.ownBlock->(v'.ownBlock=v.ownBlock\/v'.ownBlock=T (w.heap.size+1))->wpList P ops Q rest (a.put o.dst v') w'):
 wpList P ops Q (o :: rest) a (w.alloc (.cells #[.int k y] t)):=by
 obtain⟨i0,hi0,hz0,hz1,hz2⟩:=info_parts hi
 refine wpList_append_own_at _ hgd s x ts ho 0 t i0 _ 1 bytes ht hi0 hz0 hz1 hz2 rfl (by omega) v xs.length (xs.map (Value.int k)) hs (h.alloc _) ⟨w.heap.size,0,V⟩ 1 1 [.int k y] hx rfl (cell_one_new _ _ _) (ints_oneCell k [y]) (by simp only[maxLen];omega) ?_ (Nat.zero_le _) ?_
 ·have:(xs.length+1)*bytes<=1000000002*8:=Nat.mul_le_mul (by omega) hby
  omega
 ·intro v' w' hown hgr _ hloc
  refine hK v' w' ?_ ?_ ?_
  ·unfold dQ;simpa using hown
  ·exact cr (dK _ _ _) hgr (.inl rfl)
  ·simpa using hloc
end
def tY (ops:Array Oper)(st:List Nat)(i:Nat):Nat:=(st.filter fun s=>(aW ops i).contains s).length
def ua (ops:Array Oper)(st:List Nat)(i:Nat):Nat:=st.findIdx fun s=>(aW ops s).contains i
def gZ (ops:Array Oper):List Nat->Bool
 | s :: t :: l=>(aW ops t).contains s && (decide (s<ops.size) && gZ ops (t :: l))
 | [s]=>decide (s<ops.size)
 | []=>J
def mZ (P:Program)(ops:Array Oper)(F:Nat->Value->World->Prop)(Wp:Nat->World->Prop)(Step:Nat->World->World->Prop)(lit:(Nat->Value)->Act)(st:List Nat):List Oper->Nat->Prop
 | [],_=>True
 | o :: l,i=>(match st.contains i with
  | true=>∀ (vs:Nat->Value) W,Wp (st.idxOf i) W->(∀ j∈aW ops i,F j (vs j) W)->cY P ops (fun v W'=>F i v W'/\Wp (st.idxOf i+1) W'/\Step (st.idxOf i) W W') o (lit vs) W
  | false=>∀ (vs:Nat->Value) W k,tY ops st i<=k->k<=ua ops st i->Wp k W->(∀ j∈aW ops i,F j (vs j) W)->bM P ops (F i) o (lit vs) W)/\mZ P ops F Wp Step lit st l (i+1)
theorem kK {P:Program}{ops:Array Oper}{F:Nat->Value->World->Prop}{Wp:Nat->World->Prop}{Step:Nat->World->World->Prop}{lit:(Nat->Value)->Act}{st:List Nat}:∀ (l:List Oper) (b i:Nat) (o:Oper),mZ P ops F Wp Step lit st l b->l[i]?=T o->
 (st.contains (b+i)=J->∀ (vs:Nat->Value) W,Wp (st.idxOf (b+i)) W->(∀ j∈aW ops (b+i),F j (vs j) W)->cY P ops (fun v W'=>F (b+i) v W'/\Wp (st.idxOf (b+i)+1) W'/\Step (st.idxOf (b+i)) W W') o (lit vs) W)/\
 (st.contains (b+i)=U->∀ (vs:Nat->Value) W k,tY ops st (b+i)<=k->k<=ua ops st (b+i)->Wp k W->(∀ j∈aW ops (b+i),F j (vs j) W)->bM P ops (F (b+i)) o (lit vs) W)
 | [],b,i,o,_,hi=>by simp at hi
 | x :: l,b,0,o,h,hi=>by
  simp only[List.getElem?_cons_zero,Option.some.injEq] at hi
  subst hi
  have h1:=h.1
  simp only[Nat.add_zero]
  constructor
  ·intro e;rw[e] at h1;exact h1
  ·intro e;rw[e] at h1;exact h1
 | x :: l,b,i+1,o,h,hi=>by
  have:=kK l (b+1) i o h.2 (by simpa using hi)
  rw[show b+1+i=b+(i+1) by omega] at this
  exact this
theorem kv {ops:Array Oper}:∀ (st:List Nat),gZ ops st=J->∀ (j s t:Nat),st[j]?=T s->st[j+1]?=T t->s∈aW ops t
 | [],_,j,s,t,h,_=>by simp at h
 | [x],_,j,s,t,_,h=>by simp at h
 | x :: y :: l,h,0,s,t,h1,h2=>by
  simp at h1 h2
  subst h1;subst h2
  simp only[gZ,Bool.and_eq_true] at h
  simpa using h.1
 | x :: y :: l,h,j+1,s,t,h1,h2=>by
  simp only[gZ,Bool.and_eq_true] at h
  exact kv (y :: l) h.2.2 j s t (by simpa using h1) (by simpa using h2)
theorem ku {ops:Array Oper}:∀ (st:List Nat),gZ ops st=J->∀ s∈st,s<ops.size
 | [],_,s,h=>by simp at h
 | [x],h,s,hs=>by simp at hs;subst hs;simpa [gZ] using h
 | x :: y :: l,h,s,hs=>by
  simp only[gZ,Bool.and_eq_true,decide_eq_true_eq] at h
  rcases List.mem_cons.1 hs with rfl | hs
  ·exact h.2.1
  ·exact ku (y :: l) h.2.2 s hs
theorem eF {P:Program}{l:List Oper}{Q:Exit->Act->World->Prop}{id:Nat}{a:Act}{w:World}(st:List Nat)(Wp:Nat->World->Prop)(Step:Nat->World->World->Prop)(lit:(Nat->Value)->Act)(F:Nat->Value->World->Prop)
 (hm:P.follows .mixedOrders=J) (hr:lm l.toArray=J) (hc:gZ l.toArray st=J) (hnd:st.Nodup) (hlit:∀ vs,aC l.toArray a (fun _=>J) vs=lit vs)
 (h0:Wp 0 w)
 (hW:∀ k W W',Wp k W->Below W.heap.size W W'->Wp k W')
 (hF:∀ i v W W',F i v W->Below W.heap.size W W'->F i v W')
 (hS:∀ k W W',Wp k W->Step k W W'->∀ i v,F i v W->F i v W')
 (hop:mZ P l.toArray F Wp Step lit st l 0)
 (hend:∀ (vs:Nat->Value) W,Wp st.length W->(∀ i,i<l.length->F i (vs i) W)->Q .normal (lit vs) W):(Code.region id l.toArray J).wp P Q a w:=by
 refine dX hm hr (fun d vs W=>∃ k,k<=st.length/\(∀ j s,st[j]?=T s->(d s=J↔j<k))/\(∀ i,d i=J->∀ j∈aW l.toArray i,d j=J)/\Wp k W/\∀ i,d i=J->F i (vs i) W) ?_ ?_ ?_
 ·exact⟨0,Nat.zero_le _,fun j s _=>by simp,(fun i h=>by cases h),hW 0 _ _ h0 (A _ _).drew,(fun i h=>by cases h)⟩
 ·rintro i o ho d vs W ⟨k,hk,hst,hcl,hWk,hFd⟩ hdi hdep
  have ho':l[i]?=T o:=by simpa using ho
  rw[hlit]
  obtain⟨e1,e2⟩:=kK l 0 i o hop ho'
  rw[Nat.zero_add] at e1 e2
  have hFdep:∀ j∈aW l.toArray i,F j (vs j) W:=fun j hj=>hFd j (hdep j hj)
  cases hci:st.contains i with
  | true=>
   have hmem:i∈st:=by simpa using hci
   have hidx:st.idxOf i<st.length:=List.idxOf_lt_length_iff.2 hmem
   have hat:st[st.idxOf i]?=T i:=by rw[List.getElem?_eq_getElem hidx,List.getElem_idxOf hidx]
   -- it is the next one
   have hki:st.idxOf i=k:=by
    have h1:¬ st.idxOf i<k:=fun h=>by
     have:=(hst _ i hat).2 h
     rw[hdi] at this;cases this
    rcases Nat.lt_or_eq_of_le (Nat.le_of_not_lt h1) with h2 | h2
    ·exfalso
     -- the one fR is done,so all fR are
     have hp:st.idxOf i-1+1=st.idxOf i:=by omega
     have hpl:st.idxOf i-1<st.length:=by omega
     have hs:=kv st hc (st.idxOf i-1) st[st.idxOf i-1] i (List.getElem?_eq_getElem hpl) (by rw[hp];exact hat)
     have hd:=hdep _ hs
     have:=(hst _ _ (List.getElem?_eq_getElem hpl)).1 hd
     omega
    ·exact h2.symm
   have h3:=e1 hci vs W (by rw[hki];exact hWk) hFdep
   refine gc h3 ?_
   rintro v W' ⟨hv,hW2,hstep⟩
   rw[hki] at hW2 hstep
   refine⟨k+1,by omega,fun j s hs=>?_,fun x hx j hj=>by
    by_cases e:x=i
    ·subst e;have h4:=hdep j hj;by_cases e2:j=x <;> simp[e2,h4]
    ·simp only[if_neg e] at hx;have h4:=hcl x hx j hj;by_cases e2:j=i <;> simp[e2,h4],hW2,fun j hj=>?_⟩
   ·by_cases e:s=i
    ·subst e
     have hj:j=k:=by
      rw[<-hki]
      have hjl:=(List.getElem?_eq_some_iff.1 hs).1
      have hsj:=(List.getElem?_eq_some_iff.1 hs).2
      have:=hnd.idxOf_getElem j hjl
      rw[hsj] at this
      exact this.symm
     simp;omega
    ·simp only[if_neg e]
     rw[hst j s hs]
     constructor
     ·omega
     ·intro h
      by_cases hj:j=k
      ·exfalso
       subst hj
       rw[<-hki,hat] at hs
       injection hs with hs
       exact e hs.symm
      ·omega
   ·by_cases e:j=i
    ·subst e;simp only[if_true];exact hv
    ·simp only[if_neg e] at hj ⊢
     exact hS k W W' hWk hstep j _ (hFd j hj)
  | false=>
   have hnm:i ∉ st:=by simpa using hci
   have hlo:tY l.toArray st i<=k:=by
    unfold tY
    have hsub:∀ (s:List Nat) (b:Nat),(∀ j x,s[j]?=T x->st[b+j]?=T x)->(s.filter fun x=>(aW l.toArray i).contains x).length<=k-b:=by
     intro s
     induction s with
     | nil=>intro b _;simp
     | cons x s ih=>
      intro b hb
      have hx:=hb 0 x (by simp)
      rw[Nat.add_zero] at hx
      have ih2:=ih (b+1) (fun j y hy=>by rw[show b+1+j=b+(j+1) by omega];exact hb (j+1) y (by simpa using hy))
      rw[List.filter_cons]
      split
      ·rename_i hcx
       have hd:=hdep x (by simpa using hcx)
       have:=(hst b x hx).1 hd
       simp only[List.length_cons]
       omega
      ·omega
    have:=hsub st 0 (fun j x h=>by rw[Nat.zero_add];exact h)
    omega
   have hhi:k<=ua l.toArray st i:=by
    unfold ua
    rcases Nat.lt_or_ge (st.findIdx fun s=>(aW l.toArray s).contains i) st.length with h | h
    ·refine Nat.le_of_not_lt fun hlt=>?_
     have hp:=List.findIdx_getElem (w:=h)
     have hd:=(hst _ _ (List.getElem?_eq_getElem h)).2 hlt
     -- what is done had all that it waits for done
     have:=hcl _ hd i (by simpa using hp)
     rw[hdi] at this
     cases this
    ·omega
   exact fe (e2 hci vs W k hlo hhi hWk hFdep) (fun v W' hv hb=>⟨k,hk,fun j s hs=>by
    have hne:s≠i:=fun e=>hnm (e ▸ List.mem_of_getElem? hs)
    simp only[if_neg hne]
    exact hst j s hs,fun x hx j hj=>by
    by_cases e:x=i
    ·subst e;have h4:=hdep j hj;by_cases e2:j=x <;> simp[e2,h4]
    ·simp only[if_neg e] at hx;have h4:=hcl x hx j hj;by_cases e2:j=i <;> simp[e2,h4],hW k W W' hWk hb,fun j hj=>by
    by_cases e:j=i
    ·subst e;simp only[if_true];exact hv
    ·simp only[if_neg e] at hj ⊢
     exact hF j _ W W' (hFd j hj) hb⟩)
 ·rintro d vs W ⟨k,hk,hst,hcl,hWk,hFd⟩ hall
  rw[hlit]
  have hks:k=st.length:=by
   rcases Nat.lt_or_eq_of_le hk with h | h
   ·exfalso
    have h1:=(hst k _ (List.getElem?_eq_getElem h))
    have h2:=hall st[k] (ku st hc _ (List.getElem_mem h))
    have:=h1.1 h2
    omega
   ·exact h
  rw[hks] at hWk
  exact hend vs W hWk (fun i hi=>hFd i (hall i (by simpa using hi)))
end Go.Proofs.YthdgehcghklflaaGreatDoor
namespace Go.Proofs.YthdgehcghklflaaGreatDoor
open Go.ChangeShapes Go.WideShapes Go.ChangeAt Go.RowKit Go.Sort
structure Lb (w:World):Prop where
 tab:Lib.TabIs Tryz.prog w "internal/strconv.uint64pow10" .u64 Lib.pow10Tab
 syn:∃ tp p,w.var? Tryz.prog "strconv.ErrSyntax" = T #[.iface tp p]
 rng:∃ tp p,w.var? Tryz.prog "strconv.ErrRange" = T #[.iface tp p]
 mx:∃ m,w.cell? ⟨0,0,V⟩=T (.int .i64 m)
 low:0<w.heap.size/\5<w.heap.size/\1<w.heap.size/\2<w.heap.size
theorem Lb.below {w w':World}(h:Lb w)(hb:Below w.heap.size w w'):Lb w':=by
 obtain⟨l0,l1,l2,l3⟩:=h.low
 have hz:=hb.size
 refine⟨?_,?_,?_,?_,by omega,by omega,by omega,by omega⟩
 ·exact var?_below hb (g:=5) (by kernel_rfl) (by omega) h.tab
 ·obtain⟨tp,p,e⟩:=h.syn
  exact⟨tp,p,var?_below hb (g:=1) (by kernel_rfl) (by omega) e⟩
 ·obtain⟨tp,p,e⟩:=h.rng
  exact⟨tp,p,var?_below hb (g:=2) (by kernel_rfl) (by omega) e⟩
 ·obtain⟨m,e⟩:=h.mx
  exact⟨m,(hb.cell (p:=⟨0,0,V⟩) (by show 0<_;omega)).trans e⟩
theorem Lb.xz {w:World}(h:Lb w)(g:gg w):Lb g.x:=h.below g.ok
theorem tK (w:World)(k:Nat)(os:Array Obj):Below w.heap.size w (grow (w.drewN k) os):=by
 refine⟨rfl,rfl,rfl,?_,fun j hj=>?_⟩
 ·show w.heap.size<=(w.heap++os).size
  simp
 ·show (w.heap++os)[j]?=w.heap[j]?
  rw[Array.getElem?_append_left hj]
theorem D7 (n:Int)(h0:-9223372036854775808<=n)(h1:n<=9223372036854775807)(w:World)(L:Lb w):
 Calls Tryz.prog 181 #[O Z n] w fun e w'=>e=.returned (bs (Lib.itoa n))/\Below w.heap.size w w':=
 (Any.strconv_Itoa Tryz.laysM171 n h0 h1 w L.tab).mono fun _ _ ⟨he,k,os,hw⟩=>⟨he,by rw[hw];exact tK w k os⟩
theorem D4 (s p:List UInt8)(w:World):
 Calls Tryz.prog 177 #[bs s,bs p] w fun e w'=>e=.returned (bs (Lib.trimPrefix s p))/\w=w':=
 (Any.strings_TrimPrefix Tryz.lays101 ⟨s.toArray⟩ ⟨p.toArray⟩ w).mono fun _ _ ⟨he,hw⟩=>⟨he,hw.symm⟩
theorem A1 (s:List UInt8)(hl:s.length<=281474976710656)(v:Int)(h:Lib.atoiAll s=.ok v)(w:World):
 Calls Tryz.prog 176 #[bs s] w fun e w'=>e=.returned (.tuple #[O Z v,.nilIface])/\Below w.heap.size w w':=by
 have hs:(⟨s.toArray⟩:ByteArray).size=s.length:=by simp[ByteArray.size]
 refine(Any.strconv_Atoi_ok Tryz.laysC172 ⟨s.toArray⟩ (by omega) v h w).mono fun e w' ⟨he,hw⟩=>⟨he,?_⟩
 rcases hw with rfl | ⟨t,rfl⟩
 ·exact A _ _
 ·exact Lib.bytesWorld_below _ _ _
def Dc (w:World)(e:Ending)(w':World):Prop:=∃ (v:Int) (b:Nat),e=.returned (.tuple #[O Z v,.iface 287 (M (T ⟨b,0,V⟩))])/\Below w.heap.size w w'
theorem A2 (s:List UInt8)(hl:s.length<=281474976710656)(h:∀ v,Lib.atoiAll s≠.ok v)(w:World)(L:Lb w):
 Calls Tryz.prog 176 #[bs s] w (Dc w):=by
 have hs:(⟨s.toArray⟩:ByteArray).size=s.length:=by simp[ByteArray.size]
 cases ha:Lib.atoiAll s with
 | ok v=>exact absurd ha (h v)
 | range=>
  obtain⟨tp,p,hv⟩:=L.rng
  exact(Any.strconv_Atoi_range_var Tryz.laysC172 ⟨s.toArray⟩ (by omega) ha tp p w hv).mono fun e w' ⟨N,he,_,_,hb⟩=>⟨_,N,he,hb⟩
 | _=>
  obtain⟨tp,p,hv⟩:=L.syn
  exact(Any.strconv_Atoi_syntax_var Tryz.laysC172 ⟨s.toArray⟩ (by omega) ha tp p w hv).mono fun e w' ⟨N,he,_,_,hb⟩=>⟨_,N,he,hb⟩
def fm (s:List UInt8):List (List UInt8):=Lib.splitN s [32] 9 -- 162
def xu (w:World)(v:Value)(ws:List (List UInt8)):Prop:=
 ∃ g cap,v=G (T ⟨g,0,V⟩) ws.length cap/\ws.length<=cap/\cap<=1000000/\g<w.heap.size/\∀ n,n<ws.length->w.cell? ⟨g,n,V⟩=T (bs (ws.getD n []))
theorem xu.below {w w':World}{v:Value}{ws:List (List UInt8)}(h:xu w v ws)(hb:Below w.heap.size w w'):xu w' v ws:=by
 obtain⟨g,cap,e,h1,h2,h3,h4⟩:=h
 exact⟨g,cap,e,h1,h2,Nat.lt_of_lt_of_le h3 hb.size,fun n hn=>(hb.cell (p:=⟨g,n,V⟩) h3).trans (h4 n hn)⟩
theorem CQ (s:List UInt8)(hl:s.length<4294967281)(w:World)(L:Lb w):
 Calls Tryz.prog 162 #[bs s,bs [32],O Z 9] w fun e w'=>∃ v,e=.returned v/\xu w' v (fm s)/\Below w.heap.size w w':=by
 obtain⟨m,hm⟩:=L.mx
 have hs:(⟨s.toArray⟩:ByteArray).size=s.length:=by simp[ByteArray.size]
 refine(Any.strings_SplitN { Tryz.laysM147 with } Tryz.laysM147.i9 ⟨s.toArray⟩ ⟨#[32]⟩ 9 m w (by omega) hm (by decide) (by decide) (by decide)).mono fun e w' ⟨he,hw⟩=>?_
 have hdat:=Lib.splitB_data ⟨#[32]⟩ 0 (min 9 ((⟨s.toArray⟩:ByteArray).size+1)-1) ⟨s.toArray⟩
 have hle:=Lib.splitB_length_le ⟨#[32]⟩ 0 (min 9 ((⟨s.toArray⟩:ByteArray).size+1)-1) ⟨s.toArray⟩
 generalize hl2:Lib.splitB ⟨#[32]⟩ 0 (min 9 ((⟨s.toArray⟩:ByteArray).size+1)-1) ⟨s.toArray⟩=l at *
 have hlen:(fm s).length=l.length:=by
  unfold fm Lib.splitN
  rw[<-hs]
  have:=congrArg List.length hdat
  simpa using this.symm
 have hcap:min 9 ((⟨s.toArray⟩:ByteArray).size+1)<=9:=Nat.min_le_left _ _
 have hcap1:1<=min 9 ((⟨s.toArray⟩:ByteArray).size+1):=by omega
 subst hw
 refine⟨_,he,⟨w.heap.size,min 9 ((⟨s.toArray⟩:ByteArray).size+1),by rw[hlen],by omega,by omega,by simp,fun n hn=>?_⟩,(A _ _).alloc (X _) _⟩
 rw[cell_of_row _ _ _ _ _ _ (heap_alloc_new w _)]
 rw[hlen] at hn
 have h1:(Lib.cellsOf l (min 9 ((⟨s.toArray⟩:ByteArray).size+1)))[n]?=T (.string l[n]):=by
  unfold Lib.cellsOf
  rw[List.getElem?_toArray,List.getElem?_append_left (by simpa using hn),List.getElem?_map,List.getElem?_eq_getElem hn]
  rfl
 rw[h1]
 have h2:(fm s).getD n []=l[n].data.toList:=by
  have h3:fm s=l.map (·.data.toList):=by rw[hdat];unfold fm Lib.splitN;rw[hs]
  rw[h3]
  simp[hn]
 rw[h2]
 rfl
end Go.Proofs.YthdgehcghklflaaGreatDoor
namespace Go.Proofs.YthdgehcghklflaaGreatDoor
open Go.ChangeShapes Go.WideShapes Go.ChangeAt Go.RowKit
def fR (c:UInt8):List (List UInt8)->List (List UInt8)
 | []=>[[c]]
 | l :: r=>(c :: l) :: r
def aq:List UInt8->List (List UInt8)
 | []=>[[]]
 | c :: r=>if c=32 then [] :: aq r else fR c (aq r)
theorem fJ:∀ s,0<(aq s).length
 | []=>by simp[aq]
 | c :: r=>by
  unfold aq
  split
  ·simp
  ·have:=fJ r
   generalize aq r=ws at *
   cases ws with
   | nil=>simp at this
   | cons a b=>simp[fR]
theorem cJ:∀ t:List UInt8,(∀ c∈t,c≠32)->aq t=[t]
 | [],_=>rfl
 | c :: r,h=>by
  unfold aq
  rw[if_neg (h c List.mem_cons_self),cJ r fun d hd=>h d (List.mem_cons_of_mem _ hd)]
  rfl
theorem fb:∀ (t r:List UInt8),(∀ c∈t,c≠32)->aq (t++32 :: r)=t :: aq r
 | [],r,_=>by simp[aq]
 | c :: t,r,h=>by
  have e:aq (c :: (t++32 :: r))=fR c (aq (t++32 :: r)):=by
   rw[aq,if_neg (h c List.mem_cons_self)]
  show aq (c :: (t++32 :: r))=_
  rw[e,fb t r fun d hd=>h d (List.mem_cons_of_mem _ hd)]
  rfl
theorem gK:∀ s:List UInt8,(aq s).length<=s.length+1
 | []=>by simp[aq]
 | c :: r=>by
  have h:=gK r
  unfold aq
  split
  ·simp;omega
  ·generalize aq r=ws at *
   cases ws with
   | nil=>simp[fR]
   | cons a b=>simp[fR] at *;omega
theorem j5:∀ s:List UInt8,∀ l∈aq s,l.length<=s.length
 | [],l,h=>by simp[aq] at h;subst h;simp
 | c :: r,l,h=>by
  have ih:=j5 r
  unfold aq at h
  split at h
  ·rcases List.mem_cons.1 h with rfl | h
   ·simp
   ·have:=ih l h;simp;omega
  ·generalize aq r=ws at *
   cases ws with
   | nil=>simp[fR] at h;subst h;simp
   | cons a b=>
    simp only[fR] at h
    rcases List.mem_cons.1 h with rfl | h
    ·have:=ih a List.mem_cons_self;simp;omega
    ·have:=ih l (List.mem_cons_of_mem _ h);simp;omega
structure fI (s:List UInt8)(out:List (List UInt8))(f i:Nat):Prop where
 le:f<=i
 no:∀ j,f<=j->j<i->s.getD j 0≠32
 all:out++aq (s.drop f)=aq s
 few:out.length<=f
theorem zJ {s:List UInt8}{f i:Nat}(hi:i<=s.length)(h:∀ j,f<=j->j<i->s.getD j 0≠32):∀ c∈(s.take i).drop f,c≠32:=by
 intro c hc
 obtain⟨n,hn,rfl⟩:=List.getElem_of_mem hc
 have h1:=h (f+n) (by omega) (by simp at hn;omega)
 simp at hn
 rw[List.getElem_drop,List.getElem_take]
 simpa [show f+n<s.length by omega] using h1
theorem fI.blank {s:List UInt8}{out:List (List UInt8)}{f i:Nat}(h:fI s out f i)(hi:i<s.length)(hc:s.getD i 0=32):fI s (out++[(s.take i).drop f]) (i+1) (i+1):=by
 refine⟨X _,fun j h1 h2=>by omega,?_,by have:=h.few;have:=h.le;simp;omega⟩
 rw[<-h.all,List.append_assoc]
 congr 1
 have e:s.drop f=(s.take i).drop f++32 :: s.drop (i+1):=by
  have e1:s=s.take i++32 :: s.drop (i+1):=by
   have hg:s[i]=32:=by simpa [hi] using hc
   rw[<-hg,<-List.drop_eq_getElem_cons hi,List.take_append_drop]
  have hle:f<=(s.take i).length:=by have:=h.le;simp;omega
  rw[<-List.drop_append_of_le_length hle,<-e1]
 rw[e,fb _ _ (zJ (by omega) h.no)]
 rfl
theorem fI.last {s:List UInt8}{out:List (List UInt8)}{f:Nat}(h:fI s out f s.length):out++[(s.take s.length).drop f]=aq s:=by
 rw[<-h.all]
 congr 1
 have:=zJ (X _) h.no
 rw[List.take_length] at this ⊢
 rw[cJ _ this]
theorem fI.on {s:List UInt8}{out:List (List UInt8)}{f i:Nat}(h:fI s out f i)(hc:s.getD i 0≠32):fI s out f (i+1):=
 ⟨by have:=h.le;omega,fun j h1 h2=>by
  by_cases e:j=i
  ·subst e;exact hc
  ·exact h.no j h1 (by omega),h.all,h.few⟩
def B6 (ws:List (List UInt8)):List Value:=ws.map bs
theorem qQ (ws:List (List UInt8))(l:List UInt8):B6 (ws++[l])=B6 ws++[.string ⟨l.toArray⟩]:=by simp[B6,bs]
theorem zr (s:List UInt8)(hl:s.length<100000)(w:World):
 Calls Tryz.prog 101 #[bs s] w fun e w'=>∃ v,e=.returned v/\pP 9 w' v (B6 (aq s))/\Below w.heap.size w w':=by
 unfold bs
 go_enter Tryz.func101,Tryz.ntmps101
 go_wp2
 go_loopw [3,4,5] (fun o f i x=>∃ (out:List (List UInt8)) (fn n:Nat),i=O Z n/\f=O Z fn/\pP 9 x o (B6 out)/\Below w.heap.size w x/\(∀ g,o.ownBlock=T g->w.heap.size<=g)/\n<=s.length+1/\((n<=s.length/\fI s out fn n)\/(n=s.length+1/\out=aq s))) (fun _ _ i _=>s.length+1-(intOf i).toNat)
 case atStart=>exact⟨[],0,0,rfl,rfl,pP.nil _ _,A _ _,(fun g e=>by cases e),by omega,.inl ⟨by omega,⟨X _,fun j h1 h2=>by omega,rfl,X _⟩⟩⟩
 case round=>
  obtain⟨out,fn,n,rfl,rfl,hV,hb,hown,hn,hW⟩:=hrel
  rcases hW with ⟨hle,hW⟩ | ⟨rfl,rfl⟩
  ·have hfew:=hW.few
   have hfl:=hW.le
   have hvl:(B6 out).length=out.length:=by simp[B6]
   by_cases hend:n=s.length
   ·subst hend
    have hcut:=mN s fn s.length hfl (X _)
    have hlast:=hW.last
    generalize (s.take s.length).drop fn=wd at *
    have HL:=Lib.hid hlast
    clear hlast
    have hle2:(s.length:Int)<=(s.length:Int):=by omega
    go_wp2_with (at_builtin;refine my (by rfl) _ _ 144 (by rfl) (.string ⟨#[]⟩) 16 Tryz.underlying144 (by kernel_rfl) rfl (by decide) hV (by rfl) (.string ⟨wd.toArray⟩) rfl (by rfl) (by omega) ?_;intro v' x' hV' hg hloc)
    have hb2:Below w.heap.size w x':=hb.grown hg hb.size hown
    have hown2:∀ g,v'.ownBlock=T g->w.heap.size<=g:=by
     intro g e
     rcases hloc with h | h
     ·exact hown g (h ▸ e)
     ·rw[h] at e;injection e with e;have:=hb.size;omega
    go_roundw
    case rel=>exact⟨out++[wd],s.length+1,s.length+1,by go_num,by go_num,by rw[qQ];exact hV',hb2,hown2,by omega,.inr ⟨rfl,HL.out⟩⟩
    case measure=>(simp[intOf] <;> omega)
   ·have hlt:n<s.length:=by omega
    have hidx:=eA s n hlt
    have dne:((n:Int)==(s.length:Int))=U:=by simp;omega
    have dle:(n:Int)<=(s.length:Int):=by omega
    by_cases hc:s.getD n 0=32
    ·have hW2:=hW.blank hlt hc
     have hcut:=mN s fn n hfl hle
     rw[hc] at hidx
     have e32:(((32:UInt8).toNat:Nat):Int)=32:=rfl
     rw[e32] at hidx
     clear e32 hc
     generalize (s.take n).drop fn=wd at *
     go_wp2_with (at_builtin;refine my (by rfl) _ _ 144 (by rfl) (.string ⟨#[]⟩) 16 Tryz.underlying144 (by kernel_rfl) rfl (by decide) hV (by rfl) (.string ⟨wd.toArray⟩) rfl (by rfl) (by omega) ?_;intro v' x' hV' hg hloc)
     have hb2:Below w.heap.size w x':=hb.grown hg hb.size hown
     have hown2:∀ g,v'.ownBlock=T g->w.heap.size<=g:=by
      intro g e
      rcases hloc with h | h
      ·exact hown g (h ▸ e)
      ·rw[h] at e;injection e with e;have:=hb.size;omega
     go_roundw
     case rel=>exact⟨out++[wd],n+1,n+1,by go_num,by go_num,by rw[qQ];exact hV',hb2,hown2,by omega,.inl ⟨by omega,hW2⟩⟩
     case measure=>(simp[intOf] <;> omega)
    ·have hW2:=hW.on hc
     have dc:((((s.getD n 0).toNat:Nat):Int)==32)=U:=by
      have h:(s.getD n 0).toNat≠32:=fun e=>hc (UInt8.toNat_inj.1 e)
      generalize (s.getD n 0).toNat=c at *
      simp;omega
     generalize (s.getD n 0).toNat=c at *
     clear hc
     go_wp2
     go_roundw
     case rel=>exact⟨out,fn,n+1,by go_num,rfl,hV,hb,hown,by omega,.inl ⟨by omega,hW2⟩⟩
     case measure=>(simp[intOf] <;> omega)
  ·go_wp2
   go_ret
   exact⟨_,rfl,hV,hb⟩
end Go.Proofs.YthdgehcghklflaaGreatDoor
namespace Go.Proofs.YthdgehcghklflaaGreatDoor
def aB (l:List En)(t:Int):Int:=l.foldl (fun k x=>if x.th=t then x.kind else k) 0
theorem ou (t:Int):aB [] t=0:=rfl
theorem cK (l:List En)(x:En)(t:Int):aB (l++[x]) t=if x.th=t then x.kind else aB l t:=by simp[aB,List.foldl_append]
def se (l:List En)(i:Nat):Option Int:=match l[i]? with
 | some x=>if x.kind=2/\aB l x.th=2/\aB (l.drop (i+1)) x.th=0 then T x.th else V
 | none=>V
def fS (l:List En):List Int:=(List.range l.length).filterMap (se l)
def cH (k:Int):Bool:=decide (k=3\/k=5\/k=8)
def eR (l:List En):Int:=match l.reverse.find? (fun x=>cH (aB l x.th)) with
 | some x=>x.th
 | none=>-1
def tX (l:List En)(x:En):Prop:=0<=x.now/\match l.getLast? with
 | some y=>y.now<=x.now
 | none=>True
def dt (last:Int)(q:List Int)(ow:Int)(x:En):Prop:=
 (x.kind=1/\(last=0\/last=6\/last=7\/last=10))\/((x.kind=2\/x.kind=7)/\last=1)\/(x.kind=3/\last=2/\q.head?=T x.th/\ow=-1)\/(x.kind=4/\last=2)\/
 (x.kind=5/\last=3)\/(x.kind=6/\last=4)\/(x.kind=8/\last=5)\/(x.kind=9/\last=8)\/(x.kind=10/\last=9)
instance (last:Int) (q:List Int) (ow:Int) (x:En):Decidable (dt last q ow x):=by unfold dt;infer_instance
instance (l:List En) (x:En):Decidable (tX l x):=by
 unfold tX
 cases l.getLast? <;> infer_instance
def ez (n:Int)(l:List En)(x:En):Prop:=0<=x.th/\x.th<n/\tX l x/\dt (aB l x.th) (fS l) (eR l) x
instance (n:Int) (l:List En) (x:En):Decidable (ez n l x):=by unfold ez;infer_instance
def dC (n:Int)(l:List En):Prop:=∀ k x,l[k]?=T x->ez n (l.take k) x
structure Fa where
 la:Int->Int
 q:List Int
 ow:Int
def EH:Fa:=⟨fun _=>0,[],-1⟩
def zH (a:Fa)(x:En):Fa:=
 ⟨fun t=>if x.th=t then x.kind else a.la t,a.q.filter (fun t=>t != x.th)++(if x.kind=2 then [x.th] else []),if cH x.kind then x.th else if x.th=a.ow then -1 else a.ow⟩
def ax (l:List En):Fa:=l.foldl zH EH
def zS (n:Int)(a:Fa)(x:En):Prop:=0<=x.th/\x.th<n/\dt (a.la x.th) a.q a.ow x
theorem cM (l:List En)(x:En):ax (l++[x])=zH (ax l) x:=by simp[ax,List.foldl_append]
theorem v8:ax []=EH:=rfl
theorem gF {α:Type}{P:List α->Prop}(h0:P [])(h1:∀ l x,P l->P (l++[x]))(l:List α):P l:=by
 have:∀ n (l:List α),l.length=n->P l:=by
  intro n
  induction n with
  | zero=>intro l h;rw[List.eq_nil_of_length_eq_zero h];exact h0
  | succ n ih=>
   intro l h
   have hne:l≠[]:=fun e=>by rw[e] at h;simp at h
   rw[<-List.dropLast_concat_getLast hne]
   exact h1 _ _ (ih _ (by simp[h]))
 exact this _ l rfl
theorem lq (l:List En):(ax l).la=aB l:=by
 refine gF (P:=fun l=>(ax l).la=aB l) ?_ ?_ l
 ·rfl
 ·intro l x ih
  funext t
  rw[cM,cK]
  show (if x.th=t then x.kind else (ax l).la t)=_
  rw[ih]
theorem yj (l:List En)(x:En)(i:Nat)(hi:i<l.length):se (l++[x]) i=(se l i).filter (fun t=>t != x.th):=by
 unfold se
 rw[List.getElem?_append_left hi,List.getElem?_eq_getElem hi]
 simp only
 have hd:(l++[x]).drop (i+1)=l.drop (i+1)++[x]:=by rw[List.drop_append_of_le_length (by omega)]
 rw[hd,cK,cK]
 generalize l[i]=y
 by_cases e:x.th=y.th
 ·rw[if_pos e,if_pos e]
  rw[if_neg (by omega)]
  split
  ·simp only[Option.filter_some]
   have:(y.th != x.th)=U:=by simp[e]
   rw[this];rfl
  ·rfl
 ·rw[if_neg e,if_neg e]
  split
  ·simp only[Option.filter_some]
   have:(y.th != x.th)=J:=by simp;exact fun h=>e h.symm
   rw[this];rfl
  ·rfl
theorem jZ {α β:Type}(f:α->Option β)(p:β->Bool)(l:List α):l.filterMap (fun a=>(f a).filter p)=(l.filterMap f).filter p:=by
 induction l with
 | nil=>rfl
 | cons a l ih=>
  simp only[List.filterMap_cons,ih]
  cases h:f a with
  | none=>simp
  | some b=>
   simp only[Option.filter_some]
   cases hp:p b <;> simp[hp]
theorem ib {α β:Type}{f g:α->Option β}:∀ l:List α,(∀ a∈l,f a=g a)->l.filterMap f=l.filterMap g
 | [],_=>rfl
 | a :: l,h=>by
  rw[List.filterMap_cons,List.filterMap_cons,h a (by simp),ib l fun b hb=>h b (by simp[hb])]
theorem qt (l:List En)(x:En):fS (l++[x])=(fS l).filter (fun t=>t != x.th)++(if x.kind=2 then [x.th] else []):=by
 unfold fS
 rw[List.length_append,List.length_singleton,List.range_succ,List.filterMap_append]
 congr 1
 ·rw[<-jZ]
  refine ib _ fun i hi=>?_
  exact yj l x i (List.mem_range.1 hi)
 ·have:se (l++[x]) l.length=if x.kind=2 then T x.th else V:=by
   unfold se
   rw[List.getElem?_append_right (X _),Nat.sub_self]
   simp only[List.getElem?_cons_zero]
   rw[cK,if_pos rfl,List.drop_of_length_le (by simp),ou]
   by_cases e:x.kind=2 <;> simp[e]
  simp only[List.filterMap_cons,List.filterMap_nil,this]
  by_cases e:x.kind=2 <;> simp[e]
theorem ES (l:List En):(ax l).q=fS l:=by
 refine gF (P:=fun l=>(ax l).q=fS l) ?_ ?_ l
 ·rfl
 ·intro l x ih
  rw[cM,qt,<-ih];rfl
theorem nM (n:Int):dC n []:=fun k x h=>by simp at h
theorem fL {n:Int}{l:List En}{x:En}:dC n (l++[x])↔dC n l/\ez n l x:=by
 constructor
 ·intro h
  refine⟨fun k y hk=>?_,?_⟩
  ·have hlt:k<l.length:=(List.getElem?_eq_some_iff.1 hk).1
   have:=h k y (by rw[List.getElem?_append_left hlt];exact hk)
   rwa [List.take_append_of_le_length (by omega)] at this
  ·have:=h l.length x (by simp)
   rwa [List.take_append_of_le_length (X _),List.take_length] at this
 ·rintro⟨h1,h2⟩ k y hk
  by_cases hlt:k<l.length
  ·rw[List.getElem?_append_left hlt] at hk
   rw[List.take_append_of_le_length (by omega)]
   exact h1 k y hk
  ·have hkl:k=l.length:=by
    have:=(List.getElem?_eq_some_iff.1 hk).1
    simp at this;omega
   subst hkl
   rw[List.getElem?_append_right (X _),Nat.sub_self] at hk
   simp at hk
   subst hk
   rw[List.take_append_of_le_length (X _),List.take_length]
   exact h2
def Ex (n:Int)(l:List En):Prop:=dC n l->(∀ t,cH (aB l t)=J↔((ax l).ow=t/\0<=t))/\(ax l).ow=eR l/\-1<=(ax l).ow/\(∀ x∈l,0<=x.th)
theorem eC {n:Int}(l:List En):Ex n l:=by
 refine gF (P:=Ex n) ?_ ?_ l
 ·intro _
  refine⟨fun t=>?_,rfl,by simp[ax,EH],by simp⟩
  simp only[ou,v8,EH]
  constructor
  ·intro h;simp[cH] at h
  ·rintro⟨h1,h2⟩;omega
 ·intro l x ih h
  obtain⟨hl,f0,f1,f2,fk⟩:=fL.1 h
  obtain⟨i1,i2,i3,i4⟩:=ih hl
  have hA:∀ t,cH (aB (l++[x]) t)=J↔((ax (l++[x])).ow=t/\0<=t):=by
   intro t
   rw[cK,cM]
   show _↔((if cH x.kind then x.th else if x.th=(ax l).ow then -1 else (ax l).ow)=t/\0<=t)
   by_cases ho:cH x.kind=J
   ·rw[if_pos ho]
    by_cases e:x.th=t
    ·subst e;rw[if_pos rfl];simp[ho,f0]
    ·rw[if_neg e,i1 t]
     constructor
     ·rintro⟨e1,e2⟩
      exfalso
      -- another one owns it: then x isn't one of these
      unfold dt at fk
      have hk:x.kind=3\/x.kind=5\/x.kind=8:=of_decide_eq_true ho
      rcases hk with hk | hk | hk
      ·rw[<-i2] at fk;omega
      ·have hx:cH (aB l x.th)=J:=by
        unfold cH;refine decide_eq_true ?_;omega
       have:=(i1 x.th).1 hx
       omega
      ·have hx:cH (aB l x.th)=J:=by
        unfold cH;refine decide_eq_true ?_;omega
       have:=(i1 x.th).1 hx
       omega
     ·rintro⟨e1,_⟩;exact absurd e1 e
   ·rw[if_neg ho]
    by_cases e:x.th=t
    ·subst e
     rw[if_pos rfl]
     constructor
     ·intro h2;exact absurd h2 ho
     ·rintro⟨e1,e2⟩
      exfalso
      split at e1 <;> omega
    ·rw[if_neg e,i1 t]
     constructor
     ·rintro⟨e1,e2⟩
      refine⟨?_,e2⟩
      rw[if_neg (by omega)];exact e1
     ·rintro⟨e1,e2⟩
      refine⟨?_,e2⟩
      split at e1 <;> omega
  have hI4:∀ y∈l++[x],0<=y.th:=by
   intro y hy
   rcases List.mem_append.1 hy with hy | hy
   ·exact i4 y hy
   ·simp at hy;subst hy;exact f0
  have hI3:-1<=(ax (l++[x])).ow:=by
   rw[cM]
   show -1<=(if cH x.kind then x.th else if x.th=(ax l).ow then -1 else (ax l).ow)
   split
   ·omega
   ·split <;> omega
  refine⟨hA,?_,hI3,hI4⟩
  unfold eR
  cases hf:(l++[x]).reverse.find? (fun y=>cH (aB (l++[x]) y.th)) with
  | some y=>
   have:=List.find?_some hf
   exact((hA y.th).1 this).1
  | none=>
   simp only
   rw[List.find?_eq_none] at hf
   by_cases hc:(ax (l++[x])).ow=-1
   ·exact hc
   ·exfalso
    have h2:=(hA (ax (l++[x])).ow).2 ⟨rfl,by omega⟩
    -- it has an entry,for its last one isn't 0
    have hex:∃ y∈l++[x],y.th=(ax (l++[x])).ow:=by
     by_cases hn:∃ y∈l++[x],y.th=(ax (l++[x])).ow
     ·exact hn
     ·exfalso
      have h0:∀ (m:List En),(∀ y∈m,¬ y.th=(ax (l++[x])).ow)->aB m (ax (l++[x])).ow=0:=by
       intro m
       refine gF (P:=fun m=>(∀ y∈m,¬ y.th=(ax (l++[x])).ow)->aB m (ax (l++[x])).ow=0) ?_ ?_ m
       ·intro _;rfl
       ·intro m z ihm hm
        rw[cK,if_neg (hm z (by simp))]
        exact ihm fun y hy=>hm y (by simp[hy])
      rw[h0 _ (fun y hy e=>hn ⟨y,hy,e⟩)] at h2
      simp[cH] at h2
    obtain⟨y,hy,e⟩:=hex
    have:=hf y (by rw[List.mem_reverse];exact hy)
    rw[e,h2] at this
    exact this rfl
theorem yK {n:Int}{l:List En}{x:En}(h:dC n l):ez n l x↔tX l x/\zS n (ax l) x:=by
 unfold ez zS
 rw[lq,ES,(eC l h).2.1]
 constructor
 ·rintro⟨a,b,c,d⟩;exact⟨c,a,b,d⟩
 ·rintro⟨c,a,b,d⟩;exact⟨a,b,c,d⟩
theorem ed {n:Int}{l:List En}{x:En}(h:dC n l)(hl:∀ y∈l,y.now=0)(hx:x.now=0)(hf:zS n (ax l) x):dC n (l++[x]):=by
 rw[fL]
 refine⟨h,(yK h).2 ⟨⟨by omega,?_⟩,hf⟩⟩
 cases hg:l.getLast? with
 | none=>trivial
 | some y=>
  have:=hl y (List.mem_of_getLast? hg)
  show y.now<=x.now
  omega
theorem kB {n:Int}(l:List En)(h:dC n l):(∀ t,t∈(ax l).q↔aB l t=2)/\(ax l).q.Nodup/\(∀ t∈(ax l).q,0<=t/\t<n):=by
 refine gF (P:=fun l=>dC n l->(∀ t,t∈(ax l).q↔aB l t=2)/\(ax l).q.Nodup/\(∀ t∈(ax l).q,0<=t/\t<n)) ?_ ?_ l h
 ·intro _
  simp[ax,EH,aB]
 ·intro l x ih h
  obtain⟨hl,f0,f1,f2,fk⟩:=fL.1 h
  obtain⟨i1,i2,i3⟩:=ih hl
  have e:(ax (l++[x])).q=(ax l).q.filter (fun t=>t != x.th)++(if x.kind=2 then [x.th] else []):=by rw[cM];rfl
  rw[e]
  have hm:∀ t,t∈(ax l).q.filter (fun t=>t != x.th)↔(t∈(ax l).q/\t≠x.th):=fun t=>by simp[List.mem_filter]
  refine⟨fun t=>?_,?_,fun t ht=>?_⟩
  ·rw[cK,List.mem_append,hm,i1]
   by_cases et:x.th=t
   ·subst et
    by_cases ek:x.kind=2 <;> simp[ek]
   ·rw[if_neg et]
    have et2:¬ t=x.th:=fun e=>et e.symm
    by_cases ek:x.kind=2 <;> simp[ek,et2]
  ·refine List.nodup_append.2 ⟨i2.filter _,by split <;> simp,fun a ha b hb=>?_⟩
   have:=(hm a).1 ha
   split at hb
   ·simp at hb;subst hb;exact this.2
   ·simp at hb
  ·rcases List.mem_append.1 ht with ht | ht
   ·exact i3 t ((hm t).1 ht).1
   ·split at ht
    ·simp at ht;subst ht;exact⟨f0,f1⟩
    ·simp at ht
theorem ke:∀ (k:Nat) (l:List Int),l.Nodup->(∀ t∈l,0<=t/\t<(k:Int))->l.length<=k
 | 0,l,_,h=>by
  cases l with
  | nil=>simp
  | cons q r=>have:=h q (by simp);omega
 | k+1,l,hd,h=>by
  have h1:=ke k (l.erase (k:Int)) (hd.erase _) (fun q hq=>by
   have hm:=hd.mem_erase_iff.1 hq
   have:=h q hm.2
   have:=hm.1
   omega)
  by_cases hm:(k:Int)∈l
  ·have:=List.length_erase_of_mem hm;omega
  ·rw[List.erase_of_not_mem hm] at h1;omega
theorem jg {q:List Int}{t:Int}(h:t ∉ q):q.filter (fun x=>x != t)=q:=by
 rw[List.filter_eq_self]
 intro a ha
 have:a≠t:=fun e=>h (e ▸ ha)
 simpa using this
theorem qG {q:List Int}{t:Int}(h:(t :: q).Nodup):(t :: q).filter (fun x=>x != t)=q:=by
 rw[List.filter_cons]
 simp only[bne_self_eq_false,Bool.false_eq_true,if_false]
 exact jg (List.nodup_cons.1 h).1
theorem kH {n:Int}(l:List En)(h:dC n l)(t:Int)(ht:aB l t≠0):0<=t/\t<n:=by
 revert ht
 refine gF (P:=fun l=>dC n l->aB l t≠0->0<=t/\t<n) ?_ ?_ l h
 ·intro _ h0;exact absurd rfl h0
 ·intro l x ih h h0
  obtain⟨hl,f0,f1,_⟩:=fL.1 h
  rw[cK] at h0
  split at h0
  ·omega
  ·exact ih hl h0
section
variable {n:Int}{l:List En}{x:En}
theorem iQ (h:dC n l)(hk:x.kind≠2)(hl:aB l x.th≠2):(ax (l++[x])).q=(ax l).q:=by
 rw[cM]
 show (ax l).q.filter _++_=_
 rw[jg (fun hm=>hl (((kB l h).1 _).1 hm)),if_neg hk,List.append_nil]
theorem BW (h:dC n l)(hk:x.kind=2)(hl:aB l x.th≠2):(ax (l++[x])).q=(ax l).q++[x.th]:=by
 rw[cM]
 show (ax l).q.filter _++_=_
 rw[jg (fun hm=>hl (((kB l h).1 _).1 hm)),if_pos hk]
theorem CH {rest:List Int}(h:dC n l)(hk:x.kind≠2)(hq:(ax l).q=x.th :: rest):(ax (l++[x])).q=rest:=by
 have hd:=(kB l h).2.1
 rw[cM]
 show (ax l).q.filter _++_=_
 rw[hq] at hd ⊢
 rw[qG hd,if_neg hk,List.append_nil]
theorem uA (hk:cH x.kind=J):(ax (l++[x])).ow=x.th:=by
 rw[cM]
 show (if cH x.kind then x.th else _)=_
 rw[if_pos hk]
theorem iw (h:dC n l)(h0:0<=x.th)(hk:cH x.kind=U)(hl:cH (aB l x.th)=U):(ax (l++[x])).ow=(ax l).ow:=by
 have h1:=(eC l h).1 x.th
 rw[cM]
 show (if cH x.kind then x.th else if x.th=(ax l).ow then -1 else (ax l).ow)=_
 rw[if_neg (by simp[hk])]
 by_cases e:x.th=(ax l).ow
 ·have:=h1.2 ⟨e.symm,h0⟩
  rw[hl] at this;cases this
 ·rw[if_neg e]
theorem AT (h:dC n l)(hk:cH x.kind=U)(hl:cH (aB l x.th)=J):(ax (l++[x])).ow=-1:=by
 have h1:=((eC l h).1 x.th).1 hl
 rw[cM]
 show (if cH x.kind then x.th else if x.th=(ax l).ow then -1 else (ax l).ow)=_
 rw[if_neg (by simp[hk]),if_pos h1.1.symm]
theorem AS (h:dC n l){s t:Int}(hs:cH (aB l s)=J)(ht:cH (aB l t)=J):s=t:=by
 have h1:=((eC l h).1 s).1 hs
 have h2:=((eC l h).1 t).1 ht
 omega
theorem BY (h:dC n l){t:Int}(ht:cH (aB l t)=J):(ax l).ow=t:=(((eC l h).1 t).1 ht).1
theorem bJ (k:Int)(s t:Nat)(c:Int)(h:s≠t):aB (l++[⟨k,(t:Int),c⟩]) (s:Int)=aB l s:=by
 rw[cK,if_neg (by show ¬ ((t:Int)=s);omega)]
theorem cG (k t c:Int):aB (l++[⟨k,t,c⟩]) t=k:=by rw[cK];simp
theorem eL {k t:Int}(h:∀ y∈l,y.now=0):∀ y∈l++[⟨k,t,0⟩],y.now=0:=by
 intro y hy
 rcases List.mem_append.1 hy with hy | hy
 ·exact h y hy
 ·simp at hy;subst hy;rfl
end
def kW (n:Int)(l:List En):Nat:=((List.range l.length).find? fun k=>match l[k]? with
 | some x=>!decide (ez n (l.take k) x)
 | none=>U).getD l.length
theorem mn {n:Int}{l:List En}(h:dC n l):kW n l=l.length:=by
 unfold kW
 have:((List.range l.length).find? fun k=>match l[k]? with
  | some x=>!decide (ez n (l.take k) x)
  | none=>U)=V:=by
  rw[List.find?_eq_none]
  intro k hk
  cases hx:l[k]? with
  | none=>simp
  | some x=>simp[h k x hx]
 rw[this];rfl
end Go.Proofs.YthdgehcghklflaaGreatDoor
namespace Go.Proofs.YthdgehcghklflaaGreatDoor
open Go.ChangeShapes Go.WideShapes Go.ChangeAt Go.RowKit
theorem vZ {k:IntKind}{w:World}{b off:Nat}{xs:List Int}(hc:∀ i,i<xs.length->w.cell? ⟨b,off+i,V⟩=T (.int k (aG xs i))):
 ∀ j v,(xs.map (Value.int k))[j]?=T v->w.cell? ((⟨b,off,V⟩:Addr).add j)=T v:=by
 intro j v hj
 have hl:j<xs.length:=by have:=(List.getElem?_eq_some_iff.1 hj).1;simpa using this
 rw[List.getElem?_map,gT hl] at hj
 have e:(⟨b,off,V⟩:Addr).add j=⟨b,off+j,V⟩:=by unfold Addr.add;split <;> simp_all
 rw[e,hc j hl,<-hj];rfl
def Fs (w:World)(v:Value)(xs:List Int):Prop:=
 (v=G V 0 0/\xs=[])\/∃ g off cap cs,v=G (T ⟨g,off,V⟩) xs.length cap/\xs.length<=cap/\cap<=maxLen/\Bk w g 3 cs/\off+cap<=cs.size/\∀ i,i<xs.length->cs[off+i]?=T (O Z (aG xs i))
section
variable {w w':World}{v:Value}{xs:List Int}
theorem Fs.zC (h:dQ .i64 3 w v xs):Fs w v xs:=by
 rcases h.2 with ⟨rfl,h0⟩ | ⟨g,cap,cur,rfl,hb,hg,hnc,hcm,hcs,htake⟩
 ·exact .inl ⟨rfl,List.eq_nil_of_length_eq_zero h0⟩
 ·refine .inr ⟨g,0,cap,cur,rfl,hnc,hcm,hg,by omega,fun i hi=>?_⟩
  have h1:=World.ownsRow.cellAt ⟨h.1,.inr ⟨g,cap,cur,rfl,hb,hg,hnc,hcm,hcs,htake⟩⟩ i (by omega)
  rw[List.getElem?_map,gT hi] at h1
  rw[Nat.zero_add,<-Bk.cell (cs:=cur) (t:=3) hg i,h1];rfl
theorem Fs.lt (h:Fs w v xs){g:Nat}(e:v.ownBlock=T g):g<w.heap.size:=by
 rcases h with ⟨rfl,_⟩ | ⟨g',off,cap,cs,rfl,_,_,hb,_⟩
 ·cases e
 ·simp only[Value.ownBlock,Option.some.injEq] at e;subst e;exact hb.lt
theorem Fs.bk (h:Fs w v xs){g:Nat}(e:v.ownBlock=T g):∃ cs,Bk w g 3 cs:=by
 rcases h with ⟨rfl,_⟩ | ⟨g',off,cap,cs,rfl,_,_,hb,_⟩
 ·cases e
 ·simp only[Value.ownBlock,Option.some.injEq] at e;subst e;exact⟨cs,hb⟩
theorem Fs.within {S:Nat->Prop}(h:Fs w v xs)(k:ag w w' S)(hn:∀ g,v.ownBlock=T g->¬ S g):Fs w' v xs:=by
 rcases h with ⟨rfl,rfl⟩ | ⟨g,off,cap,cs,rfl,h1,h2,hb,h3⟩
 ·exact .inl ⟨rfl,rfl⟩
 ·exact .inr ⟨g,off,cap,cs,rfl,h1,h2,hb.within k (hn g rfl),h3⟩
theorem Fs.AU (h:Fs w v xs):v.oneCell'=J:=by
 rcases h with ⟨rfl,_⟩ | ⟨g,off,cap,cs,rfl,_⟩ <;> rfl
theorem Fs.cut {x:Int}(h:Fs w v (x :: xs)):∃ g off cap,v=G (T ⟨g,off,V⟩) (xs.length+1) cap/\xs.length+1<=cap/\cap<=maxLen/\w.cell? ⟨g,off,V⟩=T (O Z x)/\
 (cap=1->Fs w (G (T ⟨g,off,V⟩) xs.length (cap-1)) xs)/\(cap≠1->Fs w (G (T ⟨g,off+1,V⟩) xs.length (cap-1)) xs):=by
 rcases h with ⟨_,h⟩ | ⟨g,off,cap,cs,rfl,h1,h2,hb,h3,h4⟩
 ·cases h
 ·simp only[List.length_cons] at h1 h4
  refine⟨g,off,cap,rfl,h1,h2,?_,fun e=>?_,fun e=>?_⟩
  ·rw[hb.cell];have:=h4 0 (by omega);rw[Nat.add_zero] at this;exact this
  ·exact .inr ⟨g,off,cap-1,cs,rfl,by omega,by omega,hb,by omega,fun i hi=>by omega⟩
  ·refine .inr ⟨g,off+1,cap-1,cs,rfl,by omega,by omega,hb,by omega,fun i hi=>?_⟩
   rw[show off+1+i=off+(i+1) by omega,h4 (i+1) (by omega)]
   rfl
theorem Fs.more {g off cap:Nat}{x:Int}(h:Fs w (G (T ⟨g,off,V⟩) xs.length cap) xs)(hr:xs.length+1<=cap):Fs (w.setCell ⟨g,off+xs.length,V⟩ (O Z x)) (G (T ⟨g,off,V⟩) (xs.length+1) cap) (xs++[x]):=by
 rcases h with ⟨h,_⟩ | ⟨g',off',cap',cs,e,h1,h2,hb,h3,h4⟩
 ·cases h
 ·simp only[Value.slice.injEq,Option.some.injEq,Addr.mk.injEq,and_true,true_and] at e
  obtain⟨⟨rfl,rfl⟩,rfl⟩:=e
  refine .inr ⟨g,off,cap,_,by simp,by simp;omega,h2,hb.put _ _,by simpa using h3,fun i hi=>?_⟩
  simp only[List.length_append,List.length_cons,List.length_nil] at hi
  rw[Array.getElem?_setIfInBounds]
  by_cases e:i=xs.length
  ·subst e
   rw[if_pos rfl,if_pos (by omega)]
   simp[aG]
  ·rw[if_neg (by omega),h4 i (by omega)]
   simp[aG,List.getD_eq_getElem?_getD,List.getElem?_append,show i<xs.length by omega]
end
end Go.Proofs.YthdgehcghklflaaGreatDoor
namespace Go.Proofs.YthdgehcghklflaaGreatDoor
open Go.ChangeShapes Go.WideShapes Go.ChangeAt Go.RowKit Go.Deep
def Up (w x:World):Prop:=Below w.heap.size w x
def Nb (t:TypeId)(w:World)(g:Nat)(x:En):Prop:=Bk w g t #[O Z x.kind,O Z x.th,O Z x.now]
theorem Nb.cells {t:TypeId}{w:World}{g:Nat}{x:En}(h:Nb t w g x):w.cell? ⟨g,0,V⟩=T (O Z x.kind)/\w.cell? ⟨g,1,V⟩=T (O Z x.th)/\w.cell? ⟨g,2,V⟩=T (O Z x.now):=⟨Bk.cell h 0,Bk.cell h 1,Bk.cell h 2⟩
theorem Nb.below {t:TypeId}{w w':World}{g:Nat}{x:En}(h:Nb t w g x)(hb:Below w.heap.size w w'):Nb t w' g x:=(hb.block g (Bk.lt h)).trans h
theorem Nb.made (t:TypeId)(w:World)(k h n:Int):Nb t (w.alloc (.cells #[O Z k,O Z h,O Z n] t)) w.heap.size ⟨k,h,n⟩:=Bk.made _ _ _
theorem pR.cut {w:World}{a:Option Addr}{l:List En}(h:pR w a l)(k:Nat):pR w a (l.take k):=by
 intro h0
 rw[List.length_take] at h0
 obtain⟨b,off,e,hlt,hc⟩:=h (by omega)
 refine⟨b,off,e,hlt,fun i x hi j hj=>hc i x ?_ j hj⟩
 rw[List.getElem?_take] at hi
 split at hi
 ·exact hi
 ·cases hi
end Go.Proofs.YthdgehcghklflaaGreatDoor
namespace Go.Proofs.YthdgehcghklflaaGreatDoor
def Nl (s:List UInt8):Prop:=∀ c∈s,c≠10
theorem Nl.app {a b:List UInt8}(ha:Nl a)(hb:Nl b):Nl (a++b):=fun c hc=>by
 rcases List.mem_append.1 hc with h | h
 ·exact ha c h
 ·exact hb c h
def Bf (l:List UInt8):Prop:=∀ c∈l,c≠32
theorem m8:∀ s:List UInt8,Bf s\/∃ t r,Bf t/\s=t++32 :: r
 | []=>.inl (by intro c h;cases h)
 | c :: s=>by
  by_cases h:c=32
  ·exact .inr ⟨[],s,(by intro c h;cases h),(by rw[h];rfl)⟩
  ·rcases m8 s with h1 | ⟨t,r,h1,rfl⟩
   ·exact .inl (by intro d hd;rcases List.mem_cons.1 hd with rfl | hd;exact h;exact h1 d hd)
   ·exact .inr ⟨c :: t,r,(by intro d hd;rcases List.mem_cons.1 hd with rfl | hd;exact h;exact h1 d hd),rfl⟩
theorem rB:∀ t:List UInt8,Bf t->Lib.index t [32]=-1
 | [],_=>by simp[Lib.index]
 | c :: t,h=>by
  have h1:=rB t fun d hd=>h d (List.mem_cons_of_mem _ hd)
  have h2:c≠32:=h c List.mem_cons_self
  unfold Lib.index
  rw[if_neg (by simp[List.isPrefixOf];exact fun e=>h2 e.symm),h1]
  rfl
theorem rC:∀ (t r:List UInt8),Bf t->Lib.index (t++32 :: r) [32]=t.length
 | [],r,_=>by simp[Lib.index,List.isPrefixOf]
 | c :: t,r,h=>by
  have h1:=rC t r fun d hd=>h d (List.mem_cons_of_mem _ hd)
  have h2:c≠32:=h c List.mem_cons_self
  show Lib.index (c :: (t++32 :: r)) [32]=_
  unfold Lib.index
  rw[if_neg (by simp[List.isPrefixOf];exact fun e=>h2 e.symm),h1,if_neg (by simp <;> omega)]
  simp
def bi (w0:List UInt8)(ws:List (List UInt8)):List UInt8:=w0++ws.flatMap fun w=>32 :: w
theorem aM:∀ (ws:List (List UInt8)) (w0:List UInt8),Bf w0->(∀ w∈ws,Bf w)->aq (bi w0 ws)=w0 :: ws
 | [],w0,h,_=>by unfold bi;simp;exact cJ w0 h
 | w :: ws,w0,h,hs=>by
  have ih:=aM ws w (hs w List.mem_cons_self) fun v hv=>hs v (List.mem_cons_of_mem _ hv)
  unfold bi at *
  simp only[List.flatMap_cons,List.cons_append]
  rw[fb w0 _ h,ih]
theorem kq:∀ (n:Nat),∀ c∈Lib.decDigits n,48<=c.toNat/\c.toNat<=57:=by
 intro n
 induction n using Nat.strongRecOn with
 | _ n ih=>
  intro c hc
  rw[Lib.decDigits] at hc
  by_cases h:n<10
  ·rw[dif_pos h] at hc
   obtain rfl:=List.mem_singleton.1 hc
   rw[UInt8.toNat_ofNat',Nat.mod_eq_of_lt (by omega)]
   omega
  ·rw[dif_neg h] at hc
   rcases List.mem_append.1 hc with hc | hc
   ·exact ih (n / 10) (by omega) c hc
   ·obtain rfl:=List.mem_singleton.1 hc
    rw[UInt8.toNat_ofNat',Nat.mod_eq_of_lt (by omega)]
    omega
theorem dv (n:Nat):Bf (Lib.decDigits n):=by
 intro c hc e
 have:=kq n c hc
 rw[e] at this
 exact absurd this (by decide)
theorem iy (n:Nat):∃ c r,Lib.decDigits n=c :: r/\48<=c.toNat/\c.toNat<=57/\(10<=n->49<=c.toNat):=by
 induction n using Nat.strongRecOn with
 | _ n ih=>
  rw[Lib.decDigits]
  by_cases h:n<10
  ·rw[dif_pos h]
   refine⟨_,[],rfl,?_⟩
   rw[UInt8.toNat_ofNat',Nat.mod_eq_of_lt (by omega)]
   omega
  ·rw[dif_neg h]
   obtain⟨c,r,e,h1,h2,h3⟩:=ih (n / 10) (by omega)
   rw[e]
   refine⟨c,_,rfl,h1,h2,fun _=>?_⟩
   by_cases h9:10<=n / 10
   ·exact h3 h9
   ·rw[Lib.decDigits,dif_pos (by omega)] at e
    injection e with e1 _
    rw[<-e1,UInt8.toNat_ofNat',Nat.mod_eq_of_lt (by omega)]
    omega
theorem oi:∀ (a b:List UInt8) (acc u:Nat),Lib.parseUint10 acc a=.ok u->Lib.parseUint10 acc (a++b)=Lib.parseUint10 u b
 | [],b,acc,u,h=>by simp[Lib.parseUint10] at h;subst h;rfl
 | c :: a,b,acc,u,h=>by
  simp only[Lib.parseUint10,List.cons_append] at h ⊢
  split at h
  ·split at h
   ·cases h
   ·split at h
    ·cases h
    ·rename_i h1 h2 h3
     rw[if_pos h1,if_neg h2,if_neg h3]
     exact oi a b _ u h
  ·cases h
theorem vD:∀ (n:Nat),n<18446744073709551616->Lib.parseUint10 0 (Lib.decDigits n)=.ok n:=by
 intro n
 induction n using Nat.strongRecOn with
 | _ n ih=>
  intro hn
  rw[Lib.decDigits]
  by_cases h:n<10
  ·rw[dif_pos h]
   have e:(UInt8.ofNat (48+n)).toNat=48+n:=by rw[UInt8.toNat_ofNat',Nat.mod_eq_of_lt (by omega)]
   simp only[Lib.parseUint10,e]
   rw[if_pos (by omega),if_neg (by omega),if_neg (by omega)]
   congr 1
   omega
  ·rw[dif_neg h,oi _ _ _ _ (ih (n / 10) (by omega) (by omega))]
   have e:(UInt8.ofNat (48+n % 10)).toNat=48+n % 10:=by rw[UInt8.toNat_ofNat',Nat.mod_eq_of_lt (by omega)]
   simp only[Lib.parseUint10,e]
   rw[if_pos (by omega),if_neg (by omega),if_neg (by omega)]
   congr 1
   omega
theorem rW (n:Nat)(h:n<9223372036854775808):Lib.atoiAll (Lib.decDigits n)=.ok n:=by
 obtain⟨c,r,e,h1,h2,-⟩:=iy n
 have hp:=vD n (by omega)
 rw[e] at hp ⊢
 unfold Lib.atoiAll Lib.parseMag
 simp only
 rw[if_neg (show ¬ (c.toNat=43\/c.toNat=45) by omega),if_neg (by simp),hp]
 simp only
 rw[if_neg (by omega),if_neg (by omega),if_neg (by omega)]
