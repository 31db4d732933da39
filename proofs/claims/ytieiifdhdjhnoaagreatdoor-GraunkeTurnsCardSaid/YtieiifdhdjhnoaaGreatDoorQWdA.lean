import Derived.Test.YtieiifdhdjhnoaaGreatDoorQMem
import Derived.Test.YtieiifdhdjhnoaaGreatDoorProg
import Derived.Lib.Hide
import Derived.WalkKit
import Derived.ProofKit
import Derived.WalkLawsBesides
import Derived.Lib.ItoaNum
import Derived.Lib.Strings
import Derived.Deep.RegionLaw
import Derived.Laws.IdiomStrings
import Derived.Test.YtieiifdhdjhnoaaGreatDoorRows
import Derived.Test.YtieiifdhdjhnoaaGreatDoorShelf
import Derived.Lib.AtoiErrMem
import Derived.Lib.AtoiAll
import Derived.ArgAppend
import Derived.Deep.RegionLawGrows
import Derived.Deep.RegionHeld3
import Derived.Deep.Onto
import Derived.Lib.SmallJoins
import Derived.BigQuiet
import Derived.Deep.CutBlock
set_option linter.unusedVariables false
set_option maxHeartbeats 1000000
set_option maxRecDepth 100000
open Go.Value renaming int->O,slice->G,pointer->D
open Go.IntKind renaming i64->Z
open Option renaming none->V,some->T
open Bool renaming false->U,true->J
open Go.Lib renaming hid->C
open Go.RowKit.Below renaming refl->M
open Nat renaming le_refl->A
namespace Go.Proofs.YtieiifdhdjhnoaaGreatDoor
section
open Go.ChangeShapes Go.WideShapes Go.ChangeAt Go.RowKit
def bs (l:List UInt8):Value:=.string ⟨l.toArray⟩
theorem eO (hs:List UInt8)(n:Nat)(h:n<hs.length)(w:World):(Instr.index 9 (.string ⟨hs.toArray⟩) (O Z n)).run Tryz.prog w=.ok (O .u8 ((hs.getD n 0).toNat:Int)) w:=by
 have hu:=Tryz.underlying9
 have h2:(n:Int)<(hs.length:Int):=by omega
 go_simp
 rfl
theorem cZ (a b:List UInt8):(⟨a.toArray⟩:ByteArray)++⟨b.toArray⟩=⟨(a++b).toArray⟩:=by
 apply ByteArray.ext
 simp
theorem jD (a b:List UInt8)(h:a.length+b.length<1000000)(w:World):(binOp .add 9 (.string ⟨a.toArray⟩) (.string ⟨b.toArray⟩)).run Tryz.prog w=.ok (.string ⟨(a++b).toArray⟩) w:=by
 have hu:=Tryz.underlying9
 go_simp
 rw[if_neg (by omega),cZ]
theorem bW {a b:List UInt8}(h:a=b):Ending.returned (.string ⟨a.toArray⟩)=.returned (bs b):=by rw[h];rfl
theorem oq (n:Int)(h0:-9223372036854775808<=n)(h1:n<=9223372036854775807):(Lib.itoa n).length<=30:=by
 have pg:∀ (m u:Nat),u<10 ^ (m+1)->(Lib.decDigits u).length<=m+1:=by
  intro m
  induction m with
  | zero=>intro u hu;rw[Lib.decDigits,dif_pos (by simpa using hu)];simp
  | succ m ih=>
   intro u hu
   rw[Lib.decDigits]
   by_cases h:u<10
   ·rw[dif_pos h];simp
   ·rw[dif_neg h]
    have h2:u / 10<10 ^ (m+1):=by
     rw[Nat.div_lt_iff_lt_mul (by decide)]
     rw[Nat.pow_succ] at hu
     exact hu
    have:=ih _ h2
    simp
    omega
 have e:(10:Nat) ^ (19+1)=100000000000000000000:=by decide
 unfold Lib.itoa
 split
 ·have:=pg 19 n.natAbs (by rw[e];omega)
  simp;omega
 ·have:=pg 19 n.toNat (by rw[e];omega)
  omega
theorem sL (W:World)(b:Nat)(c:UInt8)(h:W.cell? ⟨b,0,V⟩=T (O .u8 (c.toNat:Int))):
 (convert 270 9 (G (T ⟨b,0,V⟩) 1 1)).run Tryz.prog W=.ok (.string ⟨#[c]⟩) W:=
 run_convert_bytes_back W 270 9 5 ⟨b,0,V⟩ 1 [c] Tryz.underlying270 Tryz.underlying5 Tryz.underlying9 (fun j hj=>by
  simp only[List.length_cons,List.length_nil] at hj
  obtain rfl:j=0:=by omega
  have e:(⟨b,0,V⟩:Addr).add 0=⟨b,0,V⟩:=by unfold Addr.add;simp
  rw[e]
  exact h)
theorem oA (n:Nat)(h:n<5000000000000000):(Lib.decDigits n).length<=30:=by
 have:=oq n (by omega) (by omega)
 unfold Lib.itoa at this
 rw[if_neg (by omega)] at this
 simpa using this
theorem FR:∀ (n:Nat) (w:World),n<5000000000000000->Calls Tryz.prog 165 #[O Z n] w fun e w'=>e=.returned (bs (Lib.decDigits n))/\Below w.heap.size w w':=by
 intro n
 induction n using Nat.strongRecOn with
 | _ n ih=>
  intro w hn
  by_cases h:n<10
  ·have E:=C (show Lib.decDigits n=[UInt8.ofNat (48+n)] by rw[Lib.decDigits,dif_pos h])
   clear ih
   have hi:(n:Int)<10:=by omega
   have hc:((UInt8.ofNat (48+n)).toNat:Int)=48+(n:Int):=by
    rw[UInt8.toNat_ofNat',Nat.mod_eq_of_lt (by omega)];omega
   have hcv:=sL (w.alloc (.cells #[O .u8 (48+(n:Int))] 5)) w.heap.size (UInt8.ofNat (48+n)) (by rw[hc];exact Bk.cell (Bk.made w _ _) 0)
   clear hc
   generalize UInt8.ofNat (48+n)=c at *
   go_enter Tryz.func165,Tryz.ntmps165
   go_wp2
   go_ret
   exact⟨by rw[E.out];rfl,(M _ _).alloc (A _) _⟩
  ·have E:=C (show Lib.decDigits n=Lib.decDigits (n / 10)++[UInt8.ofNat (48+n % 10)] by rw[Lib.decDigits,dif_neg h])
   have hsz:¬ 9223372036854775807<(Lib.decDigits (n / 10)).length+1:=by have:=oA (n / 10) (by omega);omega
   have HI:=C (fun W=>ih (n / 10) (by omega) W (by omega))
   clear ih
   have hm:n % 10<10:=by omega
   have hl:=oA (n / 10) (by omega)
   have hc:((UInt8.ofNat (48+n % 10)).toNat:Int)=48+((n % 10:Nat):Int):=by
    rw[UInt8.toNat_ofNat',Nat.mod_eq_of_lt (by omega)];omega
   have hcv:∀ W b,W.cell? ⟨b,0,V⟩=T (O .u8 (48+((n % 10:Nat):Int)))->(convert 270 9 (G (T ⟨b,0,V⟩) 1 1)).run Tryz.prog W=.ok (.string ⟨#[UInt8.ofNat (48+n % 10)]⟩) W:=fun W b h=>sL W b _ (by rw[hc];exact h)
   have hd:¬ (n:Int)<10:=by omega
   have hcat:=cZ (Lib.decDigits (n / 10)) [UInt8.ofNat (48+n % 10)]
   have hq1:(n:Int) / 10=((n / 10:Nat):Int):=by omega
   have hq2:(n:Int) % 10=((n % 10:Nat):Int):=by omega
   have hq3:(n:Int).tmod 10=((n % 10:Nat):Int):=by rw[Int.tmod_eq_emod_of_nonneg (by omega)];omega
   have hw1:IntKind.i64.wrap ((n / 10:Nat):Int)=((n / 10:Nat):Int):=IntWalk.i64_in _ (by omega)
   have hw2:IntKind.i64.wrap ((n % 10:Nat):Int)=((n % 10:Nat):Int):=IntWalk.i64_in _ (by omega)
   have hw3:IntKind.i64.wrap (48+((n % 10:Nat):Int))=48+((n % 10:Nat):Int):=IntWalk.i64_in _ (by omega)
   have hw4:IntKind.u8.wrap (48+((n % 10:Nat):Int))=48+((n % 10:Nat):Int):=by simp[IntKind.wrap,IntKind.signed,IntKind.bits];omega
   clear hc
   generalize UInt8.ofNat (48+n % 10)=c at *
   generalize Lib.decDigits (n / 10)=l at *
   generalize hmm:n % 10=m at *
   generalize hqq:n / 10=q at *
   clear hmm hqq
   go_enter Tryz.func165,Tryz.ntmps165
   go_wp2
   go_region_law (first | (go_simp;go_at_call 165;refine(HI.out _).mono ?_;rintro e y ⟨rfl,hy⟩;have hcy:∀ b o,b<_->y.cell? ⟨b,o,V⟩=_:=fun b o h=>hy.cell (p:=⟨b,o,V⟩) h;unfold bs))
   all_goals
    clear hq1 hq2 hq3 hw1 hw2 hw3 hw4 hcv
    go_wp2
    go_ret
    refine⟨by rw[E.out];rfl,?_⟩
    first | exact(((M _ _).alloc (A _) _).drew).trans (hy.mono (by simp)) | exact(ez hy).alloc (ez hy).size _
theorem cH (n:Nat)(h:n<5000000000):(Lib.decDigits n).length<=30:=oA n (by omega)
theorem vZ (n:Nat)(w:World)(h:n<5000000000):Calls Tryz.prog 165 #[O Z n] w fun e w'=>e=.returned (bs (Lib.decDigits n))/\Below w.heap.size w w':=FR n w (by omega)
theorem aB (n:Nat):Lib.itoa (n:Int)=Lib.decDigits n:=by
 unfold Lib.itoa
 rw[if_neg (by omega)]
 rfl
theorem jQ (n:Nat)(w:World)(h:n<5000000000):Calls Tryz.prog 165 #[O Z n] w fun e w'=>e=.returned (.string ⟨(Lib.decDigits n).toArray⟩)/\Below w.heap.size w w':=vZ n w h
theorem bM (a b:List UInt8)(m n:Nat)(ha:a.length<=m)(hb:b.length<=n)(hm:m<=1000:=by decide)(hn:n<=1000:=by decide):
 ∃ z,z=a++b/\(⟨a.toArray⟩:ByteArray)++⟨b.toArray⟩=⟨z.toArray⟩/\¬ 9223372036854775807<a.length+b.length/\z.length<=m+n:=
 ⟨a++b,rfl,cZ a b,by omega,by simp;omega⟩
theorem nU (s:List UInt8)(f i:Nat)(h:f<=i)(hi:i<=s.length)(w:World):(Instr.slice 9 (.string ⟨s.toArray⟩) (T (O Z f)) (T (O Z i)) V).run Tryz.prog w=.ok (.string ⟨((s.take i).drop f).toArray⟩) w:=by
 have hu:=Tryz.underlying9
 go_simp
 apply ByteArray.ext
 rw[ByteArray.data_extract]
 apply Array.ext'
 simp[List.drop_take]
def gS (P:Program)(K:Value->World->Prop):Result Next->Prop
 | .ok (.value v) W'=>K v W'
 | .ok .skip W'=>K undef W'
 | .ok (.enter f args) W'=>Calls P f args W' fun e W2=>∃ v,e=.returned v/\K v W2
 | _=>False
def dq (P:Program)(ops:Array Oper)(K:Value->World->Prop)(o:Oper)(a:Act)(W:World):Prop:=
 if Region.wanted o (yielded ops a.tmps)=J then gS P K ((execOp a.eval o).run P W) else K undef W
theorem fz {P:Program}{ops:Array Oper}{F:Value->World->Prop}{K:Value->World->Prop}{o:Oper}{a:Act}{W:World}(h:bU P ops F o a W)(hK:∀ v W',F v W'->Below W.heap.size W W'->K v W'):dq P ops K o a W:=by
 unfold bU at h
 unfold dq
 by_cases hw:Region.wanted o (yielded ops a.tmps)=J
 ·rw[if_pos hw] at h ⊢
  generalize (execOp a.eval o).run P W=r at *
  cases r with
  | ok x W'=>
   cases x <;> simp only[kf,gS] at h ⊢
   ·exact hK _ _ h.1 h.2
   ·exact hK _ _ h.1 h.2
   ·exact h.mono fun e W2 ⟨v,he,h1,h2⟩=>⟨v,he,hK _ _ h1 h2⟩
  | halt x W'=>simp only[kf] at h
 ·rw[if_neg hw] at h ⊢
  exact hK _ _ h (M _ _)
theorem bh {P:Program}{ops:Array Oper}{K:Value->World->Prop}{o:Oper}{a:Act}{W:World}(hg:o.guard=V)(h:gS P K ((execOp a.eval o).run P W)):dq P ops K o a W:=by
 unfold dq
 rw[if_pos (by simp[Region.wanted,hg])]
 exact h
theorem gP {P:Program}{ops:Array Oper}{K K':Value->World->Prop}{o:Oper}{a:Act}{W:World}(h:dq P ops K o a W)(hK:∀ v W',K v W'->K' v W'):dq P ops K' o a W:=by
 unfold dq at *
 by_cases hw:Region.wanted o (yielded ops a.tmps)=J
 ·rw[if_pos hw] at h ⊢
  generalize (execOp a.eval o).run P W=r at *
  cases r with
  | ok x W'=>
   cases x <;> simp only[gS] at h ⊢
   ·exact hK _ _ h
   ·exact hK _ _ h
   ·exact h.mono fun e W2 ⟨v,he,h1⟩=>⟨v,he,hK _ _ h1⟩
  | halt x W'=>simp only[gS] at h
 ·rw[if_neg hw] at h ⊢
  exact hK _ _ h
theorem eA {P:Program}{ops:Array Oper}{Q:Exit->Act->World->Prop}{id:Nat}{a:Act}{w:World}(hm:P.follows .mixedOrders=J)(hr:mC ops=J)(I:(Nat->Bool)->(Nat->Value)->World->Prop)
 (h0:I (fun _=>U) (fun _=>undef) w.drew)
 (hop:∀ i o,ops[i]?=T o->∀ (d:Nat->Bool) (vs:Nat->Value) W,I d vs W->d i=U->(∀ j∈bd ops i,d j=J)->dq P ops (fun v W'=>I (fun j=>if j=i then J else d j) (fun j=>if j=i then v else vs j) W') o (aC ops a (fun _=>J) vs) W)
 (hend:∀ (d:Nat->Bool) (vs:Nat->Value) W,I d vs W->(∀ i,i<ops.size->d i=J)->Q .normal (aC ops a (fun _=>J) vs) W):(Code.region id ops J).wp P Q a w:=by
 have hR:∀ i o,ops[i]?=T o->tZ o.op=J/\(∀ t∈o.looksAt ops,∀ j,fw ops t=T j->j∈bd ops i)/\(∀ x,o.dst=T x->fw ops x=T i)/\∀ j∈bd ops i,j<i:=by
  intro i o ho
  have hi:i<ops.size:=(Array.getElem?_eq_some_iff.1 ho).1
  unfold mC at hr
  have h:=List.all_eq_true.1 hr i (List.mem_range.2 hi)
  rw[ho] at h
  simp only[Bool.and_eq_true] at h
  refine⟨h.1.1.1,fun t ht j hj=>?_,fun x hx=>?_,fun j hj=>?_⟩
  ·have:=List.all_eq_true.1 h.1.1.2 t ht
   rw[hj] at this
   simpa using this
  ·have:=h.1.2
   rw[hx] at this
   simpa using this
  ·have:=List.all_eq_true.1 h.2 j hj
   simpa using this
 have hN:∀ t i o,ops[i]?=T o->fw ops t=T i->o.dst=T t:=by
  intro t i o ho h
  have:=List.find?_some h
  simp only[BK,ho,Option.bind_some,beq_iff_eq] at this
  exact this
 refine oM hm (fun listed a' W=>∃ vs:Nat->Value,listed.size=ops.size/\a'=aC ops a (fun i=>listed.getD i U) vs/\I (fun i=>listed.getD i U) vs W) ?_ ?_ ?_
 ·have e:(fun i=>(Array.replicate ops.size U).getD i U)=fun _=>U:=by
   funext i
   rw[Array.getD_eq_getD_getElem?,Array.getElem?_replicate]
   split <;> rfl
  refine⟨fun _=>undef,by simp,?_,?_⟩
  ·rw[e,nt]
  ·rw[e];exact h0
 ·rintro listed a' W i ⟨vs,hsz,rfl,hI⟩ hi
  have hfree:=iq hi
  have hready:=hi
  unfold Region.ready at hready
  rw[List.mem_filter,List.mem_range] at hready
  obtain⟨hlt,hc⟩:=hready
  simp only[Bool.and_eq_true] at hc
  have hc2:=hc.2
  have ho:ops[i]?=T ops[i]:=Array.getElem?_eq_getElem hlt
  rw[ho] at hc2
  simp only[Option.map_some,Option.getD_some] at hc2
  rw[<-Array.all_toList,List.all_eq_true] at hc2
  generalize ops[i]=o at *
  obtain⟨r1,r2,r3,r4⟩:=hR i o ho
  have hdep:∀ j∈bd ops i,listed.getD j U=J:=by
   intro j hj
   unfold bd at hj
   rw[ho] at hj
   simp only[List.mem_map,List.mem_filter] at hj
   obtain⟨e,⟨he,hb⟩,rfl⟩:=hj
   have:=hc2 e he
   simpa [hb] using this
  obtain⟨s1,s2⟩:=jY ops a (fun i=>listed.getD i U) vs o r1 fun t ht j hj=>hdep j (r2 t ht j hj)
  have hif:listed.getD i U=U:=by
   rw[Array.getD_eq_getD_getElem?,<-Array.getElem?_toList,hfree];rfl
  have hl:=hop i o ho (fun i=>listed.getD i U) vs W hI hif hdep
  have eg:(fun j=>(listed.setIfInBounds i J).getD j U)=fun j=>if j=i then J else listed.getD j U:=by
   funext j
   rw[Array.getD_eq_getD_getElem?,Array.getElem?_setIfInBounds,Array.getD_eq_getD_getElem?]
   by_cases e:j=i
   ·subst e
    simp[hsz,hlt]
   ·rw[if_neg (fun e2=>e e2.symm),if_neg e]
  have next:∀ v W',I (fun j=>if j=i then J else listed.getD j U) (fun j=>if j=i then v else vs j) W'->∃ vs':Nat->Value,(listed.setIfInBounds i J).size=ops.size/\(aC ops a (fun i=>listed.getD i U) vs).put o.dst v=aC ops a (fun j=>(listed.setIfInBounds i J).getD j U) vs'/\I (fun j=>(listed.setIfInBounds i J).getD j U) vs' W':=by
   intro v W' hK
   refine⟨fun j=>if j=i then v else vs j,by simpa using hsz,?_,?_⟩
   ·rw[eg]
    exact pT ops a _ vs i o ho r3 (fun t ht=>hN t i o ho ht) hif v
   ·rw[eg];exact hK
  unfold wpOp
  rw[ho]
  simp only
  unfold dq at hl
  rw[s2]
  by_cases hw:Region.wanted o (yielded ops (aC ops a (fun _=>J) vs).tmps)=J
  ·rw[if_pos hw] at hl ⊢
   refine .inl ?_
   unfold Oper.wp
   rw[s1]
   generalize (execOp (aC ops a (fun _=>J) vs).eval o).run P W=r at *
   cases r with
   | ok x W'=>
    cases x <;> simp only[gS] at hl
    ·rw[Oper.upon_value];exact next _ _ hl
    ·rw[Oper.upon_skip];exact next _ _ hl
    ·rw[Oper.upon_enter]
     refine hl.mono ?_
     rintro e W2 ⟨v,rfl,h1⟩
     exact next _ _ h1
   | halt x W'=>simp only[gS] at hl
  ·rw[if_neg hw] at hl ⊢
   exact next _ _ hl
 ·rintro listed a' W ⟨vs,hsz,rfl,hI⟩ he
  have hall:∀ n i,i<n->i<ops.size->listed.getD i U=J:=by
   intro n
   induction n with
   | zero=>intro i h;omega
   | succ n ih=>
    intro i h hi
    by_cases hin:i<n
    ·exact ih i hin hi
    ·obtain rfl:i=n:=by omega
     cases hl:listed.getD i U with
     | true=>rfl
     | false=>
      exfalso
      have hm2:i∈Region.ready .any ops listed:=by
       unfold Region.ready
       rw[List.mem_filter,List.mem_range]
       refine⟨hi,?_⟩
       have ho:ops[i]?=T ops[i]:=Array.getElem?_eq_getElem hi
       have hd:=(hR i _ ho).2.2.2
       rw[ho]
       simp only[Option.map_some,Option.getD_some,Bool.and_eq_true]
       constructor
       ·rw[Array.getD_eq_getD_getElem?] at hl ⊢
        rw[Array.getElem?_eq_getElem (by omega)] at hl ⊢
        simp at hl ⊢
        exact hl
       ·rw[<-Array.all_toList,List.all_eq_true]
        intro e he
        by_cases hb:Region.binds .any e=J
        ·have hmem:e.on∈bd ops i:=by
          unfold bd
          rw[ho]
          simp only[List.mem_map,List.mem_filter]
          exact⟨e,⟨he,hb⟩,rfl⟩
         have hlt:=hd _ hmem
         rw[ih e.on hlt (by omega)]
         simp
        ·simp[hb]
      rw[he] at hm2
      cases hm2
  have e:aC ops a (fun i=>listed.getD i U) vs=aC ops a (fun _=>J) vs:=by
   have pg:(aC ops a (fun i=>listed.getD i U) vs).tmps=(aC ops a (fun _=>J) vs).tmps:=by
    apply Array.ext_getElem?
    intro t
    rw[fG,fG]
    cases h2:fw ops t with
    | none=>rfl
    | some i=>
     have hlt:i<ops.size:=List.mem_range.1 (List.mem_of_find?_eq_some h2)
     simp[hall (i+1) i (by omega) hlt]
   have e1:aC ops a (fun i=>listed.getD i U) vs=⟨(aC ops a (fun i=>listed.getD i U) vs).tmps,a.defers⟩:=rfl
   have e2:aC ops a (fun _=>J) vs=⟨(aC ops a (fun _=>J) vs).tmps,a.defers⟩:=rfl
   rw[e1,e2,pg]
  rw[e]
  exact hend _ vs W hI fun i hi=>hall (i+1) i (by omega) hi
def qZ (P:Program)(ops:Array Oper)(F:Nat->Value->World->Prop)(lit:(Nat->Value)->Act)(w:World)(sk:Nat->Bool):List Oper->Nat->Prop
 | [],_=>True
 | o :: rest,i=>(sk i=U->∀ (vs:Nat->Value) W,Below w.heap.size w W->(∀ j∈bd ops i,sk j=U->F j (vs j) W)->bU P ops (F i) o (lit vs) W)/\qZ P ops F lit w sk rest (i+1)
theorem nu {P:Program}{ops:Array Oper}{F:Nat->Value->World->Prop}{lit:(Nat->Value)->Act}{w:World}{sk:Nat->Bool}:∀ (l:List Oper) (n:Nat),qZ P ops F lit w sk l n->∀ i o,l[i]?=T o->sk (n+i)=U->∀ (vs:Nat->Value) W,Below w.heap.size w W->(∀ j∈bd ops (n+i),sk j=U->F j (vs j) W)->bU P ops (F (n+i)) o (lit vs) W
 | [],n,_,i,o,h=>by simp at h
 | x :: l,n,hx,0,o,h=>by
  simp at h
  subst h
  exact hx.1
 | x :: l,n,hx,i+1,o,h=>by
  have:=nu l (n+1) hx.2 i o (by simpa using h)
  rw[show n+1+i=n+(i+1) by omega] at this
  exact this
theorem oL {P:Program}{l:List Oper}{Q:Exit->Act->World->Prop}{id:Nat}{a:Act}{w:World}(na ns:Nat)(t:TypeId)(cs0:Array Value)(put:World->Nat->World)(done:World->Nat->Prop)(lit:(Nat->Value)->Act)(F:Nat->Value->World->Prop)
 (hm:P.follows .mixedOrders=J) (hr:mC l.toArray=J) (hns:(na != ns && (bd l.toArray ns).contains na)=J) (hlen:(decide (na<l.length) && decide (ns<l.length))=J) (hlit:∀ vs,aC l.toArray a (fun _=>J) vs=lit vs)
 (hst:∀ i v W W',F i v W->Below W.heap.size W W'->F i v W')
 (hst2:∀ i v W b,F i v W->Bk W b t cs0->F i v (put W b))
 (hd1:∀ W W' b,done W b->Below W.heap.size W W'->done W' b)
 (hbel:∀ W b,w.heap.size<=b->Below w.heap.size w W->Below w.heap.size w (put W b))
 (hdone:∀ W b,Bk W b t cs0->done (put W b) b)
 (hnew:∀ o,l[na]?=T o->∀ (vs:Nat->Value) W,Below w.heap.size w W->bU P l.toArray (fun v W'=>∃ b,v=D (T ⟨b,0,V⟩)/\w.heap.size<=b/\Bk W' b t cs0) o (lit vs) W)
 (hsto:∀ o,l[ns]?=T o->∀ (vs:Nat->Value) W b,Below w.heap.size w W->(∀ j∈bd l.toArray ns,(decide (j=na) || decide (j=ns))=U->F j (vs j) W)->vs na=D (T ⟨b,0,V⟩)->Bk W b t cs0->dq P l.toArray (fun _ W'=>W'=put W b) o (lit vs) W)
 (hop:qZ P l.toArray F lit w (fun j=>decide (j=na) || decide (j=ns)) l 0)
 (hend:∀ (vs:Nat->Value) W b,Below w.heap.size w W->(∀ i,i<l.length->(decide (i=na) || decide (i=ns))=U->F i (vs i) W)->vs na=D (T ⟨b,0,V⟩)->w.heap.size<=b->done W b->Q .normal (lit vs) W):(Code.region id l.toArray J).wp P Q a w:=by
 simp only[Bool.and_eq_true,bne_iff_ne,ne_eq,List.contains_iff_mem,decide_eq_true_eq] at hns hlen
 obtain⟨hne,hdn⟩:=hns
 refine eA hm hr (fun d vs W=>Below w.heap.size w W/\(∀ i,d i=J->(decide (i=na) || decide (i=ns))=U->F i (vs i) W)/\(d na=J->∃ b,vs na=D (T ⟨b,0,V⟩)/\w.heap.size<=b/\((d ns=U/\Bk W b t cs0)\/(d ns=J/\done W b)))/\(d ns=J->d na=J)) ?_ ?_ ?_
 ·exact⟨(M _ _).drew,(fun i h=>by cases h),(fun h=>by cases h),(fun h=>by cases h)⟩
 ·rintro i o ho d vs W ⟨hB,hF,hA,hS⟩ hdi hdep
  have ho':l[i]?=T o:=by simpa using ho
  rw[hlit]
  by_cases hina:i=na
  ·subst hina
   have hdns:d ns=U:=by
    cases e:d ns with
    | false=>rfl
    | true=>rw[hS e] at hdi;cases hdi
   refine fz (hnew o ho' vs W hB) ?_
   rintro v W' ⟨b,hv,hb,hk⟩ hbw
   dsimp only
   refine⟨hB.trans (hbw.mono hB.size),fun j hj hsk=>?_,fun _=>⟨b,by rw[if_pos rfl];exact hv,hb,.inl ⟨by rw[if_neg (fun e=>hne e.symm)];exact hdns,hk⟩⟩,fun _=>by rw[if_pos rfl]⟩
   have hji:j≠i:=fun e=>by subst e;simp at hsk
   rw[if_neg hji] at hj ⊢
   exact hst j _ _ _ (hF j hj hsk) hbw
  ·by_cases hins:i=ns
   ·subst hins
    have hdna:=hdep na hdn
    obtain⟨b,hv,hb,⟨_,hk⟩ | ⟨h,_⟩⟩:=hA hdna
    ·refine gP (hsto o ho' vs W b hB (fun j hj hsk=>hF j (hdep j hj) hsk) hv hk) ?_
     rintro v W' rfl
     dsimp only
     refine⟨hbel W b hb hB,fun j hj hsk=>?_,fun _=>⟨b,by rw[if_neg hne];exact hv,hb,.inr ⟨by rw[if_pos rfl],hdone W b hk⟩⟩,fun _=>by rw[if_neg hne];exact hdna⟩
     have hji:j≠i:=fun e=>by subst e;simp at hsk
     rw[if_neg hji] at hj ⊢
     exact hst2 j _ _ _ (hF j hj hsk) hk
    ·rw[hdi] at h;cases h
   ·have hsk0:(decide (i=na) || decide (i=ns))=U:=by simp[hina,hins]
    have:=nu l 0 hop i o ho' (by rw[Nat.zero_add];exact hsk0) vs W hB (by rw[Nat.zero_add];exact fun j hj hsk=>hF j (hdep j hj) hsk)
    rw[Nat.zero_add] at this
    refine fz this ?_
    intro v W' hv hbw
    dsimp only
    refine⟨hB.trans (hbw.mono hB.size),fun j hj hsk=>?_,fun h=>?_,fun h=>?_⟩
    ·by_cases e:j=i
     ·subst e;rw[if_pos rfl];exact hv
     ·rw[if_neg e] at hj ⊢
      exact hst j _ _ _ (hF j hj hsk) hbw
    ·rw[if_neg (fun e=>hina e.symm)] at h ⊢
     obtain⟨b,h1,h2,h3⟩:=hA h
     rw[if_neg (fun e=>hins e.symm)]
     refine⟨b,h1,h2,?_⟩
     rcases h3 with ⟨h3,h4⟩ | ⟨h3,h4⟩
     ·exact .inl ⟨h3,(hbw.block b h4.lt).trans h4⟩
     ·exact .inr ⟨h3,hd1 _ _ _ h4 hbw⟩
    ·rw[if_neg (fun e=>hins e.symm)] at h
     rw[if_neg (fun e=>hina e.symm)]
     exact hS h
 ·rintro d vs W ⟨hB,hF,hA,hS⟩ hall
  rw[hlit]
  obtain⟨b,h1,h2,⟨h3,_⟩ | ⟨_,h4⟩⟩:=hA (hall na (by simpa using hlen.1))
  ·rw[hall ns (by simpa using hlen.2)] at h3;cases h3
  ·exact hend vs W b hB (fun i hi hsk=>hF i (hall i (by simpa using hi)) hsk) h1 h2 h4
theorem jq {R:World->World->Prop}{ps:List (Nat×(Value->World->Prop))}{l:List Value}(h:∀ x∈ps,∀ v W W',x.2 v W->R W W'->x.2 v W'):∀ i v W W',nD ps l i v W->R W W'->nD ps l i v W':=by
 intro i v W W' hm hb
 unfold nD at *
 cases hl:ps.lookup i with
 | none=>rw[hl] at hm;exact hm
 | some p=>
  rw[hl] at hm
  have:(i,p)∈ps:=by
   clear hm h
   induction ps with
   | nil=>cases hl
   | cons x ps ih=>
    obtain⟨k,q⟩:=x
    rw[List.lookup_cons] at hl
    by_cases e:i=k
    ·subst e;simp at hl;subst hl;exact List.mem_cons_self
    ·have e2:(i==k)=U:=by simpa using e
     rw[e2] at hl
     exact List.mem_cons_of_mem _ (ih hl)
  exact h _ this v W W' hm hb
def qq (w:World)(q cap:Nat)(xs:List Int):Prop:=w.ownsRow 0 3 1 (G (T ⟨q,0,V⟩) xs.length cap) xs.length (xs.map (Value.int .i64))
section
variable {w w':World}{q cap:Nat}{xs:List Int}
theorem qq.lt (h:qq w q cap xs):q<w.heap.size:=(World.ownsRow.lt h q rfl).2
theorem qq.at_ (h:qq w q cap xs){i:Nat}(hi:i<xs.length):w.cell? ⟨q,i,V⟩=T (O Z (aD xs i)):=by
 rw[World.ownsRow.cellAt h i (by omega),List.getElem?_map,iH hi];rfl
theorem qq.bk (h:qq w q cap xs):∃ cs,Bk w q 3 cs/\cs.size=cap/\xs.length<=cap/\cap<=maxLen:=by
 rcases h.2 with ⟨h',_⟩ | ⟨g',cap',cur,h',hb,hg,hnc,hcm,hcs,htake⟩
 ·simp at h'
 ·simp only[Value.slice.injEq,Option.some.injEq,Addr.mk.injEq,and_true,true_and] at h'
  obtain⟨rfl,rfl⟩:=h'
  exact⟨cur,hg,by omega,hnc,hcm⟩
theorem qq.free (h:qq w q cap xs)(i:Nat):w.frozen? ⟨q,i,V⟩=U:=by obtain⟨cs,hb,_⟩:=h.bk;exact hb.free i
theorem qq.put (h:qq w q cap xs)(i:Nat)(v:Int):qq (w.setCell ⟨q,i,V⟩ (O Z v)) q cap (xs.set i v):=by
 have:=(World.ownsRow.stored h i (O Z v)).1
 unfold qq;rw[List.length_set,List.map_set];exact this
theorem qq.kept {r:Option Nat}(h:qq w q cap xs)(hg:w.grownBy w' r)(hne:T q≠r):qq w' q cap xs:=World.ownsRow.kept h hg (.inr hne)
theorem qq.within {S:Nat->Prop}(h:qq w q cap xs)(k:ag w w' S)(hn:¬ S q):qq w' q cap xs:=by
 rcases h.2 with ⟨h',_⟩ | ⟨g',cap',cur,h',hb,hg,hnc,hcm,hcs,htake⟩
 ·simp at h'
 ·simp only[Value.slice.injEq,Option.some.injEq,Addr.mk.injEq,and_true,true_and] at h'
  obtain⟨rfl,rfl⟩:=h'
  exact⟨h.1,.inr ⟨q,cap,cur,rfl,hb,(k.block q (Array.getElem?_eq_some_iff.1 hg).1 hn).trans hg,hnc,hcm,hcs,htake⟩⟩
theorem qq.FT (h:Bk w q 3 (xs.map (Value.int .i64)).toArray)(hn:xs.length<=maxLen):qq w q xs.length xs:=
 ⟨by simp,.inr ⟨q,xs.length,_,rfl,Nat.zero_le _,h,A _,hn,by simp,by simp[List.take_of_length_le]⟩⟩
theorem qq.made (w:World)(n:Nat)(hn:n<=maxLen):qq (w.alloc (.cells (madeCells #[O Z 0] n) 3)) w.heap.size n (List.replicate n 0):=by
 have h:=Bk.made w 3 (madeCells #[O Z 0] n)
 have e:madeCells #[O Z 0] n=((List.replicate n (0:Int)).map (Value.int .i64)).toArray:=by
  apply Array.ext
  ·simp[madeCells]
  ·intro i h1 h2;simp[madeCells,Nat.mod_one]
 have h2:Bk (w.alloc (.cells (madeCells #[O Z 0] n) 3)) w.heap.size 3 ((List.replicate n (0:Int)).map (Value.int .i64)).toArray:=by rw[<-e];exact h
 have:=qq.FT h2 (by simpa using hn)
 simpa using this
theorem qq.news (h:qq w q cap xs):∀ j u,(xs.map (Value.int .i64))[j]?=T u->w.cell? ((⟨q,0,V⟩:Addr).add j)=T u:=by
 intro j u hj
 have hj':j<xs.length:=by have:=(List.getElem?_eq_some_iff.1 hj).1;simpa using this
 rw[List.getElem?_map,iH hj'] at hj
 have e:(⟨q,0,V⟩:Addr).add j=⟨q,j,V⟩:=by unfold Addr.add;split <;> simp_all
 rw[e,h.at_ hj',<-hj];rfl
end
theorem lh:(Tryz.prog.info? 3).map (fun i=>(i.zero,i.size,i.bytes))=T (T (O Z 0),1,8):=by kernel_rfl
section
variable {P:Program}{ops:Array Oper}{rest:List Oper}{o:Oper}{a:Act}{w:World}{Q:Exit->Act->World->Prop}{base:Nat}{t:TypeId}{size:Nat}{v:Value}{n:Nat}{xs:List Value}
theorem D5 (hgd:o.guard=V)(s x:Operand)(ts:TypeId)(ho:o.op=Op.call { callee:=Callee.builtin Builtin.append,args:=#[s,x],argTypes:=#[ts,ts] })
 (z:Value) (bytes:Nat) (ht:P.underlying ts=T (.slice t)) (hi:(P.info? t).map (fun i=>(i.zero,i.size,i.bytes))=T (T z,size,bytes)) (hz:z.cells.size=size) (hsz:0<size) (hby:bytes<=200)
 (h:w.ownsRow base t size v n xs) (hs:a.eval s=v) (news:List Value) (hnl:news.length=size) (hone:∀ u∈news,u.oneCell'=J) (B:Nat) (hx:a.eval x=G (T ⟨B,0,V⟩) 1 1)
 (hB:∀ j u,news[j]?=T u->w.cell? ((⟨B,0,V⟩:Addr).add j)=T u) (hl:n<1000000000) (hbase:base<=w.heap.size)
 (hK:∀ v' w',w'.ownsRow base t size v' (n+1) (xs++news)->w.grownBy w' v.ownBlock->(v'.ownBlock=v.ownBlock\/v'.ownBlock=T w.heap.size)->wpList P ops Q rest (a.put o.dst v') w'):
 wpList P ops Q (o :: rest) a w:=by
 obtain⟨i0,hi0,hz0,hz1,hz2⟩:=info_parts hi
 refine wpList_append_own_at _ hgd s x ts ho base t i0 _ size bytes ht hi0 hz0 hz1 hz2 hz hsz v n xs hs h ⟨B,0,V⟩ 1 1 news hx (by omega) hB hone (by simp only[maxLen];omega)
  (by
   have:(n+1)*bytes<=1000000001*200:=Nat.mul_le_mul (by omega) hby
   omega) hbase fun v' w' h2 h3 _ h5=>hK v' w' h2 h3 h5
theorem wR {k:IntKind}{xs:List Int}(hgd:o.guard=V)(s x:Operand)(ts:TypeId)(ho:o.op=.call { callee:=.builtin .append,args:=#[s,x],argTypes:=#[ts,ts] })
 (bytes:Nat) (ht:P.underlying ts=T (.slice t)) (hi:(P.info? t).map (fun i=>(i.zero,i.size,i.bytes))=T (T (.int k 0),1,bytes)) (hby:bytes<=8)
 (h:ef k t w v xs) (hs:a.eval s=v) (y:Int) (hx:a.eval x=G (T ⟨w.heap.size,0,V⟩) 1 1) (hl:xs.length<1000000001)
 (hK:∀ v' w',ef k t w' v' (xs++[y])->w.grownBy w' v.ownBlock->(v'.ownBlock=v.ownBlock\/v'.ownBlock=T (w.heap.size+1))->wpList P ops Q rest (a.put o.dst v') w'):
 wpList P ops Q (o :: rest) a (w.alloc (.cells #[.int k y] t)):=by
 obtain⟨i0,hi0,hz0,hz1,hz2⟩:=info_parts hi
 refine wpList_append_own_at _ hgd s x ts ho 0 t i0 _ 1 bytes ht hi0 hz0 hz1 hz2 rfl (by omega) v xs.length (xs.map (Value.int k)) hs (h.alloc _) ⟨w.heap.size,0,V⟩ 1 1 [.int k y] hx rfl (cell_one_new _ _ _) (ints_oneCell k [y]) (by simp only[maxLen];omega) ?_ (Nat.zero_le _) ?_
 ·have:(xs.length+1)*bytes<=1000000002*8:=Nat.mul_le_mul (by omega) hby
  omega
 ·intro v' w' hown hgr _ hloc
  refine hK v' w' ?_ ?_ ?_
  ·unfold ef;simpa using hown
  ·exact cF (dY _ _ _) hgr (.inl rfl)
  ·simpa using hloc
end
def iv (i:aU):Value:=.agg #[O Z i.op,O Z i.d,O Z i.s,O Z i.t,O Z i.u,O Z i.a,O .u32 i.k,O Z i.pl]
theorem Af (a b c d:List UInt8)(h1:a=c)(h2:b=d):Ending.returned (.tuple #[.string ⟨a.toArray⟩,.string ⟨b.toArray⟩])=.returned (.tuple #[bs c,bs d]):=by rw[h1,h2];rfl
theorem A2 (op:Int)(h:op<1\/13<op)(w:World):
 Calls Tryz.prog 147 #[O Z op] w fun e w'=>e=.returned (.tuple #[bs (bE op),bs (cP op)])/\w=w':=by
 rcases cw op with rfl|rfl|rfl|rfl|rfl|rfl|rfl|rfl|rfl|rfl|rfl|rfl|rfl|rfl|rfl|rfl|rfl|rfl|rfl|rfl|rfl | hn
 rotate_right
 ·obtain⟨n1,n2,n3,n4,n5,n6,n7,n8,n9,n10,n11,n12,n13,n16,n17,n18,n19,n20,n21,n22,n23⟩:=hn
  have en:bE op=[]:=by unfold bE;simp[*]
  have eh:cP op=[]:=by unfold cP;simp[*]
  have E:=C en
  have F:=C eh
  clear en eh
  have b16:(op==16)=U:=by simpa using n16
  have b17:(op==17)=U:=by simpa using n17
  have b18:(op==18)=U:=by simpa using n18
  have b19:(op==19)=U:=by simpa using n19
  have b20:(op==20)=U:=by simpa using n20
  have b21:(op==21)=U:=by simpa using n21
  have b22:(op==22)=U:=by simpa using n22
  have b23:(op==23)=U:=by simpa using n23
  clear n1 n2 n3 n4 n5 n6 n7 n8 n9 n10 n11 n12 n13 n16 n17 n18 n19 n20 n21 n22 n23
  go_enter Tryz.func147,Tryz.ntmps147
  go_wp2
  go_ret2
  exact⟨Af _ _ _ _ E.out.symm F.out.symm,rfl⟩
 all_goals first | (exfalso;omega) | skip
 all_goals
  go_enter Tryz.func147,Tryz.ntmps147
  go_wp2
  go_ret2
  exact⟨rfl,rfl⟩
theorem zw (op:Int)(w:World):
 Calls Tryz.prog 110 #[O Z op] w fun e w'=>e=.returned (.tuple #[bs (bE op),bs (cP op)])/\w=w':=by
 by_cases h:op<1\/13<op
 ·have hm:=C (A2 op h w)
  have b1:(op==1)=U:=by simp;omega
  have b2:(op==2)=U:=by simp;omega
  have b3:(op==3)=U:=by simp;omega
  have b4:(op==4)=U:=by simp;omega
  have b5:(op==5)=U:=by simp;omega
  have b6:(op==6)=U:=by simp;omega
  have b7:(op==7)=U:=by simp;omega
  have b8:(op==8)=U:=by simp;omega
  have b9:(op==9)=U:=by simp;omega
  have b10:(op==10)=U:=by simp;omega
  have b11:(op==11)=U:=by simp;omega
  have b12:(op==12)=U:=by simp;omega
  have b13:(op==13)=U:=by simp;omega
  go_enter Tryz.func110,Tryz.ntmps110
  go_wp2_with fail
  refine hm.out.mono ?_
  rintro e w' ⟨rfl,rfl⟩
  go_wp2
  go_ret2
  exact⟨rfl,rfl⟩
 ·rcases cw op with rfl|rfl|rfl|rfl|rfl|rfl|rfl|rfl|rfl|rfl|rfl|rfl|rfl|rfl|rfl|rfl|rfl|rfl|rfl|rfl|rfl | hn
  rotate_right
  ·exfalso;omega
  all_goals first | (exfalso;omega) | skip
  all_goals
   go_enter Tryz.func110,Tryz.ntmps110
   go_wp2
   go_ret2
   exact⟨rfl,rfl⟩
theorem A4 (op:Int)(p:Int)(w:World):
 Calls Tryz.prog 148 #[O Z op] w fun e w'=>e=.returned (.tuple #[O Z (fb op 75),O Z (eC op 75 p)])/\w=w':=by
 by_cases h:op=5\/op=6\/op=12\/op=13\/op=21
 ·rcases h with rfl|rfl|rfl|rfl|rfl
  all_goals
   go_enter Tryz.func148,Tryz.ntmps148
   go_wp2
   go_ret2
   exact⟨rfl,rfl⟩
 ·have b5:(op==5)=U:=by simp;omega
  have b6:(op==6)=U:=by simp;omega
  have b12:(op==12)=U:=by simp;omega
  have b13:(op==13)=U:=by simp;omega
  have b21:(op==21)=U:=by simp;omega
  have E:=C (show fb op 75=0 by unfold fb;simp;omega)
  have F:=C (show eC op 75 p=4294967296 by unfold eC;simp;omega)
  go_enter Tryz.func148,Tryz.ntmps148
  go_wp2
  go_ret2
  exact⟨by rw[E.out,F.out];rfl,rfl⟩
theorem Do (op c p:Int)(hc:Dy c)(w:World):
 Calls Tryz.prog 111 #[O Z op,O .u8 c,O Z p] w fun e w'=>e=.returned (.tuple #[O Z (fb op c),O Z (eC op c p)])/\w=w':=by
 rcases hc with rfl|rfl|rfl|rfl|rfl|rfl|rfl
 rotate_right
 ·by_cases h:op=21
  ·subst h
   by_cases hp:p<0
   ·have E:=C (show eC 21 80 p=0 by unfold eC;simp[hp])
    have hq:¬ (0:Int)<=p:=by omega
    go_enter Tryz.func111,Tryz.ntmps111
    go_wp2
    go_ret2
    exact⟨by rw[E.out];first | rfl | (rw[Int.max_eq_right (show p<=0 by omega)];rfl),rfl⟩
   ·have E:=C (show eC 21 80 p=p by unfold eC;simp;omega)
    have hq:(0:Int)<=p:=by omega
    go_enter Tryz.func111,Tryz.ntmps111
    go_wp2
    go_ret2
    exact⟨by rw[E.out];first | rfl | (rw[Int.max_eq_left (show 0<=p by omega)];rfl),rfl⟩
  ·have b21:(op==21)=U:=by simpa using h
   have E:=C (show eC op 80 p=p by unfold eC;simp[h])
   have F:=C (show fb op 80=0 by unfold fb;simp[h])
   go_enter Tryz.func111,Tryz.ntmps111
   go_wp2
   go_ret2
   exact⟨by rw[E.out,F.out];rfl,rfl⟩
 rotate_right
 ·have H:=C (A4 op p w)
  go_enter Tryz.func111,Tryz.ntmps111
  go_wp2_with fail
  refine H.out.mono ?_
  rintro e w' ⟨rfl,rfl⟩
  go_wp2
  go_ret2
  exact⟨rfl,rfl⟩
 all_goals
  go_enter Tryz.func111,Tryz.ntmps111
  go_wp2
  go_ret2
  exact⟨rfl,rfl⟩
theorem Gu (i:aU)(c:Int)(hc:Dy c)(k0:0<=i.k)(k1:i.k<4294967296)(w:World):
 Calls Tryz.prog 112 #[iv i,O .u8 c] w fun e w'=>e=.returned (O Z (aW i c))/\Below w.heap.size w w':=by
 obtain⟨op,d,s,t,u,a,k,pl⟩:=i
 simp only at k0 k1
 unfold iv
 rcases hc with rfl|rfl|rfl|rfl|rfl|rfl|rfl
 all_goals
  go_enter Tryz.func112,Tryz.ntmps112
  go_wp2
  go_ret
  exact⟨rfl,(M _ _).alloc (A _) _⟩
theorem Gt (i:aU)(c v:Int)(hc:Dy c)(w:World):
 Calls Tryz.prog 113 #[iv i,O .u8 c,O Z v] w fun e w'=>e=.returned (iv (cO i c v))/\Below w.heap.size w w':=by
 obtain⟨op,d,s,t,u,a,k,pl⟩:=i
 unfold iv
 rcases hc with rfl|rfl|rfl|rfl|rfl|rfl|rfl
 ·go_enter Tryz.func113,Tryz.ntmps113
  go_wp2
  refine bodyPost_ret (v:=.agg #[O Z op,O Z v,O Z s,O Z t,O Z u,O Z a,O .u32 k,O Z pl]) (by simp[results,Tryz.results113,go_sem]) rfl ⟨rfl,?_⟩
  exact((M _ _).alloc (A _) _).alloc (by simp) _
 ·go_enter Tryz.func113,Tryz.ntmps113
  go_wp2
  refine bodyPost_ret (v:=.agg #[O Z op,O Z d,O Z v,O Z t,O Z u,O Z a,O .u32 k,O Z pl]) (by simp[results,Tryz.results113,go_sem]) rfl ⟨rfl,?_⟩
  exact((M _ _).alloc (A _) _).alloc (by simp) _
 ·go_enter Tryz.func113,Tryz.ntmps113
  go_wp2
  refine bodyPost_ret (v:=.agg #[O Z op,O Z d,O Z s,O Z v,O Z u,O Z a,O .u32 k,O Z pl]) (by simp[results,Tryz.results113,go_sem]) rfl ⟨rfl,?_⟩
  exact((M _ _).alloc (A _) _).alloc (by simp) _
 ·go_enter Tryz.func113,Tryz.ntmps113
  go_wp2
  refine bodyPost_ret (v:=.agg #[O Z op,O Z d,O Z s,O Z t,O Z v,O Z a,O .u32 k,O Z pl]) (by simp[results,Tryz.results113,go_sem]) rfl ⟨rfl,?_⟩
  exact((M _ _).alloc (A _) _).alloc (by simp) _
 ·go_enter Tryz.func113,Tryz.ntmps113
  go_wp2
  refine bodyPost_ret (v:=.agg #[O Z op,O Z d,O Z s,O Z t,O Z u,O Z v,O .u32 k,O Z pl]) (by simp[results,Tryz.results113,go_sem]) rfl ⟨rfl,?_⟩
  exact((M _ _).alloc (A _) _).alloc (by simp) _
 ·go_enter Tryz.func113,Tryz.ntmps113
  go_wp2
  refine bodyPost_ret (v:=.agg #[O Z op,O Z d,O Z s,O Z t,O Z u,O Z a,O .u32 (v % 4294967296),O Z pl]) (by simp[results,Tryz.results113,go_sem]) rfl ⟨rfl,?_⟩
  exact((M _ _).alloc (A _) _).alloc (by simp) _
 ·go_enter Tryz.func113,Tryz.ntmps113
  go_wp2
  refine bodyPost_ret (v:=.agg #[O Z op,O Z d,O Z s,O Z t,O Z u,O Z a,O .u32 k,O Z v]) (by simp[results,Tryz.results113,go_sem]) rfl ⟨rfl,?_⟩
  exact((M _ _).alloc (A _) _).alloc (by simp) _
def fp (op:Int):Bool:=decide (16<=op) && decide (op<=23)
end
section
def aF (l:List En)(t:Int):Int:=l.foldl (fun k x=>if x.th=t then x.kind else k) 0
theorem pK (t:Int):aF [] t=0:=rfl
theorem cU (l:List En)(x:En)(t:Int):aF (l++[x]) t=if x.th=t then x.kind else aF l t:=by simp[aF,List.foldl_append]
def tY (l:List En)(i:Nat):Option Int:=match l[i]? with
 | some x=>if x.kind=2/\aF l x.th=2/\aF (l.drop (i+1)) x.th=0 then T x.th else V
 | none=>V
def gD (l:List En):List Int:=(List.range l.length).filterMap (tY l)
def dk (k:Int):Bool:=decide (k=3\/k=5\/k=8)
def fe (l:List En):Int:=match l.reverse.find? (fun x=>dk (aF l x.th)) with
 | some x=>x.th
 | none=>-1
def vJ (l:List En)(x:En):Prop:=0<=x.now/\match l.getLast? with
 | some y=>y.now<=x.now
 | none=>True
def dC (last:Int)(q:List Int)(ow:Int)(x:En):Prop:=
 (x.kind=1/\(last=0\/last=6\/last=7\/last=10))\/((x.kind=2\/x.kind=7)/\last=1)\/(x.kind=3/\last=2/\q.head?=T x.th/\ow=-1)\/(x.kind=4/\last=2)\/
 (x.kind=5/\last=3)\/(x.kind=6/\last=4)\/(x.kind=8/\last=5)\/(x.kind=9/\last=8)\/(x.kind=10/\last=9)
instance (last:Int) (q:List Int) (ow:Int) (x:En):Decidable (dC last q ow x):=by unfold dC;infer_instance
instance (l:List En) (x:En):Decidable (vJ l x):=by
 unfold vJ
 cases l.getLast? <;> infer_instance
def eN (n:Int)(l:List En)(x:En):Prop:=0<=x.th/\x.th<n/\vJ l x/\dC (aF l x.th) (gD l) (fe l) x
instance (n:Int) (l:List En) (x:En):Decidable (eN n l x):=by unfold eN;infer_instance
def dD (n:Int)(l:List En):Prop:=∀ k x,l[k]?=T x->eN n (l.take k) x
structure Fa where
 la:Int->Int
 q:List Int
 ow:Int
def GG:Fa:=⟨fun _=>0,[],-1⟩
def Bw (a:Fa)(x:En):Fa:=
 ⟨fun t=>if x.th=t then x.kind else a.la t,a.q.filter (fun t=>t != x.th)++(if x.kind=2 then [x.th] else []),if dk x.kind then x.th else if x.th=a.ow then -1 else a.ow⟩
def ay (l:List En):Fa:=l.foldl Bw GG
def BJ (n:Int)(a:Fa)(x:En):Prop:=0<=x.th/\x.th<n/\dC (a.la x.th) a.q a.ow x
theorem cW (l:List En)(x:En):ay (l++[x])=Bw (ay l) x:=by simp[ay,List.foldl_append]
theorem yi:ay []=GG:=rfl
theorem ib {α:Type}{P:List α->Prop}(h0:P [])(h1:∀ l x,P l->P (l++[x]))(l:List α):P l:=by
 have:∀ n (l:List α),l.length=n->P l:=by
  intro n
  induction n with
  | zero=>intro l h;rw[List.eq_nil_of_length_eq_zero h];exact h0
  | succ n ih=>
   intro l h
   have hne:l≠[]:=fun e=>by rw[e] at h;simp at h
   rw[<-List.dropLast_concat_getLast hne]
   exact h1 _ _ (ih _ (by simp[h]))
 exact this _ l rfl
theorem mE (l:List En):(ay l).la=aF l:=by
 refine ib (P:=fun l=>(ay l).la=aF l) ?_ ?_ l
 ·rfl
 ·intro l x ih
  funext t
  rw[cW,cU]
  show (if x.th=t then x.kind else (ay l).la t)=_
  rw[ih]
theorem Ai (l:List En)(x:En)(i:Nat)(hi:i<l.length):tY (l++[x]) i=(tY l i).filter (fun t=>t != x.th):=by
 unfold tY
 rw[List.getElem?_append_left hi,List.getElem?_eq_getElem hi]
 simp only
 have hd:(l++[x]).drop (i+1)=l.drop (i+1)++[x]:=by rw[List.drop_append_of_le_length (by omega)]
 rw[hd,cU,cU]
 generalize l[i]=y
 by_cases e:x.th=y.th
 ·rw[if_pos e,if_pos e]
  rw[if_neg (by omega)]
  split
  ·simp only[Option.filter_some]
   have:(y.th != x.th)=U:=by simp[e]
   rw[this];rfl
  ·rfl
 ·rw[if_neg e,if_neg e]
  split
  ·simp only[Option.filter_some]
   have:(y.th != x.th)=J:=by simp;exact fun h=>e h.symm
   rw[this];rfl
  ·rfl
theorem lx {α β:Type}(f:α->Option β)(p:β->Bool)(l:List α):l.filterMap (fun a=>(f a).filter p)=(l.filterMap f).filter p:=by
 induction l with
 | nil=>rfl
 | cons a l ih=>
  simp only[List.filterMap_cons,ih]
  cases h:f a with
  | none=>simp
  | some b=>
   simp only[Option.filter_some]
   cases hp:p b <;> simp[hp]
theorem iP {α β:Type}{f g:α->Option β}:∀ l:List α,(∀ a∈l,f a=g a)->l.filterMap f=l.filterMap g
 | [],_=>rfl
 | a :: l,h=>by
  rw[List.filterMap_cons,List.filterMap_cons,h a (by simp),iP l fun b hb=>h b (by simp[hb])]
theorem r9 (l:List En)(x:En):gD (l++[x])=(gD l).filter (fun t=>t != x.th)++(if x.kind=2 then [x.th] else []):=by
 unfold gD
 rw[List.length_append,List.length_singleton,List.range_succ,List.filterMap_append]
 congr 1
 ·rw[<-lx]
  refine iP _ fun i hi=>?_
  exact Ai l x i (List.mem_range.1 hi)
 ·have:tY (l++[x]) l.length=if x.kind=2 then T x.th else V:=by
   unfold tY
   rw[List.getElem?_append_right (A _),Nat.sub_self]
   simp only[List.getElem?_cons_zero]
   rw[cU,if_pos rfl,List.drop_of_length_le (by simp),pK]
   by_cases e:x.kind=2 <;> simp[e]
  simp only[List.filterMap_cons,List.filterMap_nil,this]
  by_cases e:x.kind=2 <;> simp[e]
theorem GR (l:List En):(ay l).q=gD l:=by
 refine ib (P:=fun l=>(ay l).q=gD l) ?_ ?_ l
 ·rfl
 ·intro l x ih
  rw[cW,r9,<-ih];rfl
theorem pk (n:Int):dD n []:=fun k x h=>by simp at h
theorem gb {n:Int}{l:List En}{x:En}:dD n (l++[x])↔dD n l/\eN n l x:=by
 constructor
 ·intro h
  refine⟨fun k y hk=>?_,?_⟩
  ·have hlt:k<l.length:=(List.getElem?_eq_some_iff.1 hk).1
   have:=h k y (by rw[List.getElem?_append_left hlt];exact hk)
   rwa [List.take_append_of_le_length (by omega)] at this
  ·have:=h l.length x (by simp)
   rwa [List.take_append_of_le_length (A _),List.take_length] at this
 ·rintro⟨h1,h2⟩ k y hk
  by_cases hlt:k<l.length
  ·rw[List.getElem?_append_left hlt] at hk
   rw[List.take_append_of_le_length (by omega)]
   exact h1 k y hk
  ·have hkl:k=l.length:=by
    have:=(List.getElem?_eq_some_iff.1 hk).1
    simp at this;omega
   subst hkl
   rw[List.getElem?_append_right (A _),Nat.sub_self] at hk
   simp at hk
   subst hk
   rw[List.take_append_of_le_length (A _),List.take_length]
   exact h2
def GA (n:Int)(l:List En):Prop:=dD n l->(∀ t,dk (aF l t)=J↔((ay l).ow=t/\0<=t))/\(ay l).ow=fe l/\-1<=(ay l).ow/\(∀ x∈l,0<=x.th)
theorem eP {n:Int}(l:List En):GA n l:=by
 refine ib (P:=GA n) ?_ ?_ l
 ·intro _
  refine⟨fun t=>?_,rfl,by simp[ay,GG],by simp⟩
  simp only[pK,yi,GG]
  constructor
  ·intro h;simp[dk] at h
  ·rintro⟨h1,h2⟩;omega
 ·intro l x ih h
  obtain⟨hl,f0,f1,f2,fk⟩:=gb.1 h
  obtain⟨i1,i2,i3,i4⟩:=ih hl
  have hA:∀ t,dk (aF (l++[x]) t)=J↔((ay (l++[x])).ow=t/\0<=t):=by
   intro t
   rw[cU,cW]
   show _↔((if dk x.kind then x.th else if x.th=(ay l).ow then -1 else (ay l).ow)=t/\0<=t)
   by_cases ho:dk x.kind=J
   ·rw[if_pos ho]
    by_cases e:x.th=t
    ·subst e;rw[if_pos rfl];simp[ho,f0]
    ·rw[if_neg e,i1 t]
     constructor
     ·rintro⟨e1,e2⟩
      exfalso
      unfold dC at fk
      have hk:x.kind=3\/x.kind=5\/x.kind=8:=of_decide_eq_true ho
      rcases hk with hk | hk | hk
      ·rw[<-i2] at fk;omega
      ·have hx:dk (aF l x.th)=J:=by
        unfold dk;refine decide_eq_true ?_;omega
       have:=(i1 x.th).1 hx
       omega
      ·have hx:dk (aF l x.th)=J:=by
        unfold dk;refine decide_eq_true ?_;omega
       have:=(i1 x.th).1 hx
       omega
     ·rintro⟨e1,_⟩;exact absurd e1 e
   ·rw[if_neg ho]
    by_cases e:x.th=t
    ·subst e
     rw[if_pos rfl]
     constructor
     ·intro h2;exact absurd h2 ho
     ·rintro⟨e1,e2⟩
      exfalso
      split at e1 <;> omega
    ·rw[if_neg e,i1 t]
     constructor
     ·rintro⟨e1,e2⟩
      refine⟨?_,e2⟩
      rw[if_neg (by omega)];exact e1
     ·rintro⟨e1,e2⟩
      refine⟨?_,e2⟩
      split at e1 <;> omega
  have hI4:∀ y∈l++[x],0<=y.th:=by
   intro y hy
   rcases List.mem_append.1 hy with hy | hy
   ·exact i4 y hy
   ·simp at hy;subst hy;exact f0
  have hI3:-1<=(ay (l++[x])).ow:=by
   rw[cW]
   show -1<=(if dk x.kind then x.th else if x.th=(ay l).ow then -1 else (ay l).ow)
   split
   ·omega
   ·split <;> omega
  refine⟨hA,?_,hI3,hI4⟩
  unfold fe
  cases hf:(l++[x]).reverse.find? (fun y=>dk (aF (l++[x]) y.th)) with
  | some y=>
   have:=List.find?_some hf
   exact((hA y.th).1 this).1
  | none=>
   simp only
   rw[List.find?_eq_none] at hf
   by_cases hc:(ay (l++[x])).ow=-1
   ·exact hc
   ·exfalso
    have h2:=(hA (ay (l++[x])).ow).2 ⟨rfl,by omega⟩
    have hex:∃ y∈l++[x],y.th=(ay (l++[x])).ow:=by
     by_cases hn:∃ y∈l++[x],y.th=(ay (l++[x])).ow
     ·exact hn
     ·exfalso
      have h0:∀ (m:List En),(∀ y∈m,¬ y.th=(ay (l++[x])).ow)->aF m (ay (l++[x])).ow=0:=by
       intro m
       refine ib (P:=fun m=>(∀ y∈m,¬ y.th=(ay (l++[x])).ow)->aF m (ay (l++[x])).ow=0) ?_ ?_ m
       ·intro _;rfl
       ·intro m z ihm hm
        rw[cU,if_neg (hm z (by simp))]
        exact ihm fun y hy=>hm y (by simp[hy])
      rw[h0 _ (fun y hy e=>hn ⟨y,hy,e⟩)] at h2
      simp[dk] at h2
    obtain⟨y,hy,e⟩:=hex
    have:=hf y (by rw[List.mem_reverse];exact hy)
    rw[e,h2] at this
    exact this rfl
theorem AK {n:Int}{l:List En}{x:En}(h:dD n l):eN n l x↔vJ l x/\BJ n (ay l) x:=by
 unfold eN BJ
 rw[mE,GR,(eP l h).2.1]
 constructor
 ·rintro⟨a,b,c,d⟩;exact⟨c,a,b,d⟩
 ·rintro⟨c,a,b,d⟩;exact⟨a,b,c,d⟩
theorem eI {n:Int}{l:List En}{x:En}(h:dD n l)(hl:∀ y∈l,y.now=0)(hx:x.now=0)(hf:BJ n (ay l) x):dD n (l++[x]):=by
 rw[gb]
 refine⟨h,(AK h).2 ⟨⟨by omega,?_⟩,hf⟩⟩
 cases hg:l.getLast? with
 | none=>trivial
 | some y=>
  have:=hl y (List.mem_of_getLast? hg)
  show y.now<=x.now
  omega
theorem iW {n:Int}(l:List En)(h:dD n l):(∀ t,t∈(ay l).q↔aF l t=2)/\(ay l).q.Nodup/\(∀ t∈(ay l).q,0<=t/\t<n):=by
 refine ib (P:=fun l=>dD n l->(∀ t,t∈(ay l).q↔aF l t=2)/\(ay l).q.Nodup/\(∀ t∈(ay l).q,0<=t/\t<n)) ?_ ?_ l h
 ·intro _
  simp[ay,GG,aF]
 ·intro l x ih h
  obtain⟨hl,f0,f1,f2,fk⟩:=gb.1 h
  obtain⟨i1,i2,i3⟩:=ih hl
  have e:(ay (l++[x])).q=(ay l).q.filter (fun t=>t != x.th)++(if x.kind=2 then [x.th] else []):=by rw[cW];rfl
  rw[e]
  have hm:∀ t,t∈(ay l).q.filter (fun t=>t != x.th)↔(t∈(ay l).q/\t≠x.th):=fun t=>by simp[List.mem_filter]
  refine⟨fun t=>?_,?_,fun t ht=>?_⟩
  ·rw[cU,List.mem_append,hm,i1]
   by_cases et:x.th=t
   ·subst et
    by_cases ek:x.kind=2 <;> simp[ek]
   ·rw[if_neg et]
    have et2:¬ t=x.th:=fun e=>et e.symm
    by_cases ek:x.kind=2 <;> simp[ek,et2]
  ·refine List.nodup_append.2 ⟨i2.filter _,by split <;> simp,fun a ha b hb=>?_⟩
   have:=(hm a).1 ha
   split at hb
   ·simp at hb;subst hb;exact this.2
   ·simp at hb
  ·rcases List.mem_append.1 ht with ht | ht
   ·exact i3 t ((hm t).1 ht).1
   ·split at ht
    ·simp at ht;subst ht;exact⟨f0,f1⟩
    ·simp at ht
theorem jZ {q:List Int}{t:Int}(h:t ∉ q):q.filter (fun x=>x != t)=q:=by
 rw[List.filter_eq_self]
 intro a ha
 have:a≠t:=fun e=>h (e ▸ ha)
 simpa using this
theorem sw {q:List Int}{t:Int}(h:(t :: q).Nodup):(t :: q).filter (fun x=>x != t)=q:=by
 rw[List.filter_cons]
 simp only[bne_self_eq_false,Bool.false_eq_true,if_false]
 exact jZ (List.nodup_cons.1 h).1
theorem iR {n:Int}(l:List En)(h:dD n l)(t:Int)(ht:aF l t≠0):0<=t/\t<n:=by
 revert ht
 refine ib (P:=fun l=>dD n l->aF l t≠0->0<=t/\t<n) ?_ ?_ l h
 ·intro _ h0;exact absurd rfl h0
 ·intro l x ih h h0
  obtain⟨hl,f0,f1,_⟩:=gb.1 h
  rw[cU] at h0
  split at h0
  ·omega
  ·exact ih hl h0
section
variable {n:Int}{l:List En}{x:En}
theorem kW (h:dD n l)(hk:x.kind≠2)(hl:aF l x.th≠2):(ay (l++[x])).q=(ay l).q:=by
 rw[cW]
 show (ay l).q.filter _++_=_
 rw[jZ (fun hm=>hl (((iW l h).1 _).1 hm)),if_neg hk,List.append_nil]
theorem FS (h:dD n l)(hk:x.kind=2)(hl:aF l x.th≠2):(ay (l++[x])).q=(ay l).q++[x.th]:=by
 rw[cW]
 show (ay l).q.filter _++_=_
 rw[jZ (fun hm=>hl (((iW l h).1 _).1 hm)),if_pos hk]
theorem Eu {rest:List Int}(h:dD n l)(hk:x.kind≠2)(hq:(ay l).q=x.th :: rest):(ay (l++[x])).q=rest:=by
 have hd:=(iW l h).2.1
 rw[cW]
 show (ay l).q.filter _++_=_
 rw[hq] at hd ⊢
 rw[sw hd,if_neg hk,List.append_nil]
theorem wi (hk:dk x.kind=J):(ay (l++[x])).ow=x.th:=by
 rw[cW]
 show (if dk x.kind then x.th else _)=_
 rw[if_pos hk]
theorem oi (h:dD n l)(h0:0<=x.th)(hk:dk x.kind=U)(hl:dk (aF l x.th)=U):(ay (l++[x])).ow=(ay l).ow:=by
 have h1:=(eP l h).1 x.th
 rw[cW]
 show (if dk x.kind then x.th else if x.th=(ay l).ow then -1 else (ay l).ow)=_
 rw[if_neg (by simp[hk])]
 by_cases e:x.th=(ay l).ow
 ·have:=h1.2 ⟨e.symm,h0⟩
  rw[hl] at this;cases this
 ·rw[if_neg e]
theorem CC (h:dD n l)(hk:dk x.kind=U)(hl:dk (aF l x.th)=J):(ay (l++[x])).ow=-1:=by
 have h1:=((eP l h).1 x.th).1 hl
 rw[cW]
 show (if dk x.kind then x.th else if x.th=(ay l).ow then -1 else (ay l).ow)=_
 rw[if_neg (by simp[hk]),if_pos h1.1.symm]
theorem DN (h:dD n l){t:Int}(ht:dk (aF l t)=J):(ay l).ow=t:=(((eP l h).1 t).1 ht).1
theorem bQ (k:Int)(s t:Nat)(c:Int)(h:s≠t):aF (l++[⟨k,(t:Int),c⟩]) (s:Int)=aF l s:=by
 rw[cU,if_neg (by show ¬ ((t:Int)=s);omega)]
theorem dx (k t c:Int):aF (l++[⟨k,t,c⟩]) t=k:=by rw[cU];simp
theorem eX {k t:Int}(h:∀ y∈l,y.now=0):∀ y∈l++[⟨k,t,0⟩],y.now=0:=by
 intro y hy
 rcases List.mem_append.1 hy with hy | hy
 ·exact h y hy
 ·simp at hy;subst hy;rfl
end
def mw (n:Int)(l:List En):Nat:=((List.range l.length).find? fun k=>match l[k]? with
 | some x=>!decide (eN n (l.take k) x)
 | none=>U).getD l.length
theorem ny {n:Int}{l:List En}(h:dD n l):mw n l=l.length:=by
 unfold mw
 have:((List.range l.length).find? fun k=>match l[k]? with
  | some x=>!decide (eN n (l.take k) x)
  | none=>U)=V:=by
  rw[List.find?_eq_none]
  intro k hk
  cases hx:l[k]? with
  | none=>simp
  | some x=>simp[h k x hx]
 rw[this];rfl
end
section
open Go.ChangeShapes Go.WideShapes Go.ChangeAt Go.RowKit Go.Sort
structure Lb (w:World):Prop where
 tab:Lib.TabIs Tryz.prog w "internal/strconv.uint64pow10" .u64 Lib.pow10Tab
 syn:∃ tp p,w.var? Tryz.prog "strconv.ErrSyntax" = T #[.iface tp p]
 rng:∃ tp p,w.var? Tryz.prog "strconv.ErrRange" = T #[.iface tp p]
 mx:∃ m,w.cell? ⟨0,0,V⟩=T (.int .i64 m)
 low:0<w.heap.size/\5<w.heap.size/\1<w.heap.size/\2<w.heap.size
theorem Lb.below {w w':World}(h:Lb w)(hb:Below w.heap.size w w'):Lb w':=by
 obtain⟨l0,l1,l2,l3⟩:=h.low
 have hz:=hb.size
 refine⟨?_,?_,?_,?_,by omega,by omega,by omega,by omega⟩
 ·exact var?_below hb (g:=5) (by kernel_rfl) (by omega) h.tab
 ·obtain⟨tp,p,e⟩:=h.syn
  exact⟨tp,p,var?_below hb (g:=1) (by kernel_rfl) (by omega) e⟩
 ·obtain⟨tp,p,e⟩:=h.rng
  exact⟨tp,p,var?_below hb (g:=2) (by kernel_rfl) (by omega) e⟩
 ·obtain⟨m,e⟩:=h.mx
  exact⟨m,(hb.cell (p:=⟨0,0,V⟩) (by show 0<_;omega)).trans e⟩
theorem Lb.zG {w:World}(h:Lb w)(g:fL w):Lb g.x:=h.below g.ok
theorem vx (w:World)(k:Nat)(os:Array Obj):Below w.heap.size w (grow (w.drewN k) os):=by
 refine⟨rfl,rfl,rfl,?_,fun j hj=>?_⟩
 ·show w.heap.size<=(w.heap++os).size
  simp
 ·show (w.heap++os)[j]?=w.heap[j]?
  rw[Array.getElem?_append_left hj]
theorem F0 (n:Int)(h0:-9223372036854775808<=n)(h1:n<=9223372036854775807)(w:World)(L:Lb w):
 Calls Tryz.prog 182 #[O Z n] w fun e w'=>e=.returned (bs (Lib.itoa n))/\Below w.heap.size w w':=
 (Any.strconv_Itoa Tryz.laysM171 n h0 h1 w L.tab).mono fun _ _ ⟨he,k,os,hw⟩=>⟨he,by rw[hw];exact vx w k os⟩
theorem FX (s p:List UInt8)(w:World):
 Calls Tryz.prog 178 #[bs s,bs p] w fun e w'=>e=.returned (bs (Lib.trimPrefix s p))/\w=w':=
 (Any.strings_TrimPrefix Tryz.lays101 ⟨s.toArray⟩ ⟨p.toArray⟩ w).mono fun _ _ ⟨he,hw⟩=>⟨he,hw.symm⟩
theorem CL (s:List UInt8)(hl:s.length<=281474976710656)(v:Int)(h:Lib.atoiAll s=.ok v)(w:World):
 Calls Tryz.prog 177 #[bs s] w fun e w'=>e=.returned (.tuple #[O Z v,.nilIface])/\Below w.heap.size w w':=by
 have hs:(⟨s.toArray⟩:ByteArray).size=s.length:=by simp[ByteArray.size]
 refine(Any.strconv_Atoi_ok Tryz.laysC172 ⟨s.toArray⟩ (by omega) v h w).mono fun e w' ⟨he,hw⟩=>⟨he,?_⟩
 rcases hw with rfl | ⟨t,rfl⟩
 ·exact M _ _
 ·exact Lib.bytesWorld_below _ _ _
def Fc (w:World)(e:Ending)(w':World):Prop:=∃ (v:Int) (b:Nat),e=.returned (.tuple #[O Z v,.iface 285 (D (T ⟨b,0,V⟩))])/\Below w.heap.size w w'
theorem CM (s:List UInt8)(hl:s.length<=281474976710656)(h:∀ v,Lib.atoiAll s≠.ok v)(w:World)(L:Lb w):
 Calls Tryz.prog 177 #[bs s] w (Fc w):=by
 have hs:(⟨s.toArray⟩:ByteArray).size=s.length:=by simp[ByteArray.size]
 cases ha:Lib.atoiAll s with
 | ok v=>exact absurd ha (h v)
 | range=>
  obtain⟨tp,p,hv⟩:=L.rng
  exact(Any.strconv_Atoi_range_var Tryz.laysC172 ⟨s.toArray⟩ (by omega) ha tp p w hv).mono fun e w' ⟨N,he,_,_,hb⟩=>⟨_,N,he,hb⟩
 | _=>
  obtain⟨tp,p,hv⟩:=L.syn
  exact(Any.strconv_Atoi_syntax_var Tryz.laysC172 ⟨s.toArray⟩ (by omega) ha tp p w hv).mono fun e w' ⟨N,he,_,_,hb⟩=>⟨_,N,he,hb⟩
def fE (s:List UInt8):List (List UInt8):=Lib.splitN s [32] 9
def zB (w:World)(v:Value)(ws:List (List UInt8)):Prop:=
 ∃ g cap,v=G (T ⟨g,0,V⟩) ws.length cap/\ws.length<=cap/\cap<=1000000/\g<w.heap.size/\∀ n,n<ws.length->w.cell? ⟨g,n,V⟩=T (bs (ws.getD n []))
theorem zB.below {w w':World}{v:Value}{ws:List (List UInt8)}(h:zB w v ws)(hb:Below w.heap.size w w'):zB w' v ws:=by
 obtain⟨g,cap,e,h1,h2,h3,h4⟩:=h
 exact⟨g,cap,e,h1,h2,Nat.lt_of_lt_of_le h3 hb.size,fun n hn=>(hb.cell (p:=⟨g,n,V⟩) h3).trans (h4 n hn)⟩
theorem EG (s:List UInt8)(hl:s.length<4294967281)(w:World)(L:Lb w):
 Calls Tryz.prog 163 #[bs s,bs [32],O Z 9] w fun e w'=>∃ v,e=.returned v/\zB w' v (fE s)/\Below w.heap.size w w':=by
 obtain⟨m,hm⟩:=L.mx
 have hs:(⟨s.toArray⟩:ByteArray).size=s.length:=by simp[ByteArray.size]
 refine(Any.strings_SplitN { Tryz.laysM147 with } Tryz.laysM147.i9 ⟨s.toArray⟩ ⟨#[32]⟩ 9 m w (by omega) hm (by decide) (by decide) (by decide)).mono fun e w' ⟨he,hw⟩=>?_
 have hdat:=Lib.splitB_data ⟨#[32]⟩ 0 (min 9 ((⟨s.toArray⟩:ByteArray).size+1)-1) ⟨s.toArray⟩
 have hle:=Lib.splitB_length_le ⟨#[32]⟩ 0 (min 9 ((⟨s.toArray⟩:ByteArray).size+1)-1) ⟨s.toArray⟩
 generalize hl2:Lib.splitB ⟨#[32]⟩ 0 (min 9 ((⟨s.toArray⟩:ByteArray).size+1)-1) ⟨s.toArray⟩=l at *
 have hlen:(fE s).length=l.length:=by
  unfold fE Lib.splitN
  rw[<-hs]
  have:=congrArg List.length hdat
  simpa using this.symm
 have hcap:min 9 ((⟨s.toArray⟩:ByteArray).size+1)<=9:=Nat.min_le_left _ _
 have hcap1:1<=min 9 ((⟨s.toArray⟩:ByteArray).size+1):=by omega
 subst hw
 refine⟨_,he,⟨w.heap.size,min 9 ((⟨s.toArray⟩:ByteArray).size+1),by rw[hlen],by omega,by omega,by simp,fun n hn=>?_⟩,(M _ _).alloc (A _) _⟩
 rw[cell_of_row _ _ _ _ _ _ (heap_alloc_new w _)]
 rw[hlen] at hn
 have h1:(Lib.cellsOf l (min 9 ((⟨s.toArray⟩:ByteArray).size+1)))[n]?=T (.string l[n]):=by
  unfold Lib.cellsOf
  rw[List.getElem?_toArray,List.getElem?_append_left (by simpa using hn),List.getElem?_map,List.getElem?_eq_getElem hn]
  rfl
 rw[h1]
 have h2:(fE s).getD n []=l[n].data.toList:=by
  have h3:fE s=l.map (·.data.toList):=by rw[hdat];unfold fE Lib.splitN;rw[hs]
  rw[h3]
  simp[hn]
 rw[h2]
 rfl
end
section
open Go.ChangeShapes Go.WideShapes Go.ChangeAt Go.RowKit
def iZ (c:UInt8):List (List UInt8)->List (List UInt8)
 | []=>[[c]]
 | l :: r=>(c :: l) :: r
def aq:List UInt8->List (List UInt8)
 | []=>[[]]
 | c :: r=>if c=32 then [] :: aq r else iZ c (aq r)
theorem fZ:∀ s,0<(aq s).length
 | []=>by simp[aq]
 | c :: r=>by
  unfold aq
  split
  ·simp
  ·have:=fZ r
   generalize aq r=ws at *
   cases ws with
   | nil=>simp at this
   | cons a b=>simp[iZ]
theorem cQ:∀ t:List UInt8,(∀ c∈t,c≠32)->aq t=[t]
 | [],_=>rfl
 | c :: r,h=>by
  unfold aq
  rw[if_neg (h c List.mem_cons_self),cQ r fun d hd=>h d (List.mem_cons_of_mem _ hd)]
  rfl
theorem fx:∀ (t r:List UInt8),(∀ c∈t,c≠32)->aq (t++32 :: r)=t :: aq r
 | [],r,_=>by simp[aq]
 | c :: t,r,h=>by
  have e:aq (c :: (t++32 :: r))=iZ c (aq (t++32 :: r)):=by
   rw[aq,if_neg (h c List.mem_cons_self)]
  show aq (c :: (t++32 :: r))=_
  rw[e,fx t r fun d hd=>h d (List.mem_cons_of_mem _ hd)]
  rfl
theorem ik:∀ s:List UInt8,(aq s).length<=s.length+1
 | []=>by simp[aq]
 | c :: r=>by
  have h:=ik r
  unfold aq
  split
  ·simp;omega
  ·generalize aq r=ws at *
   cases ws with
   | nil=>simp[iZ]
   | cons a b=>simp[iZ] at *;omega
theorem lA:∀ s:List UInt8,∀ l∈aq s,l.length<=s.length
 | [],l,h=>by simp[aq] at h;subst h;simp
 | c :: r,l,h=>by
  have ih:=lA r
  unfold aq at h
  split at h
  ·rcases List.mem_cons.1 h with rfl | h
   ·simp
   ·have:=ih l h;simp;omega
  ·generalize aq r=ws at *
   cases ws with
   | nil=>simp[iZ] at h;subst h;simp
   | cons a b=>
    simp only[iZ] at h
    rcases List.mem_cons.1 h with rfl | h
    ·have:=ih a List.mem_cons_self;simp;omega
    ·have:=ih l (List.mem_cons_of_mem _ h);simp;omega
structure fY (s:List UInt8)(out:List (List UInt8))(f i:Nat):Prop where
 le:f<=i
 no:∀ j,f<=j->j<i->s.getD j 0≠32
 all:out++aq (s.drop f)=aq s
 few:out.length<=f
theorem By {s:List UInt8}{f i:Nat}(hi:i<=s.length)(h:∀ j,f<=j->j<i->s.getD j 0≠32):∀ c∈(s.take i).drop f,c≠32:=by
 intro c hc
 obtain⟨n,hn,rfl⟩:=List.getElem_of_mem hc
 have h1:=h (f+n) (by omega) (by simp at hn;omega)
 simp at hn
 rw[List.getElem_drop,List.getElem_take]
 simpa [show f+n<s.length by omega] using h1
theorem fY.blank {s:List UInt8}{out:List (List UInt8)}{f i:Nat}(h:fY s out f i)(hi:i<s.length)(hc:s.getD i 0=32):fY s (out++[(s.take i).drop f]) (i+1) (i+1):=by
 refine⟨A _,fun j h1 h2=>by omega,?_,by have:=h.few;have:=h.le;simp;omega⟩
 rw[<-h.all,List.append_assoc]
 congr 1
 have e:s.drop f=(s.take i).drop f++32 :: s.drop (i+1):=by
  have e1:s=s.take i++32 :: s.drop (i+1):=by
   have hg:s[i]=32:=by simpa [hi] using hc
   rw[<-hg,<-List.drop_eq_getElem_cons hi,List.take_append_drop]
  have hle:f<=(s.take i).length:=by have:=h.le;simp;omega
  rw[<-List.drop_append_of_le_length hle,<-e1]
 rw[e,fx _ _ (By (by omega) h.no)]
 rfl
theorem fY.last {s:List UInt8}{out:List (List UInt8)}{f:Nat}(h:fY s out f s.length):out++[(s.take s.length).drop f]=aq s:=by
 rw[<-h.all]
 congr 1
 have:=By (A _) h.no
 rw[List.take_length] at this ⊢
 rw[cQ _ this]
theorem fY.on {s:List UInt8}{out:List (List UInt8)}{f i:Nat}(h:fY s out f i)(hc:s.getD i 0≠32):fY s out f (i+1):=
 ⟨by have:=h.le;omega,fun j h1 h2=>by
  by_cases e:j=i
  ·subst e;exact hc
  ·exact h.no j h1 (by omega),h.all,h.few⟩
def D0 (ws:List (List UInt8)):List Value:=ws.map bs
theorem sI (ws:List (List UInt8))(l:List UInt8):D0 (ws++[l])=D0 ws++[.string ⟨l.toArray⟩]:=by simp[D0,bs]
theorem Bc (s:List UInt8)(hl:s.length<100000)(w:World):
 Calls Tryz.prog 102 #[bs s] w fun e w'=>∃ v,e=.returned v/\rp 9 w' v (D0 (aq s))/\Below w.heap.size w w':=by
 unfold bs
 go_enter Tryz.func102,Tryz.ntmps102
 go_wp2
 go_loopw [3,4,5] (fun o f i x=>∃ (out:List (List UInt8)) (fn n:Nat),i=O Z n/\f=O Z fn/\rp 9 x o (D0 out)/\Below w.heap.size w x/\(∀ g,o.ownBlock=T g->w.heap.size<=g)/\n<=s.length+1/\((n<=s.length/\fY s out fn n)\/(n=s.length+1/\out=aq s))) (fun _ _ i _=>s.length+1-(intOf i).toNat)
 case atStart=>exact⟨[],0,0,rfl,rfl,rp.nil _ _,M _ _,(fun g e=>by cases e),by omega,.inl ⟨by omega,⟨A _,fun j h1 h2=>by omega,rfl,A _⟩⟩⟩
 case round=>
  obtain⟨out,fn,n,rfl,rfl,hV,hb,hown,hn,hW⟩:=hrel
  rcases hW with ⟨hle,hW⟩ | ⟨rfl,rfl⟩
  ·have hfew:=hW.few
   have hfl:=hW.le
   have hvl:(D0 out).length=out.length:=by simp[D0]
   by_cases hend:n=s.length
   ·subst hend
    have hcut:=nU s fn s.length hfl (A _)
    have hlast:=hW.last
    generalize (s.take s.length).drop fn=wd at *
    have HL:=C hlast
    clear hlast
    have hle2:(s.length:Int)<=(s.length:Int):=by omega
    go_wp2_with (at_builtin;refine nH (by rfl) _ _ 142 (by rfl) (.string ⟨#[]⟩) 16 Tryz.underlying142 (by kernel_rfl) rfl (by decide) hV (by rfl) (.string ⟨wd.toArray⟩) rfl (by rfl) (by omega) ?_;intro v' x' hV' hg hloc)
    have hb2:Below w.heap.size w x':=hb.grown hg hb.size hown
    have hown2:∀ g,v'.ownBlock=T g->w.heap.size<=g:=by
     intro g e
     rcases hloc with h | h
     ·exact hown g (h ▸ e)
     ·rw[h] at e;injection e with e;have:=hb.size;omega
    go_roundw
    case rel=>exact⟨out++[wd],s.length+1,s.length+1,by go_num,by go_num,by rw[sI];exact hV',hb2,hown2,by omega,.inr ⟨rfl,HL.out⟩⟩
    case measure=>(simp[intOf] <;> omega)
   ·have hlt:n<s.length:=by omega
    have hidx:=eO s n hlt
    have dne:((n:Int)==(s.length:Int))=U:=by simp;omega
    have dle:(n:Int)<=(s.length:Int):=by omega
    by_cases hc:s.getD n 0=32
    ·have hW2:=hW.blank hlt hc
     have hcut:=nU s fn n hfl hle
     rw[hc] at hidx
     have e32:(((32:UInt8).toNat:Nat):Int)=32:=rfl
     rw[e32] at hidx
     clear e32 hc
     generalize (s.take n).drop fn=wd at *
     go_wp2_with (at_builtin;refine nH (by rfl) _ _ 142 (by rfl) (.string ⟨#[]⟩) 16 Tryz.underlying142 (by kernel_rfl) rfl (by decide) hV (by rfl) (.string ⟨wd.toArray⟩) rfl (by rfl) (by omega) ?_;intro v' x' hV' hg hloc)
     have hb2:Below w.heap.size w x':=hb.grown hg hb.size hown
     have hown2:∀ g,v'.ownBlock=T g->w.heap.size<=g:=by
      intro g e
      rcases hloc with h | h
      ·exact hown g (h ▸ e)
      ·rw[h] at e;injection e with e;have:=hb.size;omega
     go_roundw
     case rel=>exact⟨out++[wd],n+1,n+1,by go_num,by go_num,by rw[sI];exact hV',hb2,hown2,by omega,.inl ⟨by omega,hW2⟩⟩
     case measure=>(simp[intOf] <;> omega)
    ·have hW2:=hW.on hc
     have dc:((((s.getD n 0).toNat:Nat):Int)==32)=U:=by
      have h:(s.getD n 0).toNat≠32:=fun e=>hc (UInt8.toNat_inj.1 e)
      generalize (s.getD n 0).toNat=c at *
      simp;omega
     generalize (s.getD n 0).toNat=c at *
     clear hc
     go_wp2
     go_roundw
     case rel=>exact⟨out,fn,n+1,by go_num,rfl,hV,hb,hown,by omega,.inl ⟨by omega,hW2⟩⟩
     case measure=>(simp[intOf] <;> omega)
  ·go_wp2
   go_ret
   exact⟨_,rfl,hV,hb⟩
def vK (ops:Array Oper)(st:List Nat)(i:Nat):Nat:=(st.filter fun s=>(bd ops i).contains s).length
def vN (ops:Array Oper)(st:List Nat)(i:Nat):Nat:=st.findIdx fun s=>(bd ops s).contains i
def iM (ops:Array Oper):List Nat->Bool
 | s :: t :: l=>(bd ops t).contains s && (decide (s<ops.size) && iM ops (t :: l))
 | [s]=>decide (s<ops.size)
 | []=>J
def oz (P:Program)(ops:Array Oper)(F:Nat->Value->World->Prop)(Wp:Nat->World->Prop)(Step:Nat->World->World->Prop)(lit:(Nat->Value)->Act)(st:List Nat):List Oper->Nat->Prop
 | [],_=>True
 | o :: l,i=>(match st.contains i with
  | true=>∀ (vs:Nat->Value) W,Wp (st.idxOf i) W->(∀ j∈bd ops i,F j (vs j) W)->dq P ops (fun v W'=>F i v W'/\Wp (st.idxOf i+1) W'/\Step (st.idxOf i) W W') o (lit vs) W
  | false=>∀ (vs:Nat->Value) W k,vK ops st i<=k->k<=vN ops st i->Wp k W->(∀ j∈bd ops i,F j (vs j) W)->bU P ops (F i) o (lit vs) W)/\oz P ops F Wp Step lit st l (i+1)
theorem mg {P:Program}{ops:Array Oper}{F:Nat->Value->World->Prop}{Wp:Nat->World->Prop}{Step:Nat->World->World->Prop}{lit:(Nat->Value)->Act}{st:List Nat}:∀ (l:List Oper) (b i:Nat) (o:Oper),oz P ops F Wp Step lit st l b->l[i]?=T o->
 (st.contains (b+i)=J->∀ (vs:Nat->Value) W,Wp (st.idxOf (b+i)) W->(∀ j∈bd ops (b+i),F j (vs j) W)->dq P ops (fun v W'=>F (b+i) v W'/\Wp (st.idxOf (b+i)+1) W'/\Step (st.idxOf (b+i)) W W') o (lit vs) W)/\
 (st.contains (b+i)=U->∀ (vs:Nat->Value) W k,vK ops st (b+i)<=k->k<=vN ops st (b+i)->Wp k W->(∀ j∈bd ops (b+i),F j (vs j) W)->bU P ops (F (b+i)) o (lit vs) W)
 | [],b,i,o,_,hi=>by simp at hi
 | x :: l,b,0,o,h,hi=>by
  simp only[List.getElem?_cons_zero,Option.some.injEq] at hi
  subst hi
  have h1:=h.1
  simp only[Nat.add_zero]
  constructor
  ·intro e;rw[e] at h1;exact h1
  ·intro e;rw[e] at h1;exact h1
 | x :: l,b,i+1,o,h,hi=>by
  have:=mg l (b+1) i o h.2 (by simpa using hi)
  rw[show b+1+i=b+(i+1) by omega] at this
  exact this
theorem lT {ops:Array Oper}:∀ (st:List Nat),iM ops st=J->∀ (j s t:Nat),st[j]?=T s->st[j+1]?=T t->s∈bd ops t
 | [],_,j,s,t,h,_=>by simp at h
 | [x],_,j,s,t,_,h=>by simp at h
 | x :: y :: l,h,0,s,t,h1,h2=>by
  simp at h1 h2
  subst h1;subst h2
  simp only[iM,Bool.and_eq_true] at h
  simpa using h.1
 | x :: y :: l,h,j+1,s,t,h1,h2=>by
  simp only[iM,Bool.and_eq_true] at h
  exact lT (y :: l) h.2.2 j s t (by simpa using h1) (by simpa using h2)
theorem lS {ops:Array Oper}:∀ (st:List Nat),iM ops st=J->∀ s∈st,s<ops.size
 | [],_,s,h=>by simp at h
 | [x],h,s,hs=>by simp at hs;subst hs;simpa [iM] using h
 | x :: y :: l,h,s,hs=>by
  simp only[iM,Bool.and_eq_true,decide_eq_true_eq] at h
  rcases List.mem_cons.1 hs with rfl | hs
  ·exact h.2.1
  ·exact lS (y :: l) h.2.2 s hs
theorem dT {P:Program}{l:List Oper}{Q:Exit->Act->World->Prop}{id:Nat}{a:Act}{w:World}(st:List Nat)(Wp:Nat->World->Prop)(Step:Nat->World->World->Prop)(lit:(Nat->Value)->Act)(F:Nat->Value->World->Prop)
 (hm:P.follows .mixedOrders=J) (hr:mC l.toArray=J) (hc:iM l.toArray st=J) (hnd:st.Nodup) (hlit:∀ vs,aC l.toArray a (fun _=>J) vs=lit vs)
 (h0:Wp 0 w)
 (hW:∀ k W W',Wp k W->Below W.heap.size W W'->Wp k W')
 (hF:∀ i v W W',F i v W->Below W.heap.size W W'->F i v W')
 (hS:∀ k W W',Wp k W->Step k W W'->∀ i v,F i v W->F i v W')
 (hop:oz P l.toArray F Wp Step lit st l 0)
 (hend:∀ (vs:Nat->Value) W,Wp st.length W->(∀ i,i<l.length->F i (vs i) W)->Q .normal (lit vs) W):(Code.region id l.toArray J).wp P Q a w:=by
 refine eA hm hr (fun d vs W=>∃ k,k<=st.length/\(∀ j s,st[j]?=T s->(d s=J↔j<k))/\(∀ i,d i=J->∀ j∈bd l.toArray i,d j=J)/\Wp k W/\∀ i,d i=J->F i (vs i) W) ?_ ?_ ?_
 ·exact⟨0,Nat.zero_le _,fun j s _=>by simp,(fun i h=>by cases h),hW 0 _ _ h0 (M _ _).drew,(fun i h=>by cases h)⟩
 ·rintro i o ho d vs W ⟨k,hk,hst,hcl,hWk,hFd⟩ hdi hdep
  have ho':l[i]?=T o:=by simpa using ho
  rw[hlit]
  obtain⟨e1,e2⟩:=mg l 0 i o hop ho'
  rw[Nat.zero_add] at e1 e2
  have hFdep:∀ j∈bd l.toArray i,F j (vs j) W:=fun j hj=>hFd j (hdep j hj)
  cases hci:st.contains i with
  | true=>
   have hmem:i∈st:=by simpa using hci
   have hidx:st.idxOf i<st.length:=List.idxOf_lt_length_iff.2 hmem
   have hat:st[st.idxOf i]?=T i:=by rw[List.getElem?_eq_getElem hidx,List.getElem_idxOf hidx]
   have hki:st.idxOf i=k:=by
    have h1:¬ st.idxOf i<k:=fun h=>by
     have:=(hst _ i hat).2 h
     rw[hdi] at this;cases this
    rcases Nat.lt_or_eq_of_le (Nat.le_of_not_lt h1) with h2 | h2
    ·exfalso
     have hp:st.idxOf i-1+1=st.idxOf i:=by omega
     have hpl:st.idxOf i-1<st.length:=by omega
     have hs:=lT st hc (st.idxOf i-1) st[st.idxOf i-1] i (List.getElem?_eq_getElem hpl) (by rw[hp];exact hat)
     have hd:=hdep _ hs
     have:=(hst _ _ (List.getElem?_eq_getElem hpl)).1 hd
     omega
    ·exact h2.symm
   have h3:=e1 hci vs W (by rw[hki];exact hWk) hFdep
   refine gP h3 ?_
   rintro v W' ⟨hv,hW2,hstep⟩
   rw[hki] at hW2 hstep
   refine⟨k+1,by omega,fun j s hs=>?_,fun x hx j hj=>by
    by_cases e:x=i
    ·subst e;have h4:=hdep j hj;by_cases e2:j=x <;> simp[e2,h4]
    ·simp only[if_neg e] at hx;have h4:=hcl x hx j hj;by_cases e2:j=i <;> simp[e2,h4],hW2,fun j hj=>?_⟩
   ·by_cases e:s=i
    ·subst e
     have hj:j=k:=by
      rw[<-hki]
      have hjl:=(List.getElem?_eq_some_iff.1 hs).1
      have hsj:=(List.getElem?_eq_some_iff.1 hs).2
      have:=hnd.idxOf_getElem j hjl
      rw[hsj] at this
      exact this.symm
     simp;omega
    ·simp only[if_neg e]
     rw[hst j s hs]
     constructor
     ·omega
     ·intro h
      by_cases hj:j=k
      ·exfalso
       subst hj
       rw[<-hki,hat] at hs
       injection hs with hs
       exact e hs.symm
      ·omega
   ·by_cases e:j=i
    ·subst e;simp only[if_true];exact hv
    ·simp only[if_neg e] at hj ⊢
     exact hS k W W' hWk hstep j _ (hFd j hj)
  | false=>
   have hnm:i ∉ st:=by simpa using hci
   have hlo:vK l.toArray st i<=k:=by
    unfold vK
    have hsub:∀ (s:List Nat) (b:Nat),(∀ j x,s[j]?=T x->st[b+j]?=T x)->(s.filter fun x=>(bd l.toArray i).contains x).length<=k-b:=by
     intro s
     induction s with
     | nil=>intro b _;simp
     | cons x s ih=>
      intro b hb
      have hx:=hb 0 x (by simp)
      rw[Nat.add_zero] at hx
      have ih2:=ih (b+1) (fun j y hy=>by rw[show b+1+j=b+(j+1) by omega];exact hb (j+1) y (by simpa using hy))
      rw[List.filter_cons]
      split
      ·rename_i hcx
       have hd:=hdep x (by simpa using hcx)
       have:=(hst b x hx).1 hd
       simp only[List.length_cons]
       omega
      ·omega
    have:=hsub st 0 (fun j x h=>by rw[Nat.zero_add];exact h)
    omega
   have hhi:k<=vN l.toArray st i:=by
    unfold vN
    rcases Nat.lt_or_ge (st.findIdx fun s=>(bd l.toArray s).contains i) st.length with h | h
    ·refine Nat.le_of_not_lt fun hlt=>?_
     have hp:=List.findIdx_getElem (w:=h)
     have hd:=(hst _ _ (List.getElem?_eq_getElem h)).2 hlt
     have:=hcl _ hd i (by simpa using hp)
     rw[hdi] at this
     cases this
    ·omega
   exact fz (e2 hci vs W k hlo hhi hWk hFdep) (fun v W' hv hb=>⟨k,hk,fun j s hs=>by
    have hne:s≠i:=fun e=>hnm (e ▸ List.mem_of_getElem? hs)
    simp only[if_neg hne]
    exact hst j s hs,fun x hx j hj=>by
    by_cases e:x=i
    ·subst e;have h4:=hdep j hj;by_cases e2:j=x <;> simp[e2,h4]
    ·simp only[if_neg e] at hx;have h4:=hcl x hx j hj;by_cases e2:j=i <;> simp[e2,h4],hW k W W' hWk hb,fun j hj=>by
    by_cases e:j=i
    ·subst e;simp only[if_true];exact hv
    ·simp only[if_neg e] at hj ⊢
     exact hF j _ W W' (hFd j hj) hb⟩)
 ·rintro d vs W ⟨k,hk,hst,hcl,hWk,hFd⟩ hall
  rw[hlit]
  have hks:k=st.length:=by
   rcases Nat.lt_or_eq_of_le hk with h | h
   ·exfalso
    have h1:=(hst k _ (List.getElem?_eq_getElem h))
    have h2:=hall st[k] (lS st hc _ (List.getElem_mem h))
    have:=h1.1 h2
    omega
   ·exact h
  rw[hks] at hWk
  exact hend vs W hWk (fun i hi=>hFd i (hall i (by simpa using hi)))
theorem ye {k:IntKind}{w:World}{b off:Nat}{xs:List Int}(hc:∀ i,i<xs.length->w.cell? ⟨b,off+i,V⟩=T (.int k (aD xs i))):
 ∀ j v,(xs.map (Value.int k))[j]?=T v->w.cell? ((⟨b,off,V⟩:Addr).add j)=T v:=by
 intro j v hj
 have hl:j<xs.length:=by have:=(List.getElem?_eq_some_iff.1 hj).1;simpa using this
 rw[List.getElem?_map,iH hl] at hj
 have e:(⟨b,off,V⟩:Addr).add j=⟨b,off+j,V⟩:=by unfold Addr.add;split <;> simp_all
 rw[e,hc j hl,<-hj];rfl
def Fs (w:World)(v:Value)(xs:List Int):Prop:=
 (v=G V 0 0/\xs=[])\/∃ g off cap cs,v=G (T ⟨g,off,V⟩) xs.length cap/\xs.length<=cap/\cap<=maxLen/\Bk w g 3 cs/\off+cap<=cs.size/\∀ i,i<xs.length->cs[off+i]?=T (O Z (aD xs i))
section
variable {w w':World}{v:Value}{xs:List Int}
theorem Fs.Bm (h:ef .i64 3 w v xs):Fs w v xs:=by
 rcases h.2 with ⟨rfl,h0⟩ | ⟨g,cap,cur,rfl,hb,hg,hnc,hcm,hcs,htake⟩
 ·exact .inl ⟨rfl,List.eq_nil_of_length_eq_zero h0⟩
 ·refine .inr ⟨g,0,cap,cur,rfl,hnc,hcm,hg,by omega,fun i hi=>?_⟩
  have h1:=World.ownsRow.cellAt ⟨h.1,.inr ⟨g,cap,cur,rfl,hb,hg,hnc,hcm,hcs,htake⟩⟩ i (by omega)
  rw[List.getElem?_map,iH hi] at h1
  rw[Nat.zero_add,<-Bk.cell (cs:=cur) (t:=3) hg i,h1];rfl
theorem Fs.lt (h:Fs w v xs){g:Nat}(e:v.ownBlock=T g):g<w.heap.size:=by
 rcases h with ⟨rfl,_⟩ | ⟨g',off,cap,cs,rfl,_,_,hb,_⟩
 ·cases e
 ·simp only[Value.ownBlock,Option.some.injEq] at e;subst e;exact hb.lt
theorem Fs.bk (h:Fs w v xs){g:Nat}(e:v.ownBlock=T g):∃ cs,Bk w g 3 cs:=by
 rcases h with ⟨rfl,_⟩ | ⟨g',off,cap,cs,rfl,_,_,hb,_⟩
 ·cases e
 ·simp only[Value.ownBlock,Option.some.injEq] at e;subst e;exact⟨cs,hb⟩
theorem Fs.within {S:Nat->Prop}(h:Fs w v xs)(k:ag w w' S)(hn:∀ g,v.ownBlock=T g->¬ S g):Fs w' v xs:=by
 rcases h with ⟨rfl,rfl⟩ | ⟨g,off,cap,cs,rfl,h1,h2,hb,h3⟩
 ·exact .inl ⟨rfl,rfl⟩
 ·exact .inr ⟨g,off,cap,cs,rfl,h1,h2,hb.within k (hn g rfl),h3⟩
theorem Fs.CD (h:Fs w v xs):v.oneCell'=J:=by
 rcases h with ⟨rfl,_⟩ | ⟨g,off,cap,cs,rfl,_⟩ <;> rfl
theorem Fs.cut {x:Int}(h:Fs w v (x :: xs)):∃ g off cap,v=G (T ⟨g,off,V⟩) (xs.length+1) cap/\xs.length+1<=cap/\cap<=maxLen/\w.cell? ⟨g,off,V⟩=T (O Z x)/\
 (cap=1->Fs w (G (T ⟨g,off,V⟩) xs.length (cap-1)) xs)/\(cap≠1->Fs w (G (T ⟨g,off+1,V⟩) xs.length (cap-1)) xs):=by
 rcases h with ⟨_,h⟩ | ⟨g,off,cap,cs,rfl,h1,h2,hb,h3,h4⟩
 ·cases h
 ·simp only[List.length_cons] at h1 h4
  refine⟨g,off,cap,rfl,h1,h2,?_,fun e=>?_,fun e=>?_⟩
  ·rw[hb.cell];have:=h4 0 (by omega);rw[Nat.add_zero] at this;exact this
  ·exact .inr ⟨g,off,cap-1,cs,rfl,by omega,by omega,hb,by omega,fun i hi=>by omega⟩
  ·refine .inr ⟨g,off+1,cap-1,cs,rfl,by omega,by omega,hb,by omega,fun i hi=>?_⟩
   rw[show off+1+i=off+(i+1) by omega,h4 (i+1) (by omega)]
   rfl
theorem Fs.more {g off cap:Nat}{x:Int}(h:Fs w (G (T ⟨g,off,V⟩) xs.length cap) xs)(hr:xs.length+1<=cap):Fs (w.setCell ⟨g,off+xs.length,V⟩ (O Z x)) (G (T ⟨g,off,V⟩) (xs.length+1) cap) (xs++[x]):=by
 rcases h with ⟨h,_⟩ | ⟨g',off',cap',cs,e,h1,h2,hb,h3,h4⟩
 ·cases h
 ·simp only[Value.slice.injEq,Option.some.injEq,Addr.mk.injEq,and_true,true_and] at e
  obtain⟨⟨rfl,rfl⟩,rfl⟩:=e
  refine .inr ⟨g,off,cap,_,by simp,by simp;omega,h2,hb.put _ _,by simpa using h3,fun i hi=>?_⟩
  simp only[List.length_append,List.length_cons,List.length_nil] at hi
  rw[Array.getElem?_setIfInBounds]
  by_cases e:i=xs.length
  ·subst e
   rw[if_pos rfl,if_pos (by omega)]
   simp[aD]
  ·rw[if_neg (by omega),h4 i (by omega)]
   simp[aD,List.getD_eq_getElem?_getD,List.getElem?_append,show i<xs.length by omega]
end
end
section
open Go.ChangeShapes Go.WideShapes Go.ChangeAt Go.RowKit Go.Deep
def Up (w x:World):Prop:=Below w.heap.size w x
def Nb (t:TypeId)(w:World)(g:Nat)(x:En):Prop:=Bk w g t #[O Z x.kind,O Z x.th,O Z x.now]
theorem Nb.cells {t:TypeId}{w:World}{g:Nat}{x:En}(h:Nb t w g x):w.cell? ⟨g,0,V⟩=T (O Z x.kind)/\w.cell? ⟨g,1,V⟩=T (O Z x.th)/\w.cell? ⟨g,2,V⟩=T (O Z x.now):=⟨Bk.cell h 0,Bk.cell h 1,Bk.cell h 2⟩
theorem Nb.below {t:TypeId}{w w':World}{g:Nat}{x:En}(h:Nb t w g x)(hb:Below w.heap.size w w'):Nb t w' g x:=(hb.block g (Bk.lt h)).trans h
theorem Nb.made (t:TypeId)(w:World)(k h n:Int):Nb t (w.alloc (.cells #[O Z k,O Z h,O Z n] t)) w.heap.size ⟨k,h,n⟩:=Bk.made _ _ _
theorem rq.cut {w:World}{a:Option Addr}{l:List En}(h:rq w a l)(k:Nat):rq w a (l.take k):=by
 intro h0
 rw[List.length_take] at h0
 obtain⟨b,off,e,hlt,hc⟩:=h (by omega)
 refine⟨b,off,e,hlt,fun i x hi j hj=>hc i x ?_ j hj⟩
 rw[List.getElem?_take] at hi
 split at hi
 ·exact hi
 ·cases hi
end
section
open Go.ChangeShapes Go.WideShapes Go.ChangeAt Go.RowKit
structure gp where
 l:List aU
 lo:Int
 un:Int
def gp.zero:gp:=⟨[],0,0⟩
def nC (c:gp):Bool:=decide (1<=c.l.length) && (decide (c.l.length<=64) && (decide (0<=c.lo) && (decide (0<=c.un) && (decide (c.lo<c.l.length) && (decide (c.un<c.l.length) && c.l.all fun i=>au i c.l.length)))))
theorem Cz (c:gp)(h1:1<=c.l.length)(h2:c.l.length<=64):nC c=((c.l.all fun i=>au i c.l.length) && ((decide (0<=c.lo) && decide (c.lo<c.l.length)) && (decide (0<=c.un) && decide (c.un<c.l.length)))):=by
 unfold nC
 simp only[h1,h2,decide_true,Bool.true_and]
 generalize (c.l.all fun i=>au i c.l.length)=x
 generalize decide (0<=c.lo)=a
 generalize decide (0<=c.un)=b
 generalize decide (c.lo<c.l.length)=d
 generalize decide (c.un<c.l.length)=e
 cases a <;> cases b <;> cases d <;> cases e <;> cases x <;> rfl
theorem sS {c:gp}(h:¬ (1<=c.l.length/\c.l.length<=64)):nC c=U:=by
 unfold nC
 by_cases h1:1<=c.l.length
 ·have h2:¬ c.l.length<=64:=fun h2=>h ⟨h1,h2⟩
  simp[h2]
 ·simp[h1]
def jJ (i:aU):List Value:=[O Z i.op,O Z i.d,O Z i.s,O Z i.t,O Z i.u,O Z i.a,O .u32 i.k,O Z i.pl]
theorem ou (i:aU):(jJ i).length=8:=rfl
def bu (l:List aU):List Value:=l.flatMap jJ
theorem jS (l:List aU)(i:aU):bu (l++[i])=bu l++jJ i:=by simp[bu]
theorem ot (i:aU):∀ u∈jJ i,u.oneCell'=J:=by
 intro u hu
 simp only[jJ,List.mem_cons,List.not_mem_nil,or_false] at hu
 rcases hu with rfl|rfl|rfl|rfl|rfl|rfl|rfl|rfl <;> rfl
theorem C9:(Tryz.prog.info? 117).map (fun i=>(i.zero,i.size,i.bytes))=T (T (.agg #[O Z 0,O Z 0,O Z 0,O Z 0,O Z 0,O Z 0,O .u32 0,O Z 0]),8,64):=by kernel_rfl
theorem mX {α:Type}(f:α->List Value)(n:Nat)(hf:∀ x,(f x).length=n):∀ (l:List α) (k j:Nat) (x:α),l[k]?=T x->j<n->(l.flatMap f)[k*n+j]?=(f x)[j]?
 | [],k,j,x,h,_=>by simp at h
 | y :: l,0,j,x,h,hj=>by
  simp at h
  subst h
  simp[List.getElem?_append,hf,hj]
 | y :: l,k+1,j,x,h,hj=>by
  have ih:=mX f n hf l k j x (by simpa using h) hj
  rw[<-ih]
  have e:(k+1)*n+j=n+(k*n+j):=by rw[Nat.add_mul];omega
  rw[e,List.flatMap_cons,List.getElem?_append_right (by rw[hf];omega),hf]
  congr 1
  omega
theorem sR {l:List aU}{k:Nat}{i:aU}(h:l[k]?=T i){j:Nat}(hj:j<8):(bu l)[k*8+j]?=(jJ i)[j]?:=mX jJ 8 ou l k j i h hj
def Pg (w:World)(base:Nat)(v:Value)(c:gp):Prop:=∃ sl,v=.agg #[sl,O Z c.lo,O Z c.un]/\w.ownsRow base 117 8 sl c.l.length (bu c.l)
end
