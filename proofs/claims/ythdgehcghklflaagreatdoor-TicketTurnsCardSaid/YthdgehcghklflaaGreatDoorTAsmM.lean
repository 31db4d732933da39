import Derived.Test.YthdgehcghklflaaGreatDoorTMem
import Derived.Test.YthdgehcghklflaaGreatDoorTPrgM
import Derived.Test.YthdgehcghklflaaGreatDoorTInstP
import Derived.Test.YthdgehcghklflaaGreatDoorTWdA
import Derived.Test.YthdgehcghklflaaGreatDoorTLnA
import Derived.Test.YthdgehcghklflaaGreatDoorTRefP
import Derived.Laws.RangeAny
import Derived.Lib.OthersKept
import Derived.BigRegionIn
set_option linter.unusedVariables false
namespace Go.Proofs.YthdgehcghklflaaGreatDoor
def lowB (c:UInt8):Bool:=decide (97≤c.toNat) && decide (c.toNat≤122)
def digB (c:UInt8):Bool:=decide (48≤c.toNat) && decide (c.toNat≤57)
def nameB (s:List UInt8):Bool:=decide (1≤s.length) && (decide (s.length≤16) && (lowB (s.getD 0 0) && s.all fun c=>lowB c || digB c))
def goesB (i:Ins):Bool:=(decide (8≤i.op) && decide (i.op≤10)) || (decide (i.op=21) && decide (0≤i.pl))
def placeB (i:Ins):Bool:=decide (i.op=8∨i.op=9∨i.op=10) || (decide (i.op=21) && decide (i.pl≠-1))
def okAt (n:Nat)(c:UInt8):Bool:=lowB c || (digB c && decide (n≠0))
def restB:List UInt8→Nat→Bool
 | [],_=>true
 | c :: r,n=>okAt n c && restB r (n+1)
theorem rest_all:∀ (s:List UInt8) (n:Nat),0 < n→restB s n=s.all fun c=>lowB c || digB c
 | [],_,_=>rfl
 | c :: r,n,h=>by
  have hn:decide (n≠0)=true:=by simpa using Nat.ne_of_gt h
  rw[restB,rest_all r (n+1) (by omega),List.all_cons,okAt,hn,Bool.and_true]
theorem name_rest (s:List UInt8)(h0:1≤s.length)(h1:s.length≤16):nameB s=restB s 0:=by
 cases s with
 | nil=>simp at h0
 | cons c r=>
  unfold nameB
  rw[restB,rest_all r 1 (by omega)]
  simp only[h0,h1,decide_true,Bool.true_and,List.getD_cons_zero,List.all_cons,okAt]
  cases lowB c <;> simp
theorem draftR_k (ws:List (List UInt8)):0≤(draftR ws).k∧(draftR ws).k < 4294967296:=by
 have hk:0≤kOf ws.tail∧kOf ws.tail < 4294967296:=by unfold kOf;split <;> omega
 unfold draftR finI
 generalize kOf ws.tail=k at *
 repeat' split
 all_goals (simp only;omega)
def prs (s:List UInt8):Option Ins:=if parseRB s=true then some (draftR (wordsL s)) else none
theorem prs_iff (s:List UInt8)(i:Ins):prs s=some i↔rightB i 1073741824=true∧0≤i.k∧i.k < 4294967296∧textL i=s:=by
 unfold prs
 constructor
 ·intro h
  split at h
  ·rename_i hp
   injection h with h
   subst h
   have hp2:=hp
   unfold parseRB at hp2
   simp only[Bool.and_eq_true,decide_eq_true_eq] at hp2
   exact⟨hp2.2.1,(draftR_k _).1,(draftR_k _).2,hp2.2.2⟩
  ·cases h
 ·rintro⟨hr,k0,k1,rfl⟩
  rw[if_pos (parseR_text i hr k0 k1),(draftR_text i hr k0 k1).2]
def lastW (s:List UInt8):List UInt8:=(wordsL s).getLastD []
def headW (s:List UInt8):List UInt8:=s.take (s.length - (lastW s).length)
def lineL (s:List UInt8):Option (Ins×List UInt8):=
 match prs (headW s++[48]) with
 | some i=>if goesB i=true∧nameB (lastW s)=true then some (i,lastW s)
  else match prs s with
   | some j=>if goesB j=true then none else some (j,[])
   | none=>none
 | none=>match prs s with
  | some j=>if goesB j=true then none else some (j,[])
  | none=>none
def lbB (s:List UInt8):Bool:=!s.isEmpty && (decide (s.getLastD 0=58) && nameB s.dropLast)
def piecesL:List UInt8→List (List UInt8)
 | []=>[[]]
 | c :: r=>if c=10 then [] :: piecesL r else ahead c (piecesL r)
def asm1:List (List UInt8)→Int→List (List UInt8×Int)→List (Ins×List UInt8×Int)→(Int×Int) ⊕ (List (List UInt8×Int)×List (Ins×List UInt8×Int))
 | [],_,ls,rs=>.inr (ls,rs)
 | s :: more,n,ls,rs=>
  if lbB s=true then
   if (ls.any fun x=>x.1==s.dropLast)=true then .inl (n,2) else asm1 more (n+1) (ls++[(s.dropLast,(rs.length:Int))]) rs
  else match lineL s with
   | none=>.inl (n,8)
   | some (i,nm)=>if 64≤rs.length then .inl (n,9) else asm1 more (n+1) ls (rs++[(i,nm,n)])
def findL (ls:List (List UInt8×Int))(s:List UInt8)(n:Int):Int:=
 match ls.find? fun x=>x.1==s && decide (x.2 < n) with
 | some x=>x.2
 | none=>-1
def asm2 (ls:List (List UInt8×Int))(n:Int):List (Ins×List UInt8×Int)→(Int×Int) ⊕ List Ins
 | []=>.inr []
 | (i,nm,row) :: more=>
  if nm=[] then
   match asm2 ls n more with
   | .inl e=>.inl e
   | .inr l=>.inr (i :: l)
  else if findL ls nm n < 0 then .inl (row,10)
  else match asm2 ls n more with
   | .inl e=>.inl e
   | .inr l=>.inr ({ i with pl:=findL ls nm n } :: l)
def lockW:List UInt8:=[108,111,99,107]
def unlockW:List UInt8:=[117,110,108,111,99,107]
def asmL (text:List UInt8):Prg×Int×Int:=
 match asm1 (piecesL text).dropLast 1 [] [] with
 | .inl (n,e)=>(Prg.zero,n,e)
 | .inr (ls,rs)=>
  if (piecesL text).getLastD []≠[] then (Prg.zero,((piecesL text).length:Int),8)
  else match asm2 ls rs.length rs with
   | .inl (n,e)=>(Prg.zero,n,e)
   | .inr l=>if findL ls lockW rs.length < 0∨findL ls unlockW rs.length < 0 then (Prg.zero,0,10)
    else (⟨l,findL ls lockW rs.length,findL ls unlockW rs.length⟩,0,0)
def labelL (c:Prg)(at_:Int):List UInt8:=if at_=c.lo then lockW else if at_=c.un then unlockW else 108 :: Lib.itoa at_
def wantB (c:Prg)(k:Int):Bool:=c.l.any fun x=>goesB x && decide (x.pl=k)
def headI (i:Ins):List UInt8:=nmL i.op++partsL i (hsL i.op).dropLast++(if i.op=21 then [32,101,108,115,101,32] else [32])
def insLine (c:Prg)(i:Ins):List UInt8:=if goesB i=true then headI i++labelL c i.pl else textL i
def labsAt (c:Prg)(k:Int):List (List UInt8):=
 (if k=c.lo then [lockW] else [])++((if k=c.un then [unlockW] else [])++(if wantB c k=true∧k≠c.lo∧k≠c.un then [labelL c k] else []))
def linesFrom (c:Prg):List Ins→Int→List (List UInt8)
 | [],_=>[]
 | i :: more,k=>(labsAt c k).map (fun s=>s++[58])++insLine c i :: linesFrom c more (k+1)
def printL (c:Prg):List UInt8:=(linesFrom c c.l 0).flatMap fun s=>s++[10]
-- words
theorem ahead_app (c:UInt8)(a b:List (List UInt8))(h:a≠[]):ahead c (a++b)=ahead c a++b:=by
 cases a with
 | nil=>exact absurd rfl h
 | cons x y=>rfl
theorem wordsL_ne (s:List UInt8):wordsL s≠[]:=by
 have:=wordsL_pos s
 intro h
 rw[h] at this
 simp at this
theorem wordsL_cat:∀ (a b:List UInt8),wordsL (a++32 :: b)=wordsL a++wordsL b
 | [],b=>by simp[wordsL]
 | c :: a,b=>by
  have ih:=wordsL_cat a b
  show wordsL (c :: (a++32 :: b))=_
  by_cases hc:c=32
  ·rw[wordsL,if_pos hc,ih,wordsL,if_pos hc];rfl
  ·rw[wordsL,if_neg hc,ih,wordsL,if_neg hc,ahead_app _ _ _ (wordsL_ne a)]
theorem lastW_cat (a b:List UInt8)(h:Bf b):lastW (a++32 :: b)=b:=by
 unfold lastW
 rw[wordsL_cat,wordsL_one b h]
 simp
theorem headW_cat (a b:List UInt8)(h:Bf b):headW (a++32 :: b)=a++[32]:=by
 unfold headW
 rw[lastW_cat a b h]
 have e:(a++32 :: b).length - b.length=(a++[32]).length:=by simp;omega
 have e2:a++32 :: b=(a++[32])++b:=by simp
 rw[e,e2,List.take_left]
theorem name_bf {s:List UInt8}(h:nameB s=true):Bf s:=by
 unfold nameB at h
 simp only[Bool.and_eq_true] at h
 intro c hc e
 have:=List.all_eq_true.1 h.2.2.2 c hc
 subst e
 revert this
 decide
-- the name of an op
theorem op_of_name (op:Int)(h:hsL op≠[]):opTo (nmL op) 23=op:=by
 rcases op_cases op with rfl | rfl | rfl | rfl | rfl | rfl | rfl | rfl | rfl | rfl | rfl | rfl | rfl | rfl | rfl | rfl | rfl | rfl | rfl | rfl | rfl | hn
 all_goals first | decide | exact absurd (hs_none hn).1 h
theorem right_hs {i:Ins}{p:Int}(h:rightB i p=true):hsL i.op≠[]:=by
 unfold rightB at h
 simp only[Bool.and_eq_true,Bool.not_eq_true',List.isEmpty_eq_false_iff] at h
 exact h.1
theorem nm_inj {i j:Ins}{p q:Int}(hi:rightB i p=true)(hj:rightB j q=true)(h:nmL i.op=nmL j.op):i.op=j.op:=by
 rw[←op_of_name i.op (right_hs hi),h,op_of_name j.op (right_hs hj)]
theorem nm_bf (op:Int):Bf (nmL op):=by
 rcases op_cases op with rfl | rfl | rfl | rfl | rfl | rfl | rfl | rfl | rfl | rfl | rfl | rfl | rfl | rfl | rfl | rfl | rfl | rfl | rfl | rfl | rfl | hn
 all_goals first | (unfold Bf;decide) | (rw[(hs_none hn).2];unfold Bf;simp)
theorem right_more {i:Ins}{p q:Int}(hq:p≤q)(h:rightB i p=true):rightB i q=true:=by
 unfold rightB at *
 simp only[Bool.and_eq_true,List.all_eq_true] at *
 refine⟨h.1,fun c hc=>?_,h.2.2⟩
 have:=h.2.1 c hc
 unfold inB endI at *
 simp only[Bool.and_eq_true,decide_eq_true_eq] at *
 refine⟨this.1,?_⟩
 have h2:=this.2
 generalize (c.toNat:Int)=x at *
 generalize getI i x=y at *
 repeat' split at h2
 all_goals first | (simp_all;done) | (simp_all;omega)
theorem goes_cases {i:Ins}(h:goesB i=true):i.op=8∨i.op=9∨i.op=10∨(i.op=21∧0≤i.pl):=by
 unfold goesB at h
 simp only[Bool.or_eq_true,Bool.and_eq_true,decide_eq_true_eq] at h
 omega
theorem goes_pl {i:Ins}{p:Int}(hr:rightB i p=true)(h:goesB i=true):0≤i.pl∧i.pl < p:=by
 obtain⟨op,d,s,t,u,a,k,pl⟩:=i
 unfold rightB at hr
 rcases goes_cases h with e | e | e | ⟨e,e2⟩ <;> (simp only at e;subst e;simp[hsL,inB,lowI,endI,getI] at hr;simp only at *)
 ·exact hr.1.2.2
 ·exact hr.1.2.2
 ·exact hr.1
 ·have:=hr.1.2.2.2.2.2.2
  split at this <;> omega
theorem headI_pl (i:Ins)(h:goesB i=true)(p:Int):headI { i with pl:=p }=headI i:=by
 obtain⟨op,d,s,t,u,a,k,pl⟩:=i
 rcases goes_cases h with e | e | e | ⟨e,e2⟩ <;> (simp only at e;subst e;simp[headI,hsL,partsL,partL,getI])
theorem text_goes (i:Ins)(h:goesB i=true)(h0:0≤i.pl):textL i=headI i++Lib.itoa i.pl:=by
 obtain⟨op,d,s,t,u,a,k,pl⟩:=i
 rcases goes_cases h with e | e | e | ⟨e,e2⟩
 ·simp only at e;subst e;simp[textL,headI,hsL,partsL,partL,getI]
 ·simp only at e;subst e;simp[textL,headI,hsL,partsL,partL,getI]
 ·simp only at e;subst e;simp[textL,headI,hsL,partsL,partL,getI]
 ·simp only at e e2
  subst e
  have hne:pl≠-1:=by omega
  simp[textL,headI,hsL,partsL,partL,getI,hne]
theorem headI_end (i:Ins):∃ a,headI i=a++[32]:=by
 unfold headI
 split
 ·exact⟨nmL i.op++partsL i (hsL i.op).dropLast++[32,101,108,115,101],by simp⟩
 ·exact⟨nmL i.op++partsL i (hsL i.op).dropLast,rfl⟩
theorem right_zero {i:Ins}{p q:Int}(hr:rightB i p=true)(h:goesB i=true)(hq:0 < q):rightB { i with pl:=0 } q=true:=by
 obtain⟨op,d,s,t,u,a,k,pl⟩:=i
 unfold rightB at *
 rcases goes_cases h with e | e | e | ⟨e,e2⟩ <;> (simp only at e;subst e;simp[hsL,inB,lowI,endI,getI,isZ,clr,setI] at hr ⊢)
 ·refine⟨⟨hr.1.1,hr.1.2.1,hq⟩,hr.2⟩
 ·refine⟨⟨hr.1.1,hr.1.2.1,hq⟩,hr.2⟩
 ·refine⟨hq,hr.2⟩
 ·obtain⟨⟨q1,q2,q3,q4,q5,q6⟩,q7⟩:=hr
  refine⟨⟨q1,q2,q3,q4,q5,?_⟩,q7⟩
  split <;> omega
theorem goes_zero {i:Ins}(h:goesB i=true):goesB { i with pl:=0 }=true:=by
 unfold goesB at *
 simp only[Bool.or_eq_true,Bool.and_eq_true,decide_eq_true_eq] at *
 omega
theorem itoa_zero:Lib.itoa 0=[48]:=by
 rw[show (0:Int)=((0:Nat):Int) from rfl,itoa_nat,Lib.decDigits,dif_pos (by decide)]
 rfl
theorem line_goes (i:Ins){p:Int}(hr:rightB i p=true)(hp:p≤1073741824)(k0:0≤i.k)(k1:i.k < 4294967296)(h:goesB i=true)(nm:List UInt8)(hn:nameB nm=true):
 lineL (headI i++nm)=some ({ i with pl:=0 },nm):=by
 obtain⟨a,ha⟩:=headI_end i
 have hs:headI i++nm=a++32 :: nm:=by rw[ha];simp
 have h1:lastW (headI i++nm)=nm:=by rw[hs];exact lastW_cat a nm (name_bf hn)
 have h2:headW (headI i++nm)=headI i:=by rw[hs,headW_cat a nm (name_bf hn),ha]
 have h3:prs (headI i++[48])=some { i with pl:=0 }:=by
  rw[prs_iff]
  refine⟨right_zero hr h (by decide),k0,k1,?_⟩
  rw[text_goes _ (goes_zero h) (Int.le_refl 0),headI_pl i h 0]
  show headI i++Lib.itoa 0=_
  rw[itoa_zero]
 unfold lineL
 rw[h2,h3,h1]
 simp only
 rw[if_pos ⟨goes_zero h,hn⟩]
theorem last_blank:∀ s:List UInt8,Bf s∨∃ a b,Bf b∧s=a++32 :: b
 | []=>.inl (by unfold Bf;simp)
 | c :: r=>by
  rcases last_blank r with h | ⟨a,b,hb,rfl⟩
  ·by_cases hc:c=32
   ·exact .inr ⟨[],r,h,by rw[hc];rfl⟩
   ·refine .inl fun x hx=>?_
    rcases List.mem_cons.1 hx with rfl | hx
    ·exact hc
    ·exact h x hx
  ·exact .inr ⟨c :: a,b,hb,rfl⟩
theorem text_first {i:Ins}{p:Int}(hr:rightB i p=true):∃ r,textL i=nmL i.op++32 :: r:=by
 have hh:=right_hs hr
 obtain⟨op,d,s,t,u,a,k,pl⟩:=i
 simp only at hh
 rcases op_cases op with rfl | rfl | rfl | rfl | rfl | rfl | rfl | rfl | rfl | rfl | rfl | rfl | rfl | rfl | rfl | rfl | rfl | rfl | rfl | rfl | rfl | hn
 all_goals first
  | exact absurd (hs_none hn).1 hh
  | (unfold textL partsL;simp only[hsL];simp[partL,getI])
theorem text_head {i:Ins}{p:Int}(hr:rightB i p=true):(wordsL (textL i)).head?=some (nmL i.op):=by
 obtain⟨r,h⟩:=text_first hr
 rw[h,wordsL_cat,wordsL_one _ (nm_bf _)]
 rfl
theorem text_count {i:Ins}{p:Int}(hr:rightB i p=true)(hp:p≤1073741824)(k0:0≤i.k)(k1:i.k < 4294967296)(h:i.op=21):(i.pl=-1∧(wordsL (textL i)).length=6)∨(0≤i.pl∧(wordsL (textL i)).length=8):=by
 obtain⟨hd,hs,ht,hu,ha⟩:=right_regs i _ hr
 obtain⟨op,d,s,t,u,a,k,pl⟩:=i
 simp only at hd hs ht hu ha k0 k1 h
 subst h
 have hr2:=right_more hp hr
 have hr3:=right_21 d s t u a k pl 1073741824 hd hs ht hu ha k0 k1
 rw[hr2] at hr3
 simp[eqI] at hr3
 obtain⟨dn,rfl⟩:∃ n:Nat,d=n:=⟨d.toNat,by omega⟩
 obtain⟨sn,rfl⟩:∃ n:Nat,s=n:=⟨s.toNat,by omega⟩
 obtain⟨tn,rfl⟩:∃ n:Nat,t=n:=⟨t.toNat,by omega⟩
 obtain⟨un,rfl⟩:∃ n:Nat,u=n:=⟨u.toNat,by omega⟩
 obtain⟨an,rfl⟩:∃ n:Nat,a=n:=⟨a.toNat,by omega⟩
 obtain⟨kn,rfl⟩:∃ n:Nat,k=n:=⟨k.toNat,by omega⟩
 obtain rfl:un=0:=by omega
 by_cases hm:pl=-1
 ·subst hm
  refine .inl ⟨rfl,?_⟩
  by_cases hk:kn=0
  ·subst hk
   exact congrArg List.length (words_21_0m dn sn tn an 0)
  ·obtain rfl:kn=1:=by omega
   exact congrArg List.length (words_21_1m dn sn tn an 0)
 ·obtain⟨pn,rfl⟩:∃ n:Nat,pl=n:=⟨pl.toNat,by omega⟩
  refine .inr ⟨by simp,?_⟩
  by_cases hk:kn=0
  ·subst hk
   exact congrArg List.length (words_21_0p dn sn tn an pn)
  ·obtain rfl:kn=1:=by omega
   exact congrArg List.length (words_21_1p dn sn tn an pn)
theorem line_stay (i:Ins){p:Int}(hr:rightB i p=true)(hp:p≤1073741824)(k0:0≤i.k)(k1:i.k < 4294967296)(h:goesB i=false):lineL (textL i)=some (i,[]):=by
 have hr2:=right_more hp hr
 have h0:prs (textL i)=some i:=(prs_iff _ _).2 ⟨hr2,k0,k1,rfl⟩
 unfold lineL
 cases hj:prs (headW (textL i)++[48]) with
 | none=>simp only[h0,h];rfl
 | some j=>
  simp only
  rw[if_neg,h0]
  ·simp only[h];rfl
  ·rintro⟨hg,-⟩
   obtain⟨jr,j0,j1,jt⟩:=(prs_iff _ _).1 hj
   rcases last_blank (textL i) with hb | ⟨a,b,hb,hs⟩
   ·obtain⟨r,hr3⟩:=text_first hr
    rw[hr3] at hb
    exact hb 32 (by simp) rfl
   ·rw[hs,headW_cat a b hb] at jt
    have jt2:textL j=a++32 :: [48]:=by rw[jt];simp
    have w1:wordsL (textL i)=wordsL a++[b]:=by rw[hs,wordsL_cat,wordsL_one b hb]
    have w2:wordsL (textL j)=wordsL a++[[48]]:=by rw[jt2,wordsL_cat,wordsL_one [48] (by simp)]
    have e1:=text_head hr
    have e2:=text_head jr
    rw[w1] at e1
    rw[w2] at e2
    have hop:i.op=j.op:=by
     refine nm_inj hr jr ?_
     cases hw:wordsL a with
     | nil=>exact absurd hw (wordsL_ne a)
     | cons x y=>
      rw[hw] at e1 e2
      simp at e1 e2
      rw[←e1,←e2]
    rcases goes_cases hg with e | e | e | ⟨e,e3⟩
    ·unfold goesB at h;rw[hop,e] at h;revert h;simp
    ·unfold goesB at h;rw[hop,e] at h;revert h;simp
    ·unfold goesB at h;rw[hop,e] at h;revert h;simp
    ·have c1:=text_count hr hp k0 k1 (hop.trans e)
     have c2:=text_count jr (Int.le_refl _) j0 j1 e
     rw[w1] at c1
     rw[w2] at c2
     simp only[List.length_append,List.length_cons,List.length_nil] at c1 c2
     have:¬ 0≤i.pl:=by
      unfold goesB at h
      rw[hop,e] at h
      simp at h
      omega
     omega
theorem lb_no {s a b:List UInt8}(h:s=a++32 :: b)(hb:b≠[]):lbB s=false:=by
 rw[Bool.eq_false_iff]
 intro hl
 unfold lbB at hl
 simp only[Bool.and_eq_true] at hl
 have hn:=name_bf hl.2.2
 refine hn 32 ?_ rfl
 rw[h,List.dropLast_append_of_ne_nil (by simp)]
 cases b with
 | nil=>exact absurd rfl hb
 | cons x y=>simp
theorem lb_yes {s:List UInt8}(h:nameB s=true):lbB (s++[58])=true:=by
 unfold lbB
 simp[h]
inductive Tok where
 | lab (nm:List UInt8)
 | ins (i:Ins) (nm s:List UInt8)
def Tok.text:Tok→List UInt8
 | .lab nm=>nm++[58]
 | .ins _ _ s=>s
def Tok.Ok:Tok→Prop
 | .lab nm=>nameB nm=true
 | .ins i nm s=>lbB s=false∧lineL s=some (i,nm)
def labsT:List Tok→Int→List (List UInt8×Int)
 | [],_=>[]
 | .lab nm :: m,k=>(nm,k) :: labsT m k
 | .ins _ _ _ :: m,k=>labsT m (k+1)
def rowsT:List Tok→Int→List (Ins×List UInt8×Int)
 | [],_=>[]
 | .lab _ :: m,n=>rowsT m (n+1)
 | .ins i nm _ :: m,n=>(i,nm,n) :: rowsT m (n+1)
def namesT:List Tok→List (List UInt8)
 | []=>[]
 | .lab nm :: m=>nm :: namesT m
 | .ins _ _ _ :: m=>namesT m
theorem names_labs:∀ (toks:List Tok) (k:Int),(labsT toks k).map (·.1)=namesT toks
 | [],_=>rfl
 | .lab nm :: m,k=>by simp[labsT,namesT,names_labs m k]
 | .ins _ _ _ :: m,k=>by simp[labsT,namesT,names_labs m (k+1)]
theorem asm1_toks:∀ (toks:List Tok) (n:Int) (ls:List (List UInt8×Int)) (rs:List (Ins×List UInt8×Int)),(∀ t∈toks,t.Ok)→(ls.map (·.1)++namesT toks).Nodup→rs.length+(rowsT toks n).length≤64→
 asm1 (toks.map Tok.text) n ls rs=.inr (ls++labsT toks rs.length,rs++rowsT toks n)
 | [],n,ls,rs,_,_,_=>by simp[asm1,labsT,rowsT]
 | .lab nm :: m,n,ls,rs,hok,hnd,hc=>by
  have h1:nameB nm=true:=hok _ List.mem_cons_self
  have hany:(ls.any fun x=>x.1==nm)=false:=by
   rw[Bool.eq_false_iff]
   intro h
   obtain⟨x,hx,he⟩:=List.any_eq_true.1 h
   have he2:x.1=nm:=by simpa using he
   have:=(List.nodup_append.1 hnd).2.2 x.1 (List.mem_map.2 ⟨x,hx,rfl⟩) nm (by simp[namesT])
   exact this he2
  have ih:=asm1_toks m (n+1) (ls++[(nm,(rs.length:Int))]) rs (fun t ht=>hok t (List.mem_cons_of_mem _ ht)) (by simpa [namesT] using hnd) (by simpa [rowsT] using hc)
  simp only[List.map_cons,Tok.text,asm1,lb_yes h1,if_pos,List.dropLast_concat,hany]
  rw[if_neg (by decide),ih]
  simp[labsT,rowsT]
 | .ins i nm s :: m,n,ls,rs,hok,hnd,hc=>by
  obtain⟨h1,h2⟩:lbB s=false∧lineL s=some (i,nm):=hok _ List.mem_cons_self
  have hc2:rs.length+((rowsT m (n+1)).length+1)≤64:=by simpa [rowsT] using hc
  have ih:=asm1_toks m (n+1) ls (rs++[(i,nm,n)]) (fun t ht=>hok t (List.mem_cons_of_mem _ ht)) (by simpa [namesT] using hnd) (by simp;omega)
  simp only[List.map_cons,Tok.text,asm1,h1,h2]
  rw[if_neg (by decide),if_neg (by omega),ih]
  simp[labsT,rowsT]
theorem find_mem:∀ (ls:List (List UInt8×Int)) (s:List UInt8) (p n:Int),(ls.map (·.1)).Nodup→(s,p)∈ls→p < n→findL ls s n=p
 | [],s,p,n,_,h,_=>by simp at h
 | (x,q) :: m,s,p,n,hnd,h,hp=>by
  unfold findL
  by_cases e:(s,p)=(x,q)
  ·injection e with e1 e2
   subst e1 e2
   simp[hp]
  ·have hm:(s,p)∈m:=by
    rcases List.mem_cons.1 h with h | h
    ·exact absurd h e
    ·exact h
   have hne:x≠s:=by
    rintro rfl
    have h2:x ∉ m.map (·.1):=(List.nodup_cons.1 hnd).1
    exact h2 (List.mem_map.2 ⟨(x,p),hm,rfl⟩)
   have ih:=find_mem m s p n (List.nodup_cons.1 hnd).2 hm hp
   unfold findL at ih
   rw[List.find?_cons_of_neg (by simp[hne])]
   exact ih
theorem asm2_all (ls:List (List UInt8×Int))(n:Int):∀ (rs:List (Ins×List UInt8×Int)),(∀ r∈rs,r.2.1=[]∨0≤findL ls r.2.1 n)→
 asm2 ls n rs=.inr (rs.map fun r=>if r.2.1=[] then r.1 else { r.1 with pl:=findL ls r.2.1 n })
 | [],_=>rfl
 | (i,nm,row) :: m,h=>by
  have ih:=asm2_all ls n m fun r hr=>h r (List.mem_cons_of_mem _ hr)
  have h1:=h _ List.mem_cons_self
  simp only at h1
  unfold asm2
  by_cases e:nm=[]
  ·rw[if_pos e,ih]
   simp[e]
  ·rw[if_neg e,if_neg (by rcases h1 with h1 | h1;exact absurd h1 e;omega),ih]
   simp[e]
-- lines
theorem piecesL_ne:∀ s:List UInt8,piecesL s≠[]
 | []=>by simp[piecesL]
 | c :: r=>by
  unfold piecesL
  split
  ·simp
  ·cases h:piecesL r with
   | nil=>simp[ahead]
   | cons a b=>simp[ahead]
theorem pieces_more:∀ (t r:List UInt8),Nl t→piecesL (t++10 :: r)=t :: piecesL r
 | [],r,_=>by simp[piecesL]
 | c :: t,r,h=>by
  have ih:=pieces_more t r fun d hd=>h d (List.mem_cons_of_mem _ hd)
  show piecesL (c :: (t++10 :: r))=_
  rw[piecesL,if_neg (h c List.mem_cons_self),ih]
  rfl
theorem pieces_lines:∀ (l:List (List UInt8)),(∀ s∈l,Nl s)→piecesL (l.flatMap fun s=>s++[10])=l++[[]]
 | [],_=>rfl
 | s :: m,h=>by
  have ih:=pieces_lines m fun x hx=>h x (List.mem_cons_of_mem _ hx)
  rw[List.flatMap_cons,List.append_assoc]
  show piecesL (s++10 :: (m.flatMap fun s=>s++[10]))=_
  rw[pieces_more s _ (h s List.mem_cons_self),ih]
  rfl
def rowI (c:Prg)(i:Ins):Ins×List UInt8:=if goesB i=true then ({ i with pl:=0 },labelL c i.pl) else (i,[])
def finQ (ls:List (List UInt8×Int))(n:Int)(q:Ins×List UInt8):Ins:=if q.2=[] then q.1 else { q.1 with pl:=findL ls q.2 n }
theorem label_ne (c:Prg)(k:Int):labelL c k≠[]:=by
 unfold labelL lockW unlockW
 split
 ·simp
 ·split <;> simp
theorem label_at (c:Prg)(i:Ins)(hi:i∈c.l)(hg:goesB i=true):labelL c i.pl∈labsAt c i.pl:=by
 by_cases h1:i.pl=c.lo
 ·rw[show labelL c i.pl=lockW by unfold labelL;rw[if_pos h1]]
  unfold labsAt
  simp[h1]
 ·by_cases h2:i.pl=c.un
  ·rw[show labelL c i.pl=unlockW by unfold labelL;rw[if_neg h1,if_pos h2]]
   unfold labsAt
   refine List.mem_append.2 (.inr (List.mem_append.2 (.inl ?_)))
   rw[if_pos h2]
   exact List.mem_cons_self
  ·have hw:wantB c i.pl=true:=by
    unfold wantB
    rw[List.any_eq_true]
    exact⟨i,hi,by simp[hg]⟩
   unfold labsAt
   simp[h1,h2,hw]
theorem asm_prog (c:Prg)(hc:prgB c=true)(toks:List Tok)(hok:∀ t∈toks,t.Ok)(hnd:(namesT toks).Nodup)(hnl:∀ t∈toks,Nl t.text)
 (hrows:(rowsT toks 1).map (fun r=>(r.1,r.2.1))=c.l.map (rowI c)) (hl:∀ (j:Int) (x:List UInt8),0≤j→j < c.l.length→x∈labsAt c j→(x,j)∈labsT toks 0):
 asmL ((toks.map Tok.text).flatMap fun s=>s++[10])=(c,0,0):=by
 unfold prgB at hc
 simp only[Bool.and_eq_true,decide_eq_true_eq,List.all_eq_true] at hc
 obtain⟨c1,c2,c3,c4,c5,c6,c7⟩:=hc
 have hlen:(rowsT toks 1).length=c.l.length:=by
  have:=congrArg List.length hrows
  simpa using this
 have hp:=pieces_lines (toks.map Tok.text) (by
  intro s hs
  obtain⟨t,ht,rfl⟩:=List.mem_map.1 hs
  exact hnl t ht)
 have h1:=asm1_toks toks 1 [] [] hok (by simpa using hnd) (by simpa [hlen] using c2)
 simp only[List.nil_append,List.length_nil,Int.ofNat_zero] at h1
 have hfnd:∀ (j:Int) (x:List UInt8),0≤j→j < c.l.length→x∈labsAt c j→findL (labsT toks 0) x c.l.length=j:=fun j x j0 j1 hx=>
  find_mem _ _ _ _ (by rw[names_labs];exact hnd) (hl j x j0 j1 hx) j1
 have hlo:findL (labsT toks 0) lockW c.l.length=c.lo:=hfnd c.lo lockW c3 c5 (by unfold labsAt;simp)
 have hun:findL (labsT toks 0) unlockW c.l.length=c.un:=hfnd c.un unlockW c4 c6 (by unfold labsAt;simp)
 have hgo:∀ i∈c.l,goesB i=true→findL (labsT toks 0) (labelL c i.pl) c.l.length=i.pl:=fun i hi hg=>
  hfnd i.pl _ (goes_pl (c7 i hi) hg).1 (goes_pl (c7 i hi) hg).2 (label_at c i hi hg)
 have h2:asm2 (labsT toks 0) c.l.length (rowsT toks 1)=.inr c.l:=by
  have e:∀ r∈rowsT toks 1,∃ i∈c.l,(r.1,r.2.1)=rowI c i:=fun r hr=>by
   have:(r.1,r.2.1)∈c.l.map (rowI c):=by rw[←hrows];exact List.mem_map.2 ⟨r,hr,rfl⟩
   obtain⟨i,hi,he⟩:=List.mem_map.1 this
   exact⟨i,hi,he.symm⟩
  rw[asm2_all]
  ·congr 1
   have e2:(rowsT toks 1).map (fun r=>if r.2.1=[] then r.1 else { r.1 with pl:=findL (labsT toks 0) r.2.1 c.l.length }) =
    ((rowsT toks 1).map fun r=>(r.1,r.2.1)).map (finQ (labsT toks 0) c.l.length):=by
    rw[List.map_map];rfl
   rw[e2,hrows,List.map_map]
   conv=>rhs;rw[←List.map_id c.l]
   refine List.map_congr_left fun i hi=>?_
   show finQ (labsT toks 0) c.l.length (rowI c i)=i
   by_cases hg:goesB i=true
   ·rw[show rowI c i=({ i with pl:=0 },labelL c i.pl) from if_pos hg]
    unfold finQ
    simp only
    rw[if_neg (label_ne c _),hgo i hi hg]
   ·rw[show rowI c i=(i,[]) from if_neg hg]
    rfl
  ·intro r hr
   obtain⟨i,hi,he⟩:=e r hr
   unfold rowI at he
   by_cases hg:goesB i=true
   ·rw[if_pos hg] at he
    injection he with e3 e4
    right
    rw[e4,hgo i hi hg]
    exact(goes_pl (c7 i hi) hg).1
   ·rw[if_neg hg] at he
    injection he with e3 e4
    exact .inl e4
 unfold asmL
 rw[hp,List.dropLast_concat,h1]
 simp only[List.getLastD_concat,hlen,h2,hlo,hun]
 rw[if_neg (by simp),if_neg (by omega)]
theorem itoa_nn {n:Int}(h:0≤n):Lib.itoa n=Lib.decDigits n.toNat:=by unfold Lib.itoa;rw[if_neg (by omega)]
theorem itoa_inj {m n:Int}(hm:0≤m)(hn:0≤n)(h:Lib.itoa m=Lib.itoa n):m=n:=by
 rw[itoa_nn hm,itoa_nn hn] at h
 have h1:=numFrom_dec m.toNat
 rw[h,numFrom_dec n.toNat] at h1
 injection h1 with h1
 omega
theorem itoa_digit {n:Int}(h:0≤n):∀ c∈Lib.itoa n,digB c=true:=by
 rw[itoa_nn h]
 intro c hc
 have:=dec_digit n.toNat c hc
 unfold digB
 simp[this]
theorem itoa_nl (n:Int):Nl (Lib.itoa n):=by
 have key:∀ k:Nat,Nl (Lib.decDigits k):=fun k c hc e=>by
  have:=dec_digit k c hc
  rw[e] at this
  revert this
  decide
 unfold Lib.itoa
 split
 ·intro c hc
  rcases List.mem_cons.1 hc with rfl | hc
  ·decide
  ·exact key _ c hc
 ·exact key _
theorem name_place {n:Int}(h0:0≤n)(h1:n < 64):nameB (108 :: Lib.itoa n)=true:=by
 have hd:=itoa_digit h0
 have hl:(Lib.itoa n).length≤2:=by
  rw[itoa_nn h0]
  exact dec_len10 1 n.toNat (by omega)
 unfold nameB
 simp only[Bool.and_eq_true,decide_eq_true_eq,List.all_eq_true,List.length_cons]
 refine⟨by omega,by omega,(show lowB 108=true by decide),fun c hc=>?_⟩
 rcases List.mem_cons.1 hc with rfl | hc
 ·decide
 ·simp[hd c hc]
theorem name_label (c:Prg){k:Int}(h0:0≤k)(h1:k < 64):nameB (labelL c k)=true:=by
 unfold labelL
 split
 ·decide
 ·split
  ·decide
  ·exact name_place h0 h1
theorem labs_cases {c:Prg}{k:Int}{x:List UInt8}(h:x∈labsAt c k):(x=lockW∧k=c.lo)∨(x=unlockW∧k=c.un)∨(x=108 :: Lib.itoa k∧k≠c.lo∧k≠c.un):=by
 unfold labsAt at h
 rcases List.mem_append.1 h with h | h
 ·split at h
  ·exact .inl ⟨by simpa using h,by assumption⟩
  ·simp at h
 ·rcases List.mem_append.1 h with h | h
  ·split at h
   ·exact .inr (.inl ⟨by simpa using h,by assumption⟩)
   ·simp at h
  ·split at h
   ·rename_i hw
    refine .inr (.inr ⟨?_,hw.2⟩)
    have:x=labelL c k:=by simpa using h
    rw[this]
    unfold labelL
    rw[if_neg hw.2.1,if_neg hw.2.2]
   ·simp at h
theorem labs_name {c:Prg}{k:Int}{x:List UInt8}(h:x∈labsAt c k)(h0:0≤k)(h1:k < 64):nameB x=true:=by
 rcases labs_cases h with ⟨rfl,-⟩ | ⟨rfl,-⟩ | ⟨rfl,-⟩
 ·decide
 ·decide
 ·exact name_place h0 h1
theorem lock_no {n:Int}(h:0≤n):lockW≠108 :: Lib.itoa n:=by
 intro e
 unfold lockW at e
 injection e with _ e
 have:=itoa_digit h 111 (by rw[←e];simp)
 revert this
 decide
theorem unlock_no (n:Int):unlockW≠108 :: Lib.itoa n:=by
 intro e
 unfold unlockW at e
 injection e with e _
 revert e
 decide
theorem labs_place {c:Prg}{j k:Int}{x:List UInt8}(j0:0≤j)(k0:0≤k)(hj:x∈labsAt c j)(hk:x∈labsAt c k):j=k:=by
 rcases labs_cases hj with ⟨e1,h1⟩ | ⟨e1,h1⟩ | ⟨e1,h1⟩ <;> rcases labs_cases hk with ⟨e2,h2⟩ | ⟨e2,h2⟩ | ⟨e2,h2⟩
 ·omega
 ·rw[e1] at e2;exact absurd e2 (by decide)
 ·rw[e1] at e2;exact absurd e2 (lock_no k0)
 ·rw[e1] at e2;exact absurd e2 (by decide)
 ·omega
 ·rw[e1] at e2;exact absurd e2 (unlock_no k)
 ·rw[e2] at e1;exact absurd e1 (lock_no j0)
 ·rw[e2] at e1;exact absurd e1 (unlock_no j)
 ·rw[e1] at e2
  injection e2 with _ e2
  exact itoa_inj j0 k0 e2
theorem labs_nodup (c:Prg)(k:Int):(labsAt c k).Nodup:=by
 have hne:lockW≠unlockW:=by decide
 unfold labsAt
 by_cases h1:k=c.lo
 ·by_cases h2:k=c.un
  ·rw[if_pos h1,if_pos h2,if_neg (fun h=>h.2.1 h1)];simp[hne]
  ·rw[if_pos h1,if_neg h2,if_neg (fun h=>h.2.1 h1)];simp
 ·by_cases h2:k=c.un
  ·rw[if_neg h1,if_pos h2,if_neg (fun h=>h.2.2 h2)];simp
  ·rw[if_neg h1,if_neg h2];split <;> simp
def toksFrom (c:Prg):List Ins→Int→List Tok
 | [],_=>[]
 | i :: more,k=>(labsAt c k).map Tok.lab++Tok.ins (rowI c i).1 (rowI c i).2 (insLine c i) :: toksFrom c more (k+1)
theorem toks_text (c:Prg):∀ (l:List Ins) (k:Int),(toksFrom c l k).map Tok.text=linesFrom c l k
 | [],_=>rfl
 | i :: m,k=>by
  simp only[toksFrom,linesFrom,List.map_append,List.map_map,List.map_cons,toks_text c m (k+1)]
  rfl
theorem names_app:∀ (a b:List Tok),namesT (a++b)=namesT a++namesT b
 | [],b=>rfl
 | .lab nm :: a,b=>by simp[namesT,names_app a b]
 | .ins _ _ _ :: a,b=>by simp[namesT,names_app a b]
theorem names_lab:∀ l:List (List UInt8),namesT (l.map Tok.lab)=l
 | []=>rfl
 | x :: l=>by simp[namesT,names_lab l]
theorem names_toks (c:Prg)(i:Ins)(m:List Ins)(k:Int):namesT (toksFrom c (i :: m) k)=labsAt c k++namesT (toksFrom c m (k+1)):=by
 rw[toksFrom,names_app,names_lab]
 rfl
theorem names_mem (c:Prg):∀ (l:List Ins) (k:Int) (x:List UInt8),x∈namesT (toksFrom c l k)→∃ j,k≤j∧j < k+l.length∧x∈labsAt c j
 | [],k,x,h=>by simp[toksFrom,namesT] at h
 | i :: m,k,x,h=>by
  rw[names_toks] at h
  rcases List.mem_append.1 h with h | h
  ·exact⟨k,Int.le_refl _,by simp;omega,h⟩
  ·obtain⟨j,h1,h2,h3⟩:=names_mem c m (k+1) x h
   exact⟨j,by omega,by simp;omega,h3⟩
theorem names_nodup (c:Prg):∀ (l:List Ins) (k:Int),0≤k→(namesT (toksFrom c l k)).Nodup
 | [],k,_=>by simp[toksFrom,namesT]
 | i :: m,k,h=>by
  rw[names_toks,List.nodup_append]
  refine⟨labs_nodup c k,names_nodup c m (k+1) (by omega),fun x hx y hy e=>?_⟩
  subst e
  obtain⟨j,h1,h2,h3⟩:=names_mem c m (k+1) x hy
  have:=labs_place h (by omega) hx h3
  omega
theorem labsT_app:∀ (a b:List Tok) (k:Int),labsT (a++b) k=labsT a k++labsT b (k+(rowsT a 0).length)
 | [],b,k=>by simp[labsT,rowsT]
 | .lab nm :: a,b,k=>by
  have:(rowsT a (0+1)).length=(rowsT a 0).length:=rows_len a _ _
  simp only[List.cons_append,labsT,rowsT,labsT_app a b k,this]
 | .ins _ _ _ :: a,b,k=>by
  have:(rowsT a (0+1)).length=(rowsT a 0).length:=rows_len a _ _
  simp only[List.cons_append,labsT,rowsT,labsT_app a b (k+1),List.length_cons,this]
  congr 2
  simp
  omega
where
 rows_len:∀ (a:List Tok) (m n:Int),(rowsT a m).length=(rowsT a n).length
  | [],_,_=>rfl
  | .lab _ :: a,m,n=>by simp only[rowsT];exact rows_len a _ _
  | .ins _ _ _ :: a,m,n=>by simp only[rowsT,List.length_cons];rw[rows_len a _ _]
theorem rows_lab (l:List (List UInt8))(n:Int):rowsT (l.map Tok.lab) n=[]:=by
 induction l generalizing n with
 | nil=>rfl
 | cons x l ih=>simp only[List.map_cons,rowsT];exact ih _
theorem labsT_lab (l:List (List UInt8))(k:Int):labsT (l.map Tok.lab) k=l.map fun x=>(x,k):=by
 induction l with
 | nil=>rfl
 | cons x l ih=>simp only[List.map_cons,labsT,ih]
theorem labsT_toks (c:Prg)(i:Ins)(m:List Ins)(k q:Int):labsT (toksFrom c (i :: m) k) q=(labsAt c k).map (fun x=>(x,q))++labsT (toksFrom c m (k+1)) (q+1):=by
 rw[toksFrom,labsT_app,rows_lab,labsT_lab]
 simp[labsT]
theorem labs_mem (c:Prg):∀ (l:List Ins) (k j:Int) (x:List UInt8),k≤j→j < k+l.length→x∈labsAt c j→(x,j)∈labsT (toksFrom c l k) k
 | [],k,j,x,h1,h2,_=>by simp at h2;omega
 | i :: m,k,j,x,h1,h2,h=>by
  rw[labsT_toks]
  by_cases e:j=k
  ·subst e
   exact List.mem_append.2 (.inl (List.mem_map.2 ⟨x,h,rfl⟩))
  ·exact List.mem_append.2 (.inr (labs_mem c m (k+1) j x (by omega) (by simp at h2;omega) h))
theorem rowsT_app:∀ (a b:List Tok) (n:Int),rowsT (a++b) n=rowsT a n++rowsT b (n+a.length)
 | [],b,n=>by simp[rowsT]
 | .lab nm :: a,b,n=>by
  simp only[List.cons_append,rowsT,rowsT_app a b (n+1),List.length_cons]
  congr 2
  simp
  omega
 | .ins _ _ _ :: a,b,n=>by
  simp only[List.cons_append,rowsT,rowsT_app a b (n+1),List.length_cons]
  congr 3
  simp
  omega
theorem rows_toks (c:Prg):∀ (l:List Ins) (k n:Int),(rowsT (toksFrom c l k) n).map (fun r=>(r.1,r.2.1))=l.map (rowI c)
 | [],_,_=>rfl
 | i :: m,k,n=>by
  rw[toksFrom,rowsT_app,rows_lab]
  simp[rowsT,rows_toks c m]
theorem nm_nl (op:Int):Nl (nmL op):=by
 rcases op_cases op with rfl | rfl | rfl | rfl | rfl | rfl | rfl | rfl | rfl | rfl | rfl | rfl | rfl | rfl | rfl | rfl | rfl | rfl | rfl | rfl | rfl | hn
 all_goals first | (unfold Nl;decide) | (rw[(hs_none hn).2];unfold Nl;simp)
theorem part_nl (i:Ins)(x:Int):Nl (partL i x):=by
 have key:∀ (a:List UInt8) (n:Int),(∀ y∈a,y≠10)→Nl (a++Lib.itoa n):=fun a n ha=>Nl.app ha (itoa_nl n)
 have k1:∀ n:Int,Nl (32 :: Lib.itoa n):=fun n=>key [32] n (by decide)
 unfold partL
 repeat' split
 all_goals first
  | exact k1 _
  | exact key _ _ (by decide)
  | (unfold Nl;decide)
theorem parts_nl (i:Ins):∀ l:List UInt8,Nl (partsL i l)
 | []=>by unfold Nl partsL;simp
 | x :: l=>by
  have:partsL i (x :: l)=partL i x.toNat++partsL i l:=by simp[partsL]
  rw[this]
  exact Nl.app (part_nl i _) (parts_nl i l)
theorem text_nl (i:Ins):Nl (textL i):=Nl.app (nm_nl _) (parts_nl i _)
theorem head_nl (i:Ins):Nl (headI i):=by
 unfold headI
 refine Nl.app (Nl.app (nm_nl _) (parts_nl i _)) ?_
 split <;> (unfold Nl;decide)
theorem name_nl {s:List UInt8}(h:nameB s=true):Nl s:=by
 unfold nameB at h
 simp only[Bool.and_eq_true] at h
 intro c hc e
 have:=List.all_eq_true.1 h.2.2.2 c hc
 subst e
 revert this
 decide
theorem itoa_ne (n:Int):Lib.itoa n≠[]:=by
 unfold Lib.itoa
 split
 ·simp
 ·obtain⟨c,r,h,-⟩:=dec_cons n.toNat
  rw[h]
  simp
theorem text_rest {i:Ins}{p:Int}(hr:rightB i p=true):∃ r,textL i=nmL i.op++32 :: r∧r≠[]:=by
 have hh:=right_hs hr
 have hi:=itoa_ne
 obtain⟨op,d,s,t,u,a,k,pl⟩:=i
 simp only at hh
 rcases op_cases op with rfl | rfl | rfl | rfl | rfl | rfl | rfl | rfl | rfl | rfl | rfl | rfl | rfl | rfl | rfl | rfl | rfl | rfl | rfl | rfl | rfl | hn
 all_goals first
  | exact absurd (hs_none hn).1 hh
  | (unfold textL partsL;simp only[hsL];simp[partL,getI,hi])
theorem row_ok (c:Prg)(i:Ins)(hr:rightB i c.l.length=true)(hc:c.l.length≤64)(k0:0≤i.k)(k1:i.k < 4294967296):(Tok.ins (rowI c i).1 (rowI c i).2 (insLine c i)).Ok∧Nl (insLine c i):=by
 unfold Tok.Ok insLine
 simp only
 by_cases hg:goesB i=true
 ·have hp:=goes_pl hr hg
  have hn:=name_label c hp.1 (by omega:i.pl < 64)
  rw[if_pos hg,show rowI c i=({ i with pl:=0 },labelL c i.pl) from if_pos hg]
  obtain⟨a,ha⟩:=headI_end i
  exact⟨⟨lb_no (a:=a) (b:=labelL c i.pl) (by rw[ha];simp) (label_ne c _),line_goes i hr (by omega) k0 k1 hg _ hn⟩,Nl.app (head_nl i) (name_nl hn)⟩
 ·rw[if_neg hg,show rowI c i=(i,[]) from if_neg hg]
  obtain⟨r,h1,h2⟩:=text_rest hr
  exact⟨⟨lb_no h1 h2,line_stay i hr (by omega) k0 k1 (by simpa using hg)⟩,text_nl i⟩
theorem toks_ok (c:Prg)(hc:c.l.length≤64):∀ (l:List Ins) (k:Int),0≤k→k+l.length≤64→(∀ i∈l,rightB i c.l.length=true∧0≤i.k∧i.k < 4294967296)→∀ t∈toksFrom c l k,t.Ok∧Nl t.text
 | [],k,_,_,_,t,ht=>by simp[toksFrom] at ht
 | i :: m,k,h0,h1,h,t,ht=>by
  rw[toksFrom] at ht
  simp only[List.length_cons] at h1
  rcases List.mem_append.1 ht with ht | ht
  ·obtain⟨x,hx,rfl⟩:=List.mem_map.1 ht
   have hn:=labs_name hx h0 (by omega)
   exact⟨hn,Nl.app (name_nl hn) (by unfold Nl;decide)⟩
  ·rcases List.mem_cons.1 ht with rfl | ht
   ·obtain⟨a,b,d⟩:=h i List.mem_cons_self
    exact row_ok c i a hc b d
   ·exact toks_ok c hc m (k+1) (by omega) (by omega) (fun i hi=>h i (List.mem_cons_of_mem _ hi)) t ht
theorem prg_facts {c:Prg}(h:prgB c=true):c.l.length≤64∧∀ i∈c.l,rightB i c.l.length=true:=by
 unfold prgB at h
 simp only[Bool.and_eq_true,decide_eq_true_eq,List.all_eq_true] at h
 exact⟨h.2.1,h.2.2.2.2.2.2⟩
theorem asm_print (c:Prg)(hc:prgB c=true)(hk:∀ i∈c.l,0≤i.k∧i.k < 4294967296):asmL (printL c)=(c,0,0):=by
 obtain⟨h1,h2⟩:=prg_facts hc
 have hok:=toks_ok c h1 c.l 0 (by omega) (by omega) fun i hi=>⟨h2 i hi,hk i hi⟩
 unfold printL
 rw[←toks_text]
 exact asm_prog c hc _ (fun t ht=>(hok t ht).1) (names_nodup c _ _ (by omega)) (fun t ht=>(hok t ht).2) (rows_toks c _ _ _)
  fun j x j0 j1 hx=>labs_mem c c.l 0 j x j0 (by omega) hx
theorem findA_lt {ls:List (List UInt8×Int)}{s:List UInt8}{n:Int}(h:0≤findL ls s n):findL ls s n < n:=by
 unfold findL at *
 split at h
 ·rename_i x hx
  have:=List.find?_some hx
  simp only[Bool.and_eq_true,decide_eq_true_eq] at this
  exact this.2
 ·omega
def finishL (ls:List (List UInt8×Int))(rs:List (Ins×List UInt8×Int)):Prg×Int×Int:=
 match asm2 ls rs.length rs with
 | .inl (n,e)=>(Prg.zero,n,e)
 | .inr l=>if findL ls lockW rs.length < 0∨findL ls unlockW rs.length < 0 then (Prg.zero,0,10)
  else (⟨l,findL ls lockW rs.length,findL ls unlockW rs.length⟩,0,0)
def asmGo (t:List UInt8)(n:Int)(ls:List (List UInt8×Int))(rs:List (Ins×List UInt8×Int)):Prg×Int×Int:=
 match asm1 (piecesL t).dropLast n ls rs with
 | .inl (m,e)=>(Prg.zero,m,e)
 | .inr (ls,rs)=>if (piecesL t).getLastD []≠[] then (Prg.zero,n+(piecesL t).length - 1,8) else finishL ls rs
theorem asmGo_all (text:List UInt8):asmL text=asmGo text 1 [] []:=by
 have e:(1:Int)+((piecesL text).length:Int) - 1=((piecesL text).length:Int):=by omega
 unfold asmL asmGo finishL
 rw[e]
theorem dropLast_cons {α:Type}(x:α)(l:List α)(h:l≠[]):(x :: l).dropLast=x :: l.dropLast:=by
 cases l with
 | nil=>exact absurd rfl h
 | cons a b=>rfl
theorem getLastD_cons' {α:Type}(x d:α)(l:List α)(h:l≠[]):(x :: l).getLastD d=l.getLastD d:=by
 cases l with
 | nil=>exact absurd rfl h
 | cons a b=>rfl
theorem asmGo_line (s r:List UInt8)(h:Nl s)(n:Int)(ls:List (List UInt8×Int))(rs:List (Ins×List UInt8×Int)):
 asmGo (s++10 :: r) n ls rs =
  if lbB s=true then (if (ls.any fun x=>x.1==s.dropLast)=true then (Prg.zero,n,2) else asmGo r (n+1) (ls++[(s.dropLast,(rs.length:Int))]) rs)
  else match lineL s with
   | none=>(Prg.zero,n,8)
   | some (i,nm)=>if 64≤rs.length then (Prg.zero,n,9) else asmGo r (n+1) ls (rs++[(i,nm,n)]):=by
 have hp:=pieces_more s r h
 have hne:=piecesL_ne r
 have e:n+((piecesL (s++10 :: r)).length:Int) - 1=n+1+((piecesL r).length:Int) - 1:=by
  rw[hp]
  simp
  omega
 unfold asmGo
 rw[e,hp,dropLast_cons _ _ hne,getLastD_cons' _ _ _ hne]
 simp only[asm1]
 by_cases h1:lbB s=true
 ·simp only[h1,if_true]
  by_cases h2:(ls.any fun x=>x.1==s.dropLast)=true
  ·simp only[h2,if_true]
  ·simp only[h2]
   rfl
 ·simp only[h1]
  cases hl:lineL s with
  | none=>simp
  | some q=>
   obtain⟨i,nm⟩:=q
   simp only
   by_cases h3:64≤rs.length
   ·simp[h3]
   ·simp[h3]
theorem asmGo_end (s:List UInt8)(h:Nl s)(n:Int)(ls:List (List UInt8×Int))(rs:List (Ins×List UInt8×Int)):asmGo s n ls rs=if s≠[] then (Prg.zero,n,8) else finishL ls rs:=by
 have hp:∀ t:List UInt8,Nl t→piecesL t=[t]:=by
  intro t
  induction t with
  | nil=>intro _;rfl
  | cons c t ih=>
   intro ht
   rw[piecesL,if_neg (ht c List.mem_cons_self),ih fun d hd=>ht d (List.mem_cons_of_mem _ hd)]
   rfl
 unfold asmGo
 rw[hp s h]
 simp[asm1]
theorem asm2_skip (ls:List (List UInt8×Int))(n:Int)(i:Ins)(row:Int)(more:List (Ins×List UInt8×Int)):
 asm2 ls n ((i,[],row) :: more)=match asm2 ls n more with | .inl e=>.inl e | .inr l=>.inr (i :: l):=by
 simp only[asm2]
 rfl
theorem asm2_name (ls:List (List UInt8×Int))(n:Int)(i:Ins)(nm:List UInt8)(hn:nm≠[])(row:Int)(more:List (Ins×List UInt8×Int)):
 asm2 ls n ((i,nm,row) :: more)=if findL ls nm n < 0 then .inl (row,10) else match asm2 ls n more with | .inl e=>.inl e | .inr l=>.inr ({ i with pl:=findL ls nm n } :: l):=by
 simp only[asm2]
 rw[if_neg hn]
theorem itoa_1 (n:Int)(h0:0≤n)(h9:n < 10):Lib.itoa n=[(48:UInt8)+UInt8.ofNat n.toNat]:=by
 obtain rfl | rfl | rfl | rfl | rfl | rfl | rfl | rfl | rfl | rfl:n=0∨n=1∨n=2∨n=3∨n=4∨n=5∨n=6∨n=7∨n=8∨n=9:=by omega
 all_goals
  unfold Lib.itoa
  rw[if_neg (by decide),Lib.decDigits,dif_pos (by decide)]
  decide
theorem tk_lines:insLine tkP ⟨20,1,0,0,0,0,1,0⟩=[102,97,100,100,32,114,49,32,48,32,114,48,32,49]∧insLine tkP ⟨12,0,0,0,0,0,1,0⟩=[109,97,114,107,32,49]∧insLine tkP ⟨21,2,0,1,0,1,0,-1⟩=[97,119,97,105,116,32,114,50,32,49,32,114,48,32,101,113,32,114,49]∧insLine tkP ⟨12,0,0,0,0,0,2,0⟩=[109,97,114,107,32,50]∧insLine tkP ⟨13,0,0,0,0,0,1,0⟩=[100,111,110,101,32,49]∧insLine tkP ⟨3,1,1,0,0,0,1,0⟩=[97,100,100,107,32,114,49,32,114,49,32,49]∧insLine tkP ⟨17,0,0,1,0,1,0,0⟩=[115,116,111,114,101,32,49,32,114,48,32,114,49]∧insLine tkP ⟨12,0,0,0,0,0,4,0⟩=[109,97,114,107,32,52]∧insLine tkP ⟨13,0,0,0,0,0,2,0⟩=[100,111,110,101,32,50]:=by
 have d0:Lib.itoa 0=[48]:=itoa_1 0 (by decide) (by decide)
 have d1:Lib.itoa 1=[49]:=itoa_1 1 (by decide) (by decide)
 have d2:Lib.itoa 2=[50]:=itoa_1 2 (by decide) (by decide)
 have d4:Lib.itoa 4=[52]:=itoa_1 4 (by decide) (by decide)
 refine⟨?_,?_,?_,?_,?_,?_,?_,?_,?_⟩
 all_goals
  unfold insLine
  rw[if_neg (by decide)]
  simp[textL,partsL,partL,hsL,nmL,getI,d0,d1,d2,d4]
theorem tk_print:printL tkP=tkText:=by
 obtain⟨h0,h1,h2,h3,h4,h5,h6,h7,h8⟩:=tk_lines
 have l0:labsAt tkP 0=[lockW]:=by decide
 have l1:labsAt tkP (0+1)=[]:=by decide
 have l2:labsAt tkP (0+1+1)=[]:=by decide
 have l3:labsAt tkP (0+1+1+1)=[]:=by decide
 have l4:labsAt tkP (0+1+1+1+1)=[]:=by decide
 have l5:labsAt tkP (0+1+1+1+1+1)=[unlockW]:=by decide
 have l6:labsAt tkP (0+1+1+1+1+1+1)=[]:=by decide
 have l7:labsAt tkP (0+1+1+1+1+1+1+1)=[]:=by decide
 have l8:labsAt tkP (0+1+1+1+1+1+1+1+1)=[]:=by decide
 have e:linesFrom tkP tkP.l 0=[lockW++[58],insLine tkP ⟨20,1,0,0,0,0,1,0⟩,insLine tkP ⟨12,0,0,0,0,0,1,0⟩,insLine tkP ⟨21,2,0,1,0,1,0,-1⟩,insLine tkP ⟨12,0,0,0,0,0,2,0⟩,insLine tkP ⟨13,0,0,0,0,0,1,0⟩,unlockW++[58],insLine tkP ⟨3,1,1,0,0,0,1,0⟩,insLine tkP ⟨17,0,0,1,0,1,0,0⟩,insLine tkP ⟨12,0,0,0,0,0,4,0⟩,insLine tkP ⟨13,0,0,0,0,0,2,0⟩]:=by
  show linesFrom tkP tkL 0=_
  unfold tkL
  simp only[linesFrom,l0,l1,l2,l3,l4,l5,l6,l7,l8,List.map_nil,List.map_cons,List.nil_append,List.cons_append]
 unfold printL
 rw[e,h0,h1,h2,h3,h4,h5,h6,h7,h8]
 rfl
theorem tk_right:prgB tkP=true:=by decide
theorem tk_k32:∀ i∈tkP.l,0≤i.k∧i.k < 4294967296:=by decide
theorem tk_asm:asmL tkText=(tkP,0,0):=by
 rw[←tk_print]
 exact asm_print tkP tk_right tk_k32
end Go.Proofs.YthdgehcghklflaaGreatDoor
namespace Go.Proofs.YthdgehcghklflaaGreatDoor
open Go.ChangeShapes Go.WideShapes Go.ChangeAt Go.RowKit
theorem iterPos_of {w:World}{k:Nat}{s:ByteArray}{p:Nat}(h:w.heap[k]?=some (.stringIter s p)):w.iterPos k=p:=by simp[World.iterPos,h]
theorem rest_drop (s:List UInt8)(n:Nat)(h:n < s.length):restB (s.drop n) n=(okAt n (s.getD n 0) && restB (s.drop (n+1)) (n+1)):=by
 rw[List.drop_eq_getElem_cons h,restB]
 simp[List.getD_eq_getElem?_getD,h]
def okN (n c:Nat):Bool:=(decide (97≤c) && decide (c≤122)) || ((decide (48≤c) && decide (c≤57)) && decide (n≠0))
theorem okAt_n (n:Nat)(c:UInt8):okAt n c=okN n c.toNat:=rfl
theorem okN_yes {n c:Nat}(h:okN n c=true):(97≤c∧c≤122)∨(48≤c∧c≤57∧n≠0):=by
 unfold okN at h
 simp only[Bool.or_eq_true,Bool.and_eq_true,decide_eq_true_eq] at h
 omega
theorem okN_no {n c:Nat}(h:okN n c=false):c < 48∨(48≤c∧c≤57∧n=0)∨(57 < c∧c < 97)∨122 < c:=by
 unfold okN at h
 simp only[Bool.or_eq_false_iff,Bool.and_eq_false_iff,decide_eq_false_iff_not] at h
 omega
set_option maxHeartbeats 1000000 in
theorem cIsName (s:List UInt8)(w:World):
 Calls Tryz.prog 96 #[bs s] w fun e w'=>e=.returned (.bool (nameB s))∧Below w.heap.size w w':=by
 have hsz:(⟨s.toArray⟩:ByteArray).size=s.length:=by show s.toArray.size=_;simp
 unfold bs
 by_cases h0:s=[]
 ·subst h0
  go_enter Tryz.func96,Tryz.ntmps96
  go_wp2
  go_ret
  exact⟨rfl,Below.refl _ _⟩
 by_cases h1:16 < s.length
 ·have e:nameB s=false:=by
   unfold nameB
   have:decide (s.length≤16)=false:=by simp;omega
   simp[this]
  rw[e]
  have q0:(s==[])=false:=by simpa using h0
  have q1:(16:Int) < s.length:=by omega
  go_enter Tryz.func96,Tryz.ntmps96
  go_wp2
  go_ret
  exact⟨rfl,Below.refl _ _⟩
 have q0:(s==[])=false:=by simpa using h0
 have q1:¬ (16:Int) < s.length:=by omega
 have hl:1≤s.length:=by cases s with
  | nil=>exact absurd rfl h0
  | cons=>simp
 have HN:=Lib.hid (name_rest s hl (by omega))
 generalize nameB s=r at *
 go_enter Tryz.func96,Tryz.ntmps96
 go_wp2
 go_loopw [2] (fun v wr=>∃ n:Nat,v=.bool false∧n≤s.length∧wr.heap[w.heap.size]?=some (.stringIter ⟨s.toArray⟩ n)∧Below w.heap.size w wr∧Hid (r=restB (s.drop n) n))
  (fun v wr=>s.length - wr.iterPos w.heap.size)
 case atStart=>exact⟨0,rfl,by omega,World.iter_heap w _ 0,(Below.refl _ _).alloc (Nat.le_refl _) _,Lib.hid (by simpa using HN.out)⟩
 case round=>
  obtain⟨n,rfl,hn,hit,hb,HR⟩:=hrel
  have hpos:=iterPos_of hit
  by_cases hp:n < s.length
  ·have hnx:∀ ty,(Instr.next (.pointer (some ⟨w.heap.size,0,none⟩)) true ty).run Tryz.prog wr=_:=fun ty=>Lib.run_next_any_at wr w.heap.size ⟨s.toArray⟩ n ty hit (by omega)
   have hg:(⟨s.toArray⟩:ByteArray)[n]'(by omega)=s.getD n 0:=by
    simp[ByteArray.getElem_eq_getElem_data,hp]
   have HD:=Lib.hid (rest_drop s n hp)
   have HK:Hid (okAt n (s.getD n 0)=okN n (s.getD n 0).toNat):=Lib.hid (okAt_n _ _)
   have hit2:=Lib.iterAt_heap wr w.heap.size ⟨s.toArray⟩ n (n+(Utf8.decode ⟨s.toArray⟩ n).2) hit
   have hb2:=Lib.below_iterAt hb (k:=w.heap.size) (Nat.le_refl _) ⟨s.toArray⟩ (n+(Utf8.decode ⟨s.toArray⟩ n).2)
   by_cases hc:(s.getD n 0).toNat < 128
   ·have hd:=decode_ascii ⟨s.toArray⟩ n (by omega) (by rw[hg];exact hc)
    rw[hg] at hd
    rw[hd] at hnx hit2 hb2
    simp only at hnx hit2 hb2
    clear hd hg hc
    generalize wr.iterAt w.heap.size ⟨s.toArray⟩ (n+1)=W1 at *
    rw[HK.out] at HD
    clear HK
    generalize (s.getD n 0).toNat=c at *
    clear hit
    cases ho:okN n c with
    | true=>
     have HR2:Hid (r=restB (s.drop (n+1)) (n+1)):=Lib.hid (by rw[HR.out,HD.out,ho];simp)
     rcases okN_yes ho with ⟨k1,k2⟩ | ⟨k1,k2,k3⟩
     ·have z1:(97:Int)≤(c:Int):=by omega
      have z2:(c:Int)≤122:=by omega
      clear HR HD ho k1 k2
      go_wp2
      all_goals (
       go_roundw
       case rel=>exact⟨n+1,rfl,by omega,hit2,hb2,HR2⟩
       case measure=>rw[iterPos_of hit2,hpos];omega)
     ·have z1:¬ (97:Int)≤(c:Int):=by omega
      have z2:(48:Int)≤(c:Int):=by omega
      have z3:(c:Int)≤57:=by omega
      have z4:((n:Int)==0)=false:=by simp;omega
      clear HR HD ho k1 k2
      go_wp2
      all_goals (
       go_roundw
       case rel=>exact⟨n+1,rfl,by omega,hit2,hb2,HR2⟩
       case measure=>rw[iterPos_of hit2,hpos];omega)
    | false=>
     have HR2:Hid (r=false):=Lib.hid (by rw[HR.out,HD.out,ho];simp)
     rcases okN_no ho with k1 | ⟨k1,k2,k3⟩ | ⟨k1,k2⟩ | k1
     ·have z1:¬ (97:Int)≤(c:Int):=by omega
      have z2:¬ (48:Int)≤(c:Int):=by omega
      clear HR HD ho k1
      go_wp2
      go_ret
      exact⟨by rw[HR2.out];rfl,hb2⟩
     ·have z1:¬ (97:Int)≤(c:Int):=by omega
      have z2:(48:Int)≤(c:Int):=by omega
      have z3:(c:Int)≤57:=by omega
      have z4:((n:Int)==0)=true:=by simp;omega
      clear HR HD ho k1 k2
      go_wp2
      go_ret
      exact⟨by rw[HR2.out];rfl,hb2⟩
     ·have z1:¬ (97:Int)≤(c:Int):=by omega
      have z2:(48:Int)≤(c:Int):=by omega
      have z3:¬ (c:Int)≤57:=by omega
      clear HR HD ho k1 k2
      go_wp2
      go_ret
      exact⟨by rw[HR2.out];rfl,hb2⟩
     ·have z1:(97:Int)≤(c:Int):=by omega
      have z2:¬ (c:Int)≤122:=by omega
      have z3:(48:Int)≤(c:Int):=by omega
      have z4:¬ (c:Int)≤57:=by omega
      clear HR HD ho k1
      go_wp2
      go_ret
      exact⟨by rw[HR2.out];rfl,hb2⟩
   ·have hd:=(decode_high ⟨s.toArray⟩ n (by omega) (by rw[hg];omega)).1
    have HR2:Hid (r=false):=Lib.hid (by
     rw[HR.out,HD.out,HK.out]
     have:okN n (s.getD n 0).toNat=false:=by
      cases ho:okN n (s.getD n 0).toNat with
      | false=>rfl
      | true=>rcases okN_yes ho with ⟨k1,k2⟩ | ⟨k1,k2,k3⟩ <;> omega
     rw[this];simp)
    generalize (Utf8.decode ⟨s.toArray⟩ n).1=c at *
    generalize wr.iterAt w.heap.size ⟨s.toArray⟩ (n+(Utf8.decode ⟨s.toArray⟩ n).2)=W1 at *
    have z1:(97:Int)≤(c:Int):=by omega
    have z2:¬ (c:Int)≤122:=by omega
    have z3:(48:Int)≤(c:Int):=by omega
    have z4:¬ (c:Int)≤57:=by omega
    clear HR HD HK hd hc hg hit2 hit
    go_wp2
    go_ret
    exact⟨by rw[HR2.out];rfl,hb2⟩
  ·have hnx:∀ ty,(Instr.next (.pointer (some ⟨w.heap.size,0,none⟩)) true ty).run Tryz.prog wr=_:=fun ty=>Lib.run_next_end_at wr w.heap.size ⟨s.toArray⟩ n ty hit (by omega)
   have HR2:Hid (r=true):=Lib.hid (by rw[HR.out,List.drop_of_length_le (by omega)];rfl)
   clear HR hit
   go_wp2
   go_ret
   exact⟨by rw[HR2.out];rfl,hb⟩
theorem place_cases (i:Ins):(placeB i=true∧(i.op=8∨i.op=9∨i.op=10))∨(i.op=21∧placeB i=decide (i.pl≠-1))∨(placeB i=false∧i.op≠8∧i.op≠9∧i.op≠10∧i.op≠21):=by
 unfold placeB
 by_cases h:i.op=8∨i.op=9∨i.op=10
 ·exact .inl ⟨by simp[h],h⟩
 by_cases h2:i.op=21
 ·exact .inr (.inl ⟨h2,by simp[h2]⟩)
 ·exact .inr (.inr ⟨by simp[h,h2],by omega,by omega,by omega,h2⟩)
theorem cHasPlace (i:Ins)(w:World):
 Calls Tryz.prog 141 #[iv i] w fun e w'=>e=.returned (.bool (placeB i))∧Below w.heap.size w w':=by
 have hb:∀ cs:Array Value,Below w.heap.size w (w.alloc (.cells cs 119)):=fun cs=>(Below.refl _ _).alloc (Nat.le_refl _) _
 have HP:=place_cases i
 generalize placeB i=r at *
 obtain⟨op,d,s,t,u,a,k,pl⟩:=i
 simp only at HP
 unfold iv
 rcases HP with ⟨rfl,rfl | rfl | rfl⟩ | ⟨rfl,h⟩ | ⟨rfl,h1,h2,h3,h4⟩
 ·go_enter Tryz.func141,Tryz.ntmps141
  go_wp2
  go_ret
  exact⟨rfl,hb _⟩
 ·go_enter Tryz.func141,Tryz.ntmps141
  go_wp2
  go_ret
  exact⟨rfl,hb _⟩
 ·go_enter Tryz.func141,Tryz.ntmps141
  go_wp2
  go_ret
  exact⟨rfl,hb _⟩
 ·have HH:=Lib.hid h
  clear h
  go_enter Tryz.func141,Tryz.ntmps141
  go_wp2
  go_ret
  refine⟨?_,hb _⟩
  rw[HH.out]
  congr 2
  simp[bne]
  by_cases e:pl=-1 <;> simp[e]
 ·have e1:(op==8)=false:=by simpa using h1
  have e2:(op==9)=false:=by simpa using h2
  have e3:(op==10)=false:=by simpa using h3
  have e4:(op==21)=false:=by simpa using h4
  go_enter Tryz.func141,Tryz.ntmps141
  go_wp2
  go_ret
  exact⟨rfl,hb _⟩
end Go.Proofs.YthdgehcghklflaaGreatDoor
namespace Go.Proofs.YthdgehcghklflaaGreatDoor
open Go.ChangeShapes Go.WideShapes Go.ChangeAt Go.RowKit Go.Shelf
attribute [local go_sem] Oper.semAt_some
theorem cNumbered (s:List UInt8)(w:World):
 Calls Tryz.prog 59 #[bs s] w fun e w'=>e=.returned (.func (.func 93) #[] #[.pointer (some ⟨w.heap.size,0,none⟩)])∧w'=w.alloc (.cells #[bs s] 9):=by
 unfold bs
 go_enter Tryz.func59,Tryz.ntmps59
 go_wp2
 go_ret
 exact⟨rfl,rfl⟩
set_option maxHeartbeats 1000000 in
theorem it_numbered (text:List UInt8)(b l:Nat)(W1:World)(hb:Bk W1 b 9 #[bs text])(hlen:text.length < 1000000000):
 Iter Tryz.prog 93 #[.pointer (some ⟨b,0,none⟩)] (fun k=>#[.int .i64 ((k:Int)+1),bs (lineAt text k)]) (linesL text).length l W1 (fun x=>W1.heap.size≤x∧x < W1.heap.size+5):=by
 intro J Jx hJ hJx hY h0
 have hc0:W1.cell? ⟨b,0,none⟩=some (.string ⟨text.toArray⟩):=hb.cell 0
 have HL:=Lib.hid (fun W=>callsIn_wide (n:=0) |>.2 (lLines text W))
 refine callsIn_of_wp_marks Tryz.func93 rfl trivial ?_ rfl
 simp only[Tryz.ntmps93,List.size_toArray,List.length_cons,List.length_nil,Nat.reduceAdd,Nat.reduceSub,Array.replicate_succ,Array.replicate_zero,List.push_toArray,List.append_toArray,List.nil_append,List.cons_append]
 have y2:=Bk.alloc (Bk.made W1 192 #[.func (.yield l) #[] #[]]) (.cells #[.int .i64 0] 3)
 have n2:=Bk.made (W1.alloc (.cells #[.func (.yield l) #[] #[]] 192)) 3 #[.int .i64 0]
 have t2:=Bk.alloc (Bk.alloc hb (.cells #[.func (.yield l) #[] #[]] 192)) (.cells #[.int .i64 0] 3)
 have w2:Within W1 ((W1.alloc (.cells #[.func (.yield l) #[] #[]] 192)).alloc (.cells #[.int .i64 0] 3)) (fun _=>False):=((Within.refl _ _).alloc _).alloc _
 have s2:((W1.alloc (.cells #[.func (.yield l) #[] #[]] 192)).alloc (.cells #[.int .i64 0] 3)).heap.size=W1.heap.size+2:=by simp
 rw[World.size_alloc] at n2
 have hc2:((W1.alloc (.cells #[.func (.yield l) #[] #[]] 192)).alloc (.cells #[.int .i64 0] 3)).cell? ⟨b,0,none⟩=some (.string ⟨text.toArray⟩):=t2.cell 0
 gi_wp2
 generalize (W1.alloc (.cells #[.func (.yield l) #[] #[]] 192)).alloc (.cells #[.int .i64 0] 3)=W2 at *
 refine⟨trivial,rfl,?_⟩
 refine(HL.out _).mono ?_
 rintro e W3 ⟨rfl,rfl⟩
 have y3:=y2.alloc (.cells #[bs text] 9)
 have n3:=n2.alloc (.cells #[bs text] 9)
 have t3:=Bk.made W2 9 #[bs text]
 have s3:(W2.alloc (.cells #[bs text] 9)).heap.size=W1.heap.size+3:=by simp[s2]
 have w3:Within W1 (W2.alloc (.cells #[bs text] 9)) (fun _=>False):=w2.alloc _
 rw[s2] at t3 ⊢
 generalize W2.alloc (.cells #[bs text] 9)=W3 at *
 clear hc2 t2 n2 y2 w2 s2 W2 HL hc0
 gi_wp2
 have e0:W3.heap.size=W1.heap.size+3:=s3
 refine wpIn_range (gf:=136) (lb:=#[.pointer (some ⟨W1.heap.size+2,0,none⟩)]) rfl (enters_of Tryz.func136 (by kernel_rfl) rfl)
  (encs:=fun k=>#[bs (lineAt text k)]) (N:=(linesL text).length) (T:=fun x=>x=W1.heap.size+2) (fun _=>rfl) (by omega) (by omega)
  (fun W4 hb4 hz4=>it_lines text _ _ W4 ((hb4.block _ (by omega)).trans t3) hlen)
  (fun k W=>J k W∧Bk W W1.heap.size 192 #[.func (.yield l) #[] #[]]∧Bk W (W1.heap.size+1) 3 #[.int .i64 k])
  (fun c W=>c=.ret∧Jx W) ?calm ?calmx ⟨hJ 0 _ _ h0 (w3.wide (by simp)),y3,n3⟩
  (fun k=>{ tmps:=#[.func (.yield l) #[] #[],.pointer (some ⟨b,0,none⟩),.pointer (some ⟨W1.heap.size,0,none⟩),.pointer (some ⟨W1.heap.size+1,0,none⟩),.string ⟨(lineAt text k).toArray⟩,.string ⟨text.toArray⟩,
   .func (.func 136) #[] #[.pointer (some ⟨W1.heap.size+2,0,none⟩)],.string ⟨(lineAt text k).toArray⟩,undef,undef,undef,undef,undef,undef,undef],defers:=[] }) ?assign ?body ?done ?stop
 case calm=>
  rintro k A B ⟨j,y,n⟩ hw
  exact⟨hJ k A B j (hw.wide (by rintro i (rfl | rfl | rfl) _ <;> omega)),y.within hw (by omega),n.within hw (by omega)⟩
 case calmx=>
  rintro c A B ⟨rfl,j⟩ hw
  exact⟨rfl,hJx A B j (hw.wide (by rintro i (rfl | rfl | rfl) _ <;> omega))⟩
 case assign=>
  intro l2 k W K hK
  unfold bs
  gi_wp2
  exact hK
 case body=>
  rintro l2 k W hk ⟨hj,hy,hn⟩ hT
  have hkl:k < 1000000000:=Nat.lt_of_lt_of_le hk (Nat.le_trans (lines_len text) (Nat.le_of_lt hlen))
  have hwr:wrap64 ((k:Int)+1)=(k:Int)+1:=by unfold wrap64;omega
  have cn:W.cell? ⟨W1.heap.size+1,0,none⟩=some (.int .i64 k):=hn.cell 0
  have fn:=hn.free 0
  have w1:Within W (W.setCell ⟨W1.heap.size+1,0,none⟩ (.int .i64 ((k:Int)+1))) (fun x=>x=W1.heap.size+1):=(Within.refl _ _).put _ 0 _ (.inl rfl)
  have n1:Bk (W.setCell ⟨W1.heap.size+1,0,none⟩ (.int .i64 ((k:Int)+1))) (W1.heap.size+1) 3 #[.int .i64 ((k:Int)+1)]:=hn.put 0 _
  have y1:=hy.within w1 (by omega)
  have hj1:=hJ k _ _ hj (w1.wide (by rintro i rfl _;omega))
  obtain⟨fn2,tmps,assign,body,hyy,hR⟩:=hY k _ hk hj1 (by intro x hx;have:=w1.size;have:=hT (W3.heap.size+1) (.inr (.inl rfl));omega)
  unfold bs at hyy
  have cy:(W.setCell ⟨W1.heap.size+1,0,none⟩ (.int .i64 ((k:Int)+1))).cell? ⟨W1.heap.size,0,none⟩=some (.func (.yield l) #[] #[]):=y1.cell 0
  have cn1:(W.setCell ⟨W1.heap.size+1,0,none⟩ (.int .i64 ((k:Int)+1))).cell? ⟨W1.heap.size+1,0,none⟩=some (.int .i64 ((k:Int)+1)):=n1.cell 0
  gi_wp2
  refine⟨rfl,RoundIn.mono (F:=Fence.wide) hR ?_⟩
  rintro e W5 ⟨hh,hQ⟩
  have hT5:Held (fun x=>x=W3.heap.size∨x=W3.heap.size+1∨x=W1.heap.size+2) W W5:=by
   refine⟨Nat.le_trans w1.size hh.1,?_⟩
   rintro x (rfl | rfl | rfl)
   ·exact(hh.2 _ ⟨by omega,by omega⟩).trans (w1.block _ (hT _ (.inl rfl)) (by omega))
   ·exact(hh.2 _ ⟨by omega,by omega⟩).trans (w1.block _ (hT _ (.inr (.inl rfl))) (by omega))
   ·exact(hh.2 _ ⟨by omega,by omega⟩).trans (w1.block _ (hT _ (.inr (.inr rfl))) (by omega))
  rcases hQ with ⟨rfl,hJ5⟩ | ⟨rfl,hJx5⟩
  ·gi_wp2
   exact⟨hT5,hJ5,(hh.2 _ ⟨by omega,by omega⟩).trans y1,(hh.2 _ ⟨by omega,by omega⟩).trans n1⟩
  ·gi_wp2
   exact⟨hT5,rfl,hJx5⟩
 case done=>
  rintro W ⟨hj,_,_⟩ hd
  gi_wp2
  refine⟨by simp,.inl ⟨_,_,rfl,run_takeDeferred hd,?_⟩⟩
  exact⟨_,results_none rfl _ _ _,⟨_,rfl⟩,.inl (hJ _ _ _ hj (within_putObj _ _ _ _ ⟨by omega,by omega⟩))⟩
 case stop=>
  rintro c W ⟨rfl,hj⟩ hd
  gi_wp2
  refine⟨by simp,.inl ⟨_,_,rfl,run_takeDeferred hd,?_⟩⟩
  exact⟨_,results_none rfl _ _ _,⟨_,rfl⟩,.inr (hJx _ _ hj (within_putObj _ _ _ _ ⟨by omega,by omega⟩))⟩
end Go.Proofs.YthdgehcghklflaaGreatDoor
namespace Go.Proofs.YthdgehcghklflaaGreatDoor
open Go.ChangeShapes Go.WideShapes Go.ChangeAt Go.RowKit
set_option maxHeartbeats 1000000 in
theorem rGoes (i:Ins)(w:World):
 Calls Tryz.prog 103 #[iv i] w fun e w'=>e=.returned (.bool (goesB i))∧Below w.heap.size w w':=by
 have HX:Hid (goesB i=((decide (8≤i.op) && decide (i.op≤10)) || (decide (i.op=21) && decide (0≤i.pl)))):=Lib.hid rfl
 generalize goesB i=r at *
 obtain⟨op,d,s,t,u,a,k,pl⟩:=i
 unfold iv
 simp only at HX ⊢
 have k1:=Bk.made w 125 #[.int .i64 op,.int .i64 d,.int .i64 s,.int .i64 t,.int .i64 u,.int .i64 a,.int .u32 k,.int .i64 pl]
 have b0:Below w.heap.size w (w.alloc (.cells #[.int .i64 op,.int .i64 d,.int .i64 s,.int .i64 t,.int .i64 u,.int .i64 a,.int .u32 k,.int .i64 pl] 125)):=(Below.refl _ _).alloc (Nat.le_refl _) _
 go_enter Tryz.func103,Tryz.ntmps103
 go_upto_region 1 with fail
 generalize w.alloc (.cells #[.int .i64 op,.int .i64 d,.int .i64 s,.int .i64 t,.int .i64 u,.int .i64 a,.int .u32 k,.int .i64 pl] 125)=x at *
 obtain⟨c0,c7⟩:x.cell? ⟨w.heap.size,0,none⟩=some (.int .i64 op)∧x.cell? ⟨w.heap.size,7,none⟩=some (.int .i64 pl):=⟨k1.cell 0,k1.cell 7⟩
 by_cases h1:8≤op
 ·by_cases h2:op≤10
  ·have HQ:Hid (r=true):=Lib.hid (by rw[HX.out];simp[h1,h2])
   clear HX
   go_wp2
   go_ret
   exact⟨by rw[HQ.out];rfl,b0⟩
  ·by_cases h3:op=21
   ·have e3:(op==21)=true:=by simpa using h3
    by_cases h4:0≤pl
    ·have HQ:Hid (r=true):=Lib.hid (by rw[HX.out];simp[h3,h4])
     subst h3
     clear HX
     go_wp2
     go_ret
     exact⟨by rw[HQ.out];rfl,b0⟩
    ·have HQ:Hid (r=false):=Lib.hid (by rw[HX.out];simp[h2,h4])
     subst h3
     clear HX
     go_wp2
     go_ret
     exact⟨by rw[HQ.out];rfl,b0⟩
   ·have e3:(op==21)=false:=by simpa using h3
    have HQ:Hid (r=false):=Lib.hid (by rw[HX.out];simp[h2,h3])
    clear HX h3
    go_wp2
    go_ret
    exact⟨by rw[HQ.out];rfl,b0⟩
 ·have h3:¬ op=21:=by omega
  have e3:(op==21)=false:=by simpa using h3
  have HQ:Hid (r=false):=Lib.hid (by rw[HX.out];simp[h1,h3])
  clear HX h3
  go_wp2
  go_ret
  exact⟨by rw[HQ.out];rfl,b0⟩
theorem all_drop (s:List UInt8)(f:UInt8→Bool)(n:Nat)(h:n < s.length):(s.drop n).all f=(f (s.getD n 0) && (s.drop (n+1)).all f):=by
 rw[List.drop_eq_getElem_cons h,List.all_cons]
 simp[List.getD_eq_getElem?_getD,h]
set_option maxHeartbeats 1000000 in
theorem rName07 (s:List UInt8)(w:World):
 Calls Tryz.prog 62 #[bs s] w fun e w'=>e=.returned (.bool (nameB s))∧w'=w:=by
 have HX:Hid (nameB s=(decide (1≤s.length) && (decide (s.length≤16) && (lowB (s.getD 0 0) && s.all fun c=>lowB c || digB c)))):=Lib.hid rfl
 generalize nameB s=r at *
 unfold bs
 by_cases h1:1≤s.length
 ·have i1:¬ (s.length:Int) < 1:=by omega
  by_cases h2:s.length≤16
  ·have i2:¬ (16:Int) < s.length:=by omega
   have hix:=fun W=>run_ltr s 0 (by omega) W
   simp only[Int.natCast_zero] at hix
   have HL:Hid (lowB (s.getD 0 0)=(decide (97≤(s.getD 0 0).toNat) && decide ((s.getD 0 0).toNat≤122))):=Lib.hid rfl
   generalize (s.getD 0 0)=c0 at *
   by_cases h3:97≤c0.toNat
   ·by_cases h4:c0.toNat≤122
    ·have HR:Hid (r=(s.drop 0).all fun c=>lowB c || digB c):=Lib.hid (by rw[HX.out,HL.out];simp[h1,h2,h3,h4])
     clear HX HL
     generalize c0.toNat=q0 at *
     have z1:¬ (q0:Int) < 97:=by omega
     have z2:¬ (122:Int) < q0:=by omega
     go_enter Tryz.func62,Tryz.ntmps62
     go_wp2
     clear hix z1 z2
     go_loopw [2,3] (fun v i wr=>∃ n:Nat,v=.bool false∧i=.int .i64 n∧n≤s.length∧wr=w∧Hid (r=(s.drop n).all fun c=>lowB c || digB c)) (fun _ i _=>s.length - (intOf i).toNat)
     case atStart=>exact⟨0,rfl,rfl,by omega,rfl,HR⟩
     case round=>
      obtain⟨n,rfl,rfl,hn,rfl,HA⟩:=hrel
      by_cases hlt:n < s.length
      ·have hii:(n:Int) < s.length:=by omega
       have hix:=fun W=>run_ltr s n hlt W
       have HD:=Lib.hid (all_drop s (fun c=>lowB c || digB c) n hlt)
       have HL:Hid ((lowB (s.getD n 0) || digB (s.getD n 0))=((decide (97≤(s.getD n 0).toNat) && decide ((s.getD n 0).toNat≤122)) || (decide (48≤(s.getD n 0).toNat) && decide ((s.getD n 0).toNat≤57)))):=Lib.hid rfl
       generalize s.getD n 0=ch at *
       simp only[HL.out] at HD
       clear HL
       generalize ch.toNat=c at *
       by_cases y1:(97≤c∧c≤122)∨(48≤c∧c≤57)
       ·have HB:Hid (r=(s.drop (n+1)).all fun c=>lowB c || digB c):=Lib.hid (by
         rw[HA.out,HD.out]
         rcases y1 with ⟨a,b⟩ | ⟨a,b⟩ <;> simp[a,b])
        clear HA HD
        rcases y1 with ⟨a,b⟩ | ⟨a,b⟩
        ·have z1:(97:Int)≤c:=by omega
         have z2:(c:Int)≤122:=by omega
         go_wp2
         all_goals (
          go_roundw
          case rel=>exact⟨n+1,rfl,by go_num,by omega,by trivial,HB⟩
          case measure=>
           show s.length - ((n:Int)+1).toNat < s.length - (n:Int).toNat
           omega)
        ·have z1:¬ (97:Int)≤c:=by omega
         have z2:(48:Int)≤c:=by omega
         have z3:(c:Int)≤57:=by omega
         go_wp2
         all_goals (
          go_roundw
          case rel=>exact⟨n+1,rfl,by go_num,by omega,by trivial,HB⟩
          case measure=>
           show s.length - ((n:Int)+1).toNat < s.length - (n:Int).toNat
           omega)
       ·have HB:Hid (r=false):=Lib.hid (by
         rw[HA.out,HD.out]
         have:((decide (97≤c) && decide (c≤122)) || (decide (48≤c) && decide (c≤57)))=false:=by
          simp only[Bool.or_eq_false_iff,Bool.and_eq_false_iff,decide_eq_false_iff_not]
          omega
         rw[this];rfl)
        clear HA HD
        by_cases z1:(97:Int)≤c
        ·have z2:¬ (c:Int)≤122:=by omega
         have z3:(48:Int)≤c:=by omega
         have z4:¬ (c:Int)≤57:=by omega
         clear y1
         go_wp2
         go_ret
         exact⟨by rw[HB.out];rfl,rfl⟩
        ·by_cases z3:(48:Int)≤c
         ·have z4:¬ (c:Int)≤57:=by omega
          clear y1
          go_wp2
          go_ret
          exact⟨by rw[HB.out];rfl,rfl⟩
         ·clear y1
          go_wp2
          go_ret
          exact⟨by rw[HB.out];rfl,rfl⟩
      ·have hii:¬ (n:Int) < s.length:=by omega
       have HB:Hid (r=true):=Lib.hid (by rw[HA.out,List.drop_eq_nil_of_le (by omega)];rfl)
       clear HA
       go_wp2
       go_ret
       exact⟨by rw[HB.out];rfl,rfl⟩
    ·have HR:Hid (r=false):=Lib.hid (by rw[HX.out,HL.out];simp[h4])
     clear HX HL
     generalize c0.toNat=q0 at *
     have z1:¬ (q0:Int) < 97:=by omega
     have z2:(122:Int) < q0:=by omega
     go_enter Tryz.func62,Tryz.ntmps62
     go_wp2
     go_ret
     exact⟨by rw[HR.out];rfl,rfl⟩
   ·have HR:Hid (r=false):=Lib.hid (by rw[HX.out,HL.out];simp[h3])
    clear HX HL
    generalize c0.toNat=q0 at *
    have z1:(q0:Int) < 97:=by omega
    go_enter Tryz.func62,Tryz.ntmps62
    go_wp2
    go_ret
    exact⟨by rw[HR.out];rfl,rfl⟩
  ·have i2:(16:Int) < s.length:=by omega
   have HR:Hid (r=false):=Lib.hid (by rw[HX.out];simp[h2])
   clear HX
   go_enter Tryz.func62,Tryz.ntmps62
   go_wp2
   go_ret
   exact⟨by rw[HR.out];rfl,rfl⟩
 ·have i1:(s.length:Int) < 1:=by omega
  have HR:Hid (r=false):=Lib.hid (by rw[HX.out];simp[h1])
  clear HX
  go_enter Tryz.func62,Tryz.ntmps62
  go_wp2
  go_ret
  exact⟨by rw[HR.out];rfl,rfl⟩
end Go.Proofs.YthdgehcghklflaaGreatDoor
namespace Go.Proofs.YthdgehcghklflaaGreatDoor
theorem tk_ok {n:Nat}(h1:1≤n)(h64:n≤64):OkLk (tkK n):=by
 refine⟨tk_right,tk_k32,⟨by show 2≤8;omega,?_⟩,by show tot [1,1]≤8192;decide,h1,h64,by show 0≤8;omega⟩
 intro k hk
 have:k=0∨k=1:=by simp[tkK] at hk;omega
 rcases this with rfl | rfl <;> (show 0≤(1:Int)∧(1:Int)≤4096;decide)
theorem tkR_at (n t:Nat):nth (tkR n) t=0:=by
 unfold nth tkR
 rw[List.getD_eq_getElem?_getD,List.getElem?_replicate]
 split <;> rfl
theorem tkR_u32 (n:Nat):U32s (tkR n):=by
 intro x hx
 obtain⟨_,rfl⟩:=List.mem_replicate.1 hx
 omega
theorem tkR_len (n:Nat):(tkR n).length=n:=List.length_replicate
theorem tkI_u32 {st:Int}(h0:0≤st)(h1:st < 4294967296):U32s [st,st]:=by
 intro x hx
 simp at hx
 subst hx
 exact⟨h0,h1⟩
end Go.Proofs.YthdgehcghklflaaGreatDoor
namespace Go.Proofs.YthdgehcghklflaaGreatDoor
open Go.ChangeShapes Go.WideShapes Go.ChangeAt Go.RowKit
def LsAt (w:World)(a:Option Addr)(ls:List (List UInt8×Int)):Prop:=∀ j x,ls[j]?=some x→∃ g,a=some ⟨g,0,none⟩∧g < w.heap.size∧w.cell? ⟨g,j * 2,none⟩=some (bs x.1)∧w.cell? ⟨g,j * 2+1,none⟩=some (.int .i64 x.2)
theorem LsAt.below {w w':World}{a:Option Addr}{ls:List (List UInt8×Int)}(h:LsAt w a ls)(hb:Below w.heap.size w w'):LsAt w' a ls:=fun j x hx=>by
 obtain⟨g,e,h1,h2,h3⟩:=h j x hx
 exact⟨g,e,Nat.lt_of_lt_of_le h1 hb.size,(hb.cell (p:=⟨g,j * 2,none⟩) h1).trans h2,(hb.cell (p:=⟨g,j * 2+1,none⟩) h1).trans h3⟩
theorem findL_drop (ls:List (List UInt8×Int))(s:List UInt8)(n:Int)(j:Nat)(h:j < ls.length):findL (ls.drop j) s n=if (ls[j].1==s && decide (ls[j].2 < n))=true then ls[j].2 else findL (ls.drop (j+1)) s n:=by
 unfold findL
 rw[List.drop_eq_getElem_cons h,List.find?_cons]
 cases (ls[j].1==s && decide (ls[j].2 < n)) <;> simp
set_option maxHeartbeats 1000000 in
theorem rFindA (ls:List (List UInt8×Int))(s:List UInt8)(n:Int)(a:Option Addr)(cap:Nat)(w:World)(ha:LsAt w a ls)(hl:ls.length≤1000000):
 Calls Tryz.prog 64 #[.slice a ls.length cap,bs s,.int .i64 n] w fun e w'=>e=.returned (.int .i64 (findL ls s n))∧Below w.heap.size w w':=by
 have HR:Hid (findL ls s n=findL (ls.drop 0) s n):=Lib.hid rfl
 have HS:=Lib.hid (fun j h=>findL_drop ls s n j h)
 have HE:Hid (∀ j,¬ j < ls.length→findL (ls.drop j) s n=-1):=Lib.hid fun j h=>by rw[List.drop_eq_nil_of_le (by omega)];rfl
 generalize findL ls s n=r at *
 unfold bs
 go_enter Tryz.func64,Tryz.ntmps64
 go_wp2
 go_loopw [6,11] (fun v i wr=>∃ j:Nat,v=.int .i64 0∧i=.int .i64 j∧j≤ls.length∧Below w.heap.size w wr∧Hid (r=findL (ls.drop j) s n)) (fun _ i _=>ls.length - (intOf i).toNat)
 case atStart=>exact⟨0,rfl,rfl,Nat.zero_le _,Below.refl _ _,HR⟩
 case round=>
  clear HR
  obtain⟨j,rfl,rfl,hj,hb,HR⟩:=hrel
  by_cases hlt:j < ls.length
  ·have hji:(j:Int) < ls.length:=by omega
   obtain⟨g,rfl,hgl,e0,e1⟩:=(ha.below hb) j _ (List.getElem?_eq_getElem hlt)
   have HD:=Lib.hid (HS.out j hlt)
   generalize ls[j]=x at *
   obtain⟨nm,at_⟩:=x
   simp only at e0 e1 HD
   unfold bs at e0
   go_upto_region 4 with fail
   have k1:=Bk.made wr 147 #[.string ⟨nm.toArray⟩,.int .i64 at_]
   replace hb:=hb.alloc (o:=.cells #[.string ⟨nm.toArray⟩,.int .i64 at_] 147) hb.size
   generalize wr.heap.size=q at *
   generalize wr.alloc (.cells #[.string ⟨nm.toArray⟩,.int .i64 at_] 147)=y at *
   clear e0 e1
   obtain⟨y0,y1⟩:y.cell? ⟨q,0,none⟩=some (.string ⟨nm.toArray⟩)∧y.cell? ⟨q,1,none⟩=some (.int .i64 at_):=⟨k1.cell 0,k1.cell 1⟩
   cases h1:(nm==s) with
   | true=>
    by_cases h2:at_ < n
    ·have HQ:Hid (r=at_):=Lib.hid (by rw[HR.out,HD.out,h1];simp[h2])
     obtain rfl:nm=s:=by simpa using h1
     clear HD HR HS HE h1
     go_wp2
     go_ret
     exact⟨by rw[HQ.out];rfl,hb⟩
    ·have HQ:Hid (r=findL (ls.drop (j+1)) s n):=Lib.hid (by rw[HR.out,HD.out,h1];simp[h2])
     obtain rfl:nm=s:=by simpa using h1
     clear HD HR HS HE h1
     go_wp2
     go_roundw
     case rel=>exact⟨j+1,rfl,by go_num,by omega,hb,HQ⟩
     case measure=>
      show ls.length - ((j:Int)+1).toNat < ls.length - (j:Int).toNat
      omega
   | false=>
    have HQ:Hid (r=findL (ls.drop (j+1)) s n):=Lib.hid (by rw[HR.out,HD.out,h1];simp)
    clear HD HR HS HE
    go_wp2
    go_roundw
    case rel=>exact⟨j+1,rfl,by go_num,by omega,hb,HQ⟩
    case measure=>
     show ls.length - ((j:Int)+1).toNat < ls.length - (j:Int).toNat
     omega
  ·have hji:¬ (j:Int) < ls.length:=by omega
   have HQ:Hid (r=-1):=Lib.hid (by rw[HR.out,HE.out j hlt])
   clear HR HS HE
   go_wp2
   go_ret
   exact⟨by rw[HQ.out];rfl,hb⟩
end Go.Proofs.YthdgehcghklflaaGreatDoor
