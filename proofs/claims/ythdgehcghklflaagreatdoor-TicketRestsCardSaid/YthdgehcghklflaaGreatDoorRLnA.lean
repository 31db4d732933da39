import Derived.Test.YthdgehcghklflaaGreatDoorRMem
import Derived.Test.YthdgehcghklflaaGreatDoorRWdA
import Derived.BigRegionIn
import Derived.Deep.QuietTactic
import Derived.BigQuiet
set_option linter.unusedVariables false
namespace Go.Proofs.YthdgehcghklflaaGreatDoor
open Go.ChangeShapes Go.WideShapes Go.ChangeAt Go.RowKit Go.Shelf
attribute [local go_sem] Oper.semAt_some
def onto (c:UInt8):List (List UInt8)→List (List UInt8)
 | []=>[[c]]
 | x :: xs=>(c :: x) :: xs
def linesL:List UInt8→List (List UInt8)
 | []=>[]
 | c :: r=>if c=10 then [10] :: linesL r else onto c (linesL r)
def lineAt (text:List UInt8)(k:Nat):List UInt8:=(linesL text).getD k []
theorem lines_more:∀ (s r:List UInt8),Nl s→linesL (s++10 :: r)=(s++[10]) :: linesL r
 | [],r,_=>by simp[linesL]
 | c :: s,r,h=>by
  have ih:=lines_more s r fun d hd=>h d (List.mem_cons_of_mem _ hd)
  show linesL (c :: (s++10 :: r))=_
  rw[linesL,if_neg (h c List.mem_cons_self),ih]
  rfl
theorem lines_last:∀ s:List UInt8,Nl s→s≠[]→linesL s=[s]
 | [],_,h=>absurd rfl h
 | [c],h,_=>by simp[linesL,h c List.mem_cons_self,onto]
 | c :: d :: s,h,_=>by
  have ih:=lines_last (d :: s) (fun x hx=>h x (List.mem_cons_of_mem _ hx)) (by simp)
  rw[linesL,if_neg (h c List.mem_cons_self),ih]
  rfl
theorem lines_len:∀ t:List UInt8,(linesL t).length≤t.length
 | []=>Nat.le_refl _
 | c :: t=>by
  have ih:=lines_len t
  rw[linesL]
  split
  ·simp;omega
  ·cases h:linesL t with
   | nil=>simp[onto]
   | cons x y=>rw[h] at ih;simp[onto] at ih ⊢;omega
theorem first_nl:∀ t:List UInt8,Nl t∨∃ s r,Nl s∧t=s++10 :: r
 | []=>.inl (by unfold Nl;simp)
 | c :: t=>by
  by_cases hc:c=10
  ·exact .inr ⟨[],t,by unfold Nl;simp,by rw[hc];rfl⟩
  rcases first_nl t with h | ⟨s,r,hs,rfl⟩
  ·exact .inl fun d hd=>by
    rcases List.mem_cons.1 hd with rfl | hd
    ·exact hc
    ·exact h d hd
  ·exact .inr ⟨c :: s,r,fun d hd=>by
    rcases List.mem_cons.1 hd with rfl | hd
    ·exact hc
    ·exact hs d hd,rfl⟩
theorem index_no:∀ t:List UInt8,Nl t→Lib.indexByte t 10=-1
 | [],_=>rfl
 | c :: t,h=>by
  have ih:=index_no t fun d hd=>h d (List.mem_cons_of_mem _ hd)
  have hc:(c==10)=false:=by simpa using h c List.mem_cons_self
  rw[Lib.indexByte,hc,ih]
  simp
theorem index_yes:∀ s r:List UInt8,Nl s→Lib.indexByte (s++10 :: r) 10=s.length
 | [],r,_=>by simp[Lib.indexByte]
 | c :: s,r,h=>by
  have ih:=index_yes s r fun d hd=>h d (List.mem_cons_of_mem _ hd)
  have hc:(c==10)=false:=by simpa using h c List.mem_cons_self
  show Lib.indexByte (c :: (s++10 :: r)) 10=_
  rw[Lib.indexByte,hc,ih]
  have:((s.length:Int)==-1)=false:=by simp
  simp[this]
theorem lIndex (s:List UInt8)(w:World):
 Calls Tryz.prog 137 #[bs s,.int .u8 10] w fun e w'=>e=.returned (.int .i64 (Lib.indexByte s 10))∧w=w':=
 (Any.strings_IndexByte Tryz.lays137 ⟨s.toArray⟩ 10 w).mono fun _ _ ⟨he,hw⟩=>⟨he,hw.symm⟩
theorem run_lo (s r:List UInt8)(w:World):(Instr.slice 9 (.string ⟨(s++10 :: r).toArray⟩) none (some (.int .i64 ((s.length:Int)+1))) none).run Tryz.prog w=.ok (.string ⟨(s++[10]).toArray⟩) w:=by
 have hu:=Tryz.underlying9
 go_simp
 rw[if_pos ⟨by omega,by omega⟩]
 refine congrArg (fun x=>Result.ok (Value.string x) w) (ByteArray.ext ?_)
 rw[ByteArray.data_extract]
 apply Array.ext'
 simp
 rw[show s++10 :: r=(s++[10])++r by simp,show s.length+1=(s++[10]).length by simp,List.take_left]
theorem run_hi (s r:List UInt8)(w:World):(Instr.slice 9 (.string ⟨(s++10 :: r).toArray⟩) (some (.int .i64 ((s.length:Int)+1))) none none).run Tryz.prog w=.ok (.string ⟨r.toArray⟩) w:=by
 have hu:=Tryz.underlying9
 go_simp
 rw[if_pos ⟨by omega,by omega⟩]
 refine congrArg (fun x=>Result.ok (Value.string x) w) (ByteArray.ext ?_)
 rw[ByteArray.data_extract]
 apply Array.ext'
 simp
 exact List.take_of_length_le (by omega)
def boxLen (w:World)(b:Nat):Nat:=match w.cell? ⟨b,0,none⟩ with
 | some (.string s)=>s.size
 | _=>0
theorem boxLen_of {w:World}{b:Nat}{t:TypeId}{s:List UInt8}(h:Bk w b t #[bs s]):boxLen w b=s.length:=by
 unfold boxLen
 rw[h.cell 0]
 show s.toArray.size=_
 simp
set_option maxHeartbeats 1000000 in
theorem it_lines (text:List UInt8)(b l:Nat)(W1:World)(hb:Bk W1 b 9 #[bs text])(hlen:text.length < 1000000000):
 Iter Tryz.prog 136 #[.pointer (some ⟨b,0,none⟩)] (fun k=>#[bs (lineAt text k)]) (linesL text).length l W1 (fun x=>x=b):=by
 intro J Jx hJ hJx hY h0
 refine callsIn_of_wp Tryz.func136 rfl trivial ?_ rfl
 simp only[Tryz.ntmps136,List.size_toArray,List.length_cons,List.length_nil,Nat.reduceAdd,Nat.reduceSub,Array.replicate_succ,Array.replicate_zero,List.push_toArray,List.append_toArray,List.nil_append,List.cons_append]
 gi_wp2
 gi_loopw [3] (fun p wr=>∃ (k:Nat) (t:List UInt8),k≤(linesL text).length∧(linesL text).drop k=linesL t∧t.length≤text.length∧Bk wr b 9 #[bs t]∧J k wr) (fun p wr=>boxLen wr b)
 case atStart=>exact⟨0,text,Nat.zero_le _,rfl,Nat.le_refl _,hb,h0⟩
 case round=>
  obtain⟨k,t,hkl,hdr,hle,hbk,hj⟩:=hrel
  have hbl:=boxLen_of hbk
  have hc0:wr.cell? ⟨b,0,none⟩=some (.string ⟨t.toArray⟩):=hbk.cell 0
  have hfr:=hbk.free 0
  by_cases ht:t=[]
  ·subst ht
   have hk:k=(linesL text).length:=by
    have:=congrArg List.length hdr
    simp[linesL] at this
    omega
   subst hk
   gi_wp2
   go_end0
   exact⟨⟨_,rfl⟩,.inl hj⟩
  ·have hpos:(0:Int) < t.length:=by
    have:=List.length_pos_iff.2 ht
    omega
   have HI:=Lib.hid (fun W=>callsIn_wide (n:=0) |>.2 (lIndex t W))
   rcases first_nl t with hn | ⟨s,r,hn,rfl⟩
   ·have hk1:k < (linesL text).length:=by
     have:=congrArg List.length hdr
     rw[lines_last t hn ht] at this
     simp at this
     omega
    have hk2:(linesL text).length=k+1:=by
     have:=congrArg List.length hdr
     rw[lines_last t hn ht] at this
     simp at this
     omega
    have hline:lineAt text k=t:=by
     unfold lineAt
     have:=congrArg List.head? hdr
     rw[lines_last t hn ht] at this
     simp[List.head?_drop] at this
     simp[List.getD_eq_getElem?_getD,this]
    have hi:=index_no t hn
    have w1:Within wr (wr.setCell ⟨b,0,none⟩ (.string ⟨#[]⟩)) (fun x=>x=b):=(Within.refl _ _).put b 0 _ (.inl rfl)
    have b1:Bk (wr.setCell ⟨b,0,none⟩ (.string ⟨#[]⟩)) b 9 #[bs []]:=hbk.put 0 _
    have hj1:=hJ k _ _ hj w1
    obtain⟨fn,tmps,assign,body,hy,hR⟩:=hY k _ hk1 hj1 (by rintro x rfl;exact b1.lt)
    rw[hline] at hy
    unfold bs at hy
    gi_wp2
    refine⟨trivial,rfl,?_⟩
    refine(HI.out _).mono ?_
    rintro e w' ⟨rfl,rfl⟩
    rw[hi]
    gi_wp2
    refine⟨rfl,hR.mono ?_⟩
    rintro e W3 ⟨hh,(⟨rfl,hJ3⟩ | ⟨rfl,hJx3⟩)⟩
    ·gi_wp2
     have b3:Bk W3 b 9 #[bs []]:=(hh.2 b rfl).trans b1
     go_roundw
     case rel=>exact⟨k+1,[],by omega,by rw[List.drop_of_length_le (by omega)];rfl,by simp,b3,hJ3⟩
     case measure=>rw[boxLen_of b3,hbl];simp;omega
    ·gi_wp2
     refine bodyPost_ret (results_none rfl _ _ _) rfl ?_
     exact⟨⟨_,rfl⟩,.inr hJx3⟩
   ·have hk1:k < (linesL text).length:=by
     have:=congrArg List.length hdr
     rw[lines_more s r hn] at this
     simp at this
     omega
    have hdr2:(linesL text).drop (k+1)=linesL r:=by
     have:=congrArg List.tail hdr
     rw[lines_more s r hn] at this
     simpa [List.tail_drop] using this
    have hline:lineAt text k=s++[10]:=by
     unfold lineAt
     have:=congrArg List.head? hdr
     rw[lines_more s r hn] at this
     simp[List.head?_drop] at this
     simp[List.getD_eq_getElem?_getD,this]
    have hi:=index_yes s r hn
    have hi0:(0:Int)≤s.length:=by omega
    have hwr:wrap64 ((s.length:Int)+1)=(s.length:Int)+1:=by
     simp at hle
     unfold wrap64
     omega
    have hcut1:∀ w,(Instr.slice 9 (.string ⟨(s++10 :: r).toArray⟩) none (some (.int .i64 ((s.length:Int)+1))) none).run Tryz.prog w=.ok (.string ⟨(s++[10]).toArray⟩) w:=fun w=>run_lo s r w
    have hcut2:∀ w,(Instr.slice 9 (.string ⟨(s++10 :: r).toArray⟩) (some (.int .i64 ((s.length:Int)+1))) none none).run Tryz.prog w=.ok (.string ⟨r.toArray⟩) w:=fun w=>run_hi s r w
    gi_wp2
    refine⟨trivial,rfl,?_⟩
    refine(HI.out _).mono ?_
    rintro e w' ⟨rfl,rfl⟩
    rw[hi]
    gi_wp2
    gi_region
    have w0:Within wr (wr.setCell ⟨b,0,none⟩ (.string ⟨r.toArray⟩)) (fun x=>x=b):=(Within.refl _ _).put b 0 _ (.inl rfl)
    have w1:Within wr (wr.setCell ⟨b,0,none⟩ (.string ⟨r.toArray⟩)).drew (fun x=>x=b):=⟨w0.os,w0.tape,w0.output,w0.size,w0.block⟩
    clear w0
    have b1:Bk (wr.setCell ⟨b,0,none⟩ (.string ⟨r.toArray⟩)).drew b 9 #[bs r]:=hbk.put 0 (.string ⟨r.toArray⟩)
    generalize (wr.setCell ⟨b,0,none⟩ (.string ⟨r.toArray⟩)).drew=W2 at *
    have hj1:=hJ k _ _ hj w1
    obtain⟨fn,tmps,assign,body,hy,hR⟩:=hY k _ hk1 hj1 (by rintro x rfl;exact b1.lt)
    rw[hline] at hy
    unfold bs at hy
    gi_wp2
    refine⟨rfl,hR.mono ?_⟩
    rintro e W3 ⟨hh,(⟨rfl,hJ3⟩ | ⟨rfl,hJx3⟩)⟩
    ·gi_wp2
     have b3:Bk W3 b 9 #[bs r]:=(hh.2 b rfl).trans b1
     go_roundw
     case rel=>exact⟨k+1,r,by omega,hdr2,by simp at hle;omega,b3,hJ3⟩
     case measure=>rw[boxLen_of b3,hbl];simp;omega
    ·gi_wp2
     refine bodyPost_ret (results_none rfl _ _ _) rfl ?_
     exact⟨⟨_,rfl⟩,.inr hJx3⟩
theorem lLines (s:List UInt8)(w:World):
 Calls Tryz.prog 94 #[bs s] w fun e w'=>e=.returned (.func (.func 136) #[] #[.pointer (some ⟨w.heap.size,0,none⟩)])∧w'=w.alloc (.cells #[bs s] 9):=by
 unfold bs
 go_enter Tryz.func94,Tryz.ntmps94
 go_wp2
 go_ret
 exact⟨rfl,rfl⟩
theorem lCut (s p:List UInt8)(hl:s.length < 1000000)(w:World):
 Calls Tryz.prog 95 #[bs s,bs p] w fun e w'=>e=.returned (.tuple #[bs (Lib.trimSuffix s p),.bool (Lib.hasSuffix s p)])∧w=w':=
 (Any.strings_CutSuffix Tryz.lays104 ⟨s.toArray⟩ ⟨p.toArray⟩ w (by show s.toArray.size≤_;simp;omega)).mono fun _ _ ⟨he,hw⟩=>⟨he,hw.symm⟩
theorem suf_yes (s:List UInt8)(c:UInt8):Lib.hasSuffix (s++[c]) [c]=true∧Lib.trimSuffix (s++[c]) [c]=s:=by
 have h:Lib.hasSuffix (s++[c]) [c]=true:=by
  unfold Lib.hasSuffix
  rw[List.isSuffixOf_iff_suffix]
  exact⟨s,rfl⟩
 refine⟨h,?_⟩
 unfold Lib.trimSuffix
 rw[if_pos h]
 simp
theorem suf_no {s:List UInt8}{c:UInt8}(h:∀ t,s≠t++[c]):Lib.hasSuffix s [c]=false∧Lib.trimSuffix s [c]=s:=by
 have h:Lib.hasSuffix s [c]=false:=by
  rw[Bool.eq_false_iff]
  intro e
  unfold Lib.hasSuffix at e
  rw[List.isSuffixOf_iff_suffix] at e
  obtain⟨t,ht⟩:=e
  exact h t ht.symm
 refine⟨h,?_⟩
 unfold Lib.trimSuffix
 rw[if_neg (by rw[h];simp)]
theorem suf_or (s:List UInt8)(c:UInt8):(∃ t,s=t++[c])∨∀ t,s≠t++[c]:=by
 by_cases h:∃ t,s=t++[c]
 ·exact .inl h
 ·exact .inr fun t e=>h ⟨t,e⟩
end Go.Proofs.YthdgehcghklflaaGreatDoor
namespace Go.Proofs.YthdgehcghklflaaGreatDoor
open Go.ChangeShapes Go.WideShapes Go.ChangeAt Go.RowKit
theorem last_take (l:List En)(t:Int)(k:Nat)(h:k < l.length):lastD (l.take (k+1)) t=if l[k].th=t then l[k].kind else lastD (l.take k) t:=by
 rw[take_at l k h,lastD_snoc]
set_option maxHeartbeats 1000000 in
theorem rLast (l:List En)(a:Option Addr)(cap:Nat)(t:Int)(w:World)(S:EnS w a l)(hlen:l.length≤1000000000):
 Calls Tryz.prog 106 #[.slice a l.length cap,.int .i64 t] w fun e w'=>e=.returned (.int .i64 (lastD l t))∧Below w.heap.size w w':=by
 have HS:=Lib.hid (fun W (hW:Below w.heap.size w W)=>S.below hW)
 have HT:=Lib.hid (fun k h=>last_take l t k h)
 have HE:Hid (lastD (l.take l.length) t=lastD l t):=Lib.hid (by rw[List.take_length])
 clear S
 go_enter Tryz.func106,Tryz.ntmps106
 go_wp2
 go_loopw [5,10] (fun n q wr=>∃ k:Nat,q=.int .i64 k∧n=.int .i64 (lastD (l.take k) t)∧k≤l.length∧Below w.heap.size w wr) (fun _ q _=>l.length - (intOf q).toNat)
 case atStart=>exact⟨0,rfl,by simp[lastD],Nat.zero_le _,Below.refl _ _⟩
 case round=>
  obtain⟨k,rfl,rfl,hk,hb⟩:=hrel
  by_cases hlt:k < l.length
  ·have hki:(k:Int) < l.length:=by omega
   obtain⟨b,off,rfl,hbl,c0,c1,c2⟩:=(HS.out wr hb).at_ (List.getElem?_eq_getElem hlt)
   have hHT:=HT.out k hlt
   have hb2:=hb.alloc (o:=.cells #[.int .i64 l[k].kind,.int .i64 l[k].th,.int .i64 l[k].now] 94) hb.size
   generalize l[k]=x at *
   obtain⟨xk,xt,xn⟩:=x
   simp only at c0 c1 c2 hb2 hHT
   by_cases hq:xt=t
   ·rw[if_pos hq] at hHT
    have HE2:=Lib.hid hHT
    have q1:(xt==t)=true:=by simpa using hq
    clear hHT hq
    generalize lastD (l.take k) t=m at *
    go_wp2
    go_roundw
    case rel=>exact⟨k+1,by go_num,by rw[HE2.out],by omega,hb2⟩
    case measure=>simp[intOf];omega
   ·rw[if_neg hq] at hHT
    have HE2:=Lib.hid hHT
    have q1:(xt==t)=false:=by simpa using hq
    clear hHT hq
    generalize lastD (l.take k) t=m at *
    go_wp2
    go_roundw
    case rel=>exact⟨k+1,by go_num,by rw[HE2.out],by omega,hb2⟩
    case measure=>simp[intOf];omega
  ·obtain rfl:k=l.length:=by omega
   rw[HE.out]
   go_wp2
   go_ret
   exact⟨rfl,hb⟩
theorem rState (l:List En)(a:Option Addr)(cap:Nat)(t:Int)(w:World)(S:EnS w a l)(hlen:l.length≤1000000000):
 Calls Tryz.prog 145 #[.slice a l.length cap,.int .i64 t] w fun e w'=>e=.returned (.int .i64 (stK (lastD l t)))∧Below w.heap.size w w':=by
 have HL:=Lib.hid (rLast l a cap t w S hlen)
 generalize lastD l t=k at *
 clear S
 by_cases h:k=1∨k=2∨k=3∨k=4∨k=5∨k=8∨k=9
 ·rcases h with rfl | rfl | rfl | rfl | rfl | rfl | rfl <;> (
   go_enter Tryz.func145,Tryz.ntmps145
   go_wp2_with fail
   refine HL.out.mono ?_
   rintro e y ⟨rfl,hy⟩
   go_wp2
   go_ret
   exact⟨rfl,hy⟩)
 ·have HE:Hid (stK k=0):=Lib.hid (by
   unfold stK;repeat' split
   all_goals first | rfl | omega)
  have e1:(k==1)=false:=beq_eq_false_iff_ne.2 (by omega)
  have e2:(k==2)=false:=beq_eq_false_iff_ne.2 (by omega)
  have e3:(k==3)=false:=beq_eq_false_iff_ne.2 (by omega)
  have e4:(k==4)=false:=beq_eq_false_iff_ne.2 (by omega)
  have e5:(k==5)=false:=beq_eq_false_iff_ne.2 (by omega)
  have e8:(k==8)=false:=beq_eq_false_iff_ne.2 (by omega)
  have e9:(k==9)=false:=beq_eq_false_iff_ne.2 (by omega)
  clear h
  generalize stK k=r at *
  go_enter Tryz.func145,Tryz.ntmps145
  go_wp2_with fail
  refine HL.out.mono ?_
  rintro e y ⟨rfl,hy⟩
  go_wp2
  go_ret
  exact⟨by rw[HE.out];rfl,hy⟩
theorem EnS.behind {w:World}{b off:Nat}{l:List En}(h:EnS w (some ⟨b,off,none⟩) l)(k:Nat):EnS w (some ⟨b,off+k * 3,none⟩) (l.drop k):=by
 intro h0
 rw[List.length_drop] at h0
 obtain⟨b2,off2,e,hlt,hc⟩:=h (by omega)
 simp only[Option.some.injEq,Addr.mk.injEq,and_true] at e
 obtain⟨rfl,rfl⟩:=e
 refine⟨b,off+k * 3,rfl,hlt,fun i x hi j hj=>?_⟩
 rw[List.getElem?_drop] at hi
 rw[←hc _ x hi j hj]
 congr 2
 omega
theorem EnS.from_ {w:World}{b off cap:Nat}{l:List En}(h:EnS w (some ⟨b,off,none⟩) l)(k:Nat)(hp:l.length≤cap):EnS w (if cap=k then some ⟨b,off,none⟩ else some ⟨b,off+k * 3,none⟩) (l.drop k):=by
 split
 ·rw[List.drop_of_length_le (by omega)]
  exact EnS.nil _ _
 ·exact h.behind k
theorem queue_take (l:List En)(k:Nat):(List.range (k+1)).filterMap (qAt l)=(List.range k).filterMap (qAt l)++(match qAt l k with
 | some t=>[t]
 | none=>[]):=by
 rw[List.range_succ,List.filterMap_append]
 congr 1
 cases h:qAt l k <;> simp[h]
theorem qpart_len (l:List En)(k:Nat):((List.range k).filterMap (qAt l)).length≤k:=Nat.le_trans (List.length_filterMap_le _ _) (by simp)
set_option maxHeartbeats 2000000 in
theorem rQueue (l:List En)(a:Option Addr)(cap:Nat)(w:World)(S:EnS w a l)(hp:l.length≤cap)(hcm:cap≤maxLen)(hlen:l.length≤1000000000):
 Calls Tryz.prog 107 #[.slice a l.length cap] w fun e w'=>∃ v,e=.returned v∧Lst .i64 3 w' v (queueD l)∧(∀ g,v.ownBlock=some g→w.heap.size≤g)∧Below w.heap.size w w':=by
 have HS:=Lib.hid (fun W (hW:Below w.heap.size w W)=>S.below hW)
 have HQ:=Lib.hid (queue_take l)
 have HL:=Lib.hid (fun k=>qpart_len l k)
 have HE:Hid ((List.range l.length).filterMap (qAt l)=queueD l):=Lib.hid rfl
 have HLa:=Lib.hid (fun t W (hW:Below w.heap.size w W)=>rLast l a cap t W (S.below hW) hlen)
 simp only[maxLen] at hcm
 clear S
 go_enter Tryz.func107,Tryz.ntmps107
 go_wp2
 go_loopw [3,8] (fun o q wr=>∃ k:Nat,q=.int .i64 k∧Lst .i64 3 wr o ((List.range k).filterMap (qAt l))∧Hid (∀ g,o.ownBlock=some g→w.heap.size≤g)∧k≤l.length∧Below w.heap.size w wr) (fun _ q _=>l.length - (intOf q).toNat)
 case atStart=>exact⟨0,rfl,Lst.nil _ _ _,Lib.hid (fun g e=>by cases e),Nat.zero_le _,Below.refl _ _⟩
 case round=>
  obtain⟨k,rfl,hO,HB,hk,hb⟩:=hrel
  by_cases hlt:k < l.length
  ·have hki:(k:Int) < l.length:=by omega
   have hS:=HS.out wr hb
   obtain⟨b,off,rfl,hbl,c0,c1,c2⟩:=hS.at_ (List.getElem?_eq_getElem hlt)
   have hNb:=Nb.made 94 wr l[k].kind l[k].th l[k].now
   have hb2:=hb.alloc (o:=.cells #[.int .i64 l[k].kind,.int .i64 l[k].th,.int .i64 l[k].now] 94) hb.size
   have HQk:Hid (qAt l k=if l[k].kind=2∧lastD l l[k].th=2∧lastD (l.drop (k+1)) l[k].th=0 then some l[k].th else none):=Lib.hid (by unfold qAt;rw[List.getElem?_eq_getElem hlt])
   generalize l[k]=x at *
   obtain⟨xk,xt,xn⟩:=x
   simp only at c0 c1 c2 hb2 hNb HQk
   go_upto_region 5 with fail
   have HLk:Hid (((List.range k).filterMap (qAt l)).length≤1000000000):=Lib.hid (by have:=HL.out k;omega)
   have HQ2:=Lib.hid (HQ.out k)
   have hO2:=hO.alloc (.cells #[.int .i64 xk,.int .i64 xt,.int .i64 xn] 94)
   have HL1:Hid (∀ g:Grw (wr.alloc (.cells #[.int .i64 xk,.int .i64 xt,.int .i64 xn] 94)),Calls Tryz.prog 106 #[.slice (some ⟨b,off,none⟩) l.length cap,.int .i64 xt] g.x fun e y=>e=.returned (.int .i64 (lastD l xt))∧Below g.x.heap.size g.x y):=Lib.hid (fun g=>HLa.out xt g.x (hb2.trans (g.ok.mono hb2.size)))
   have HL2:Hid (∀ g:Grw (wr.alloc (.cells #[.int .i64 xk,.int .i64 xt,.int .i64 xn] 94)),Calls Tryz.prog 106 #[.slice (if cap=k+1 then some ⟨b,off,none⟩ else some ⟨b,off+(k+1) * 3,none⟩) (l.length - (k+1)) (cap - (k+1)),.int .i64 xt] g.x fun e y=>e=.returned (.int .i64 (lastD (l.drop (k+1)) xt))∧Below g.x.heap.size g.x y):=Lib.hid (fun g=>by
    have:=rLast (l.drop (k+1)) (if cap=k+1 then some ⟨b,off,none⟩ else some ⟨b,off+(k+1) * 3,none⟩) (cap - (k+1)) xt g.x (((HS.out _ hb2).from_ (k+1) hp).below ((g.ok))) (by rw[List.length_drop];omega)
    rwa [List.length_drop] at this)
   generalize lastD l xt=la at *
   generalize lastD (l.drop (k+1)) xt=lb at *
   generalize hz:wr.alloc (.cells #[.int .i64 xk,.int .i64 xt,.int .i64 xn] 94)=z at *
   generalize wr.heap.size=p at *
   obtain⟨e0,e1,e2⟩:=hNb.cells
   simp only at e0 e1 e2
   have g0:∀ g:Grw z,g.x.cell? ⟨p,0,none⟩=some (.int .i64 xk):=fun g=>g.cell e0
   have g1:∀ g:Grw z,g.x.cell? ⟨p,1,none⟩=some (.int .i64 xt):=fun g=>g.cell e1
   have hkc:((k:Int)+1)≤(cap:Int):=by omega
   have hkl2:k+1≤l.length:=by omega
   clear hO hb hS c0 c1 c2 hNb e0 e1 e2 hz
   by_cases h2:xk=2
   ·have q2:(xk==2)=true:=by simpa using h2
    by_cases hla:la=2
    ·have q3:(la==2)=true:=by simpa using hla
     by_cases hlb:lb=0
     ·have q4:(lb==0)=true:=by simpa using hlb
      have HSk:Hid ((List.range (k+1)).filterMap (qAt l)=(List.range k).filterMap (qAt l)++[xt]):=Lib.hid (by rw[HQ2.out,HQk.out,if_pos (by omega)])
      clear HQ HQ2 HQk h2 hla hlb HL
      refine wp_region_grow (by kernel_rfl) (by kernel_rfl) ?_
      repeat (go_big_quiet_step (first | (go_at_call 106;with_reducible exact grw_call (HL1.out _)) | (go_at_call 106;with_reducible exact grw_call (HL2.out _))))
      refine wpQuiet_nil ?_
      rintro y ⟨⟨_,hy⟩,rfl⟩
      have HY:=Lib.hid (hb2.trans (hy.mono hb2.size))
      have hO3:=hO2.within (within_of_below hy) (by simp)
      have e1y:y.cell? ⟨p,1,none⟩=some (.int .i64 xt):=g1 ⟨y,hy⟩
      have HO:=Lib.hid hO3
      clear HL1 HL2 g0 g1 hb2 hO2 hO3
      generalize (List.range k).filterMap (qAt l)=qs at *
      go_wp2_with (at_builtin;refine wpLstAppB rfl _ _ 26 rfl 8 Tryz.underlying26 intinfo (by omega) HO.out rfl xt rfl (by have:=HLk.out;omega) ?_;intro v' w' hown hgr hloc)
      have hfin:Below w.heap.size w w':=HY.out.grown hgr HY.out.size HB.out
      have HB2:Hid (∀ g,v'.ownBlock=some g→w.heap.size≤g):=Lib.hid (fun g e=>by
       rcases hloc with e2 | e2
       ·exact HB.out g (by rw[←e2];exact e)
       ·rw[e2] at e;injection e with e;have:=HY.out.size;omega)
      rw[←HSk.out] at hown
      clear hgr hloc HB HO HSk
      go_roundw
      case rel=>exact⟨k+1,by go_num,hown,HB2,by omega,hfin⟩
      case measure=>simp[intOf];omega
     ·have q4:(lb==0)=false:=by simpa using hlb
      have HSk:Hid ((List.range (k+1)).filterMap (qAt l)=(List.range k).filterMap (qAt l)):=Lib.hid (by rw[HQ2.out,HQk.out,if_neg (by omega)];simp)
      clear HQ HQ2 HQk h2 hla hlb HL
      refine wp_region_grow (by kernel_rfl) (by kernel_rfl) ?_
      repeat (go_big_quiet_step (first | (go_at_call 106;with_reducible exact grw_call (HL1.out _)) | (go_at_call 106;with_reducible exact grw_call (HL2.out _))))
      refine wpQuiet_nil ?_
      rintro y ⟨⟨_,hy⟩,rfl⟩
      have HY:=Lib.hid (hb2.trans (hy.mono hb2.size))
      have hO3:=hO2.within (within_of_below hy) (by simp)
      rw[←HSk.out] at hO3
      clear HL1 HL2 g0 g1 hb2 hO2 hy
      go_wp2
      go_roundw
      case rel=>exact⟨k+1,by go_num,hO3,HB,by omega,HY.out⟩
      case measure=>simp[intOf];omega
    ·have q3:(la==2)=false:=by simpa using hla
     have HSk:Hid ((List.range (k+1)).filterMap (qAt l)=(List.range k).filterMap (qAt l)):=Lib.hid (by rw[HQ2.out,HQk.out,if_neg (by omega)];simp)
     clear HQ HQ2 HQk h2 hla HL
     refine wp_region_grow (by kernel_rfl) (by kernel_rfl) ?_
     repeat (go_big_quiet_step (first | (go_at_call 106;with_reducible exact grw_call (HL1.out _)) | (go_at_call 106;with_reducible exact grw_call (HL2.out _))))
     refine wpQuiet_nil ?_
     rintro y ⟨⟨_,hy⟩,rfl⟩
     have HY:=Lib.hid (hb2.trans (hy.mono hb2.size))
     have hO3:=hO2.within (within_of_below hy) (by simp)
     rw[←HSk.out] at hO3
     clear HL1 HL2 g0 g1 hb2 hO2 hy
     go_wp2
     go_roundw
     case rel=>exact⟨k+1,by go_num,hO3,HB,by omega,HY.out⟩
     case measure=>simp[intOf];omega
   ·have q2:(xk==2)=false:=by simpa using h2
    have HSk:Hid ((List.range (k+1)).filterMap (qAt l)=(List.range k).filterMap (qAt l)):=Lib.hid (by rw[HQ2.out,HQk.out,if_neg (by omega)];simp)
    clear HQ HQ2 HQk h2 HL
    refine wp_region_grow (by kernel_rfl) (by kernel_rfl) ?_
    repeat (go_big_quiet_step (first | (go_at_call 106;with_reducible exact grw_call (HL1.out _)) | (go_at_call 106;with_reducible exact grw_call (HL2.out _))))
    refine wpQuiet_nil ?_
    rintro y ⟨⟨_,hy⟩,rfl⟩
    have HY:=Lib.hid (hb2.trans (hy.mono hb2.size))
    have hO3:=hO2.within (within_of_below hy) (by simp)
    rw[←HSk.out] at hO3
    clear HL1 HL2 g0 g1 hb2 hO2 hy
    go_wp2
    go_roundw
    case rel=>exact⟨k+1,by go_num,hO3,HB,by omega,HY.out⟩
    case measure=>simp[intOf];omega
  ·obtain rfl:k=l.length:=by omega
   rw[HE.out] at hO
   go_wp2
   go_ret
   exact⟨_,rfl,hO,HB.out,hb⟩
theorem ownerD_hit {l:List En}{j:Nat}(hj:j < l.length)(h:ownK (lastD l l[j].th)=true)(hn:∀ m (hm:m < l.length),j < m→ownK (lastD l l[m].th)=false):ownerD l=l[j].th:=by
 unfold ownerD
 have:l.reverse.find? (fun x=>ownK (lastD l x.th))=some l[j]:=by
  rw[List.find?_eq_some_iff_getElem]
  refine⟨h,l.length - 1 - j,by simp;omega,?_,fun i hi=>?_⟩
  ·rw[List.getElem_reverse];congr 1;omega
  ·rw[List.getElem_reverse]
   have:=hn (l.length - 1 - i) (by omega) (by omega)
   rw[this];rfl
 rw[this]
theorem ownerD_not {l:List En}(hn:∀ m (hm:m < l.length),ownK (lastD l l[m].th)=false):ownerD l=-1:=by
 unfold ownerD
 have:l.reverse.find? (fun x=>ownK (lastD l x.th))=none:=by
  rw[List.find?_eq_none]
  intro x hx
  rw[List.mem_reverse] at hx
  obtain⟨m,hm,rfl⟩:=List.getElem_of_mem hx
  rw[hn m hm];simp
 rw[this]
set_option maxHeartbeats 1000000 in
theorem rOwner (l:List En)(a:Option Addr)(cap:Nat)(w:World)(S:EnS w a l)(hlen:l.length≤1000000000):
 Calls Tryz.prog 108 #[.slice a l.length cap] w fun e w'=>e=.returned (.int .i64 (ownerD l))∧Below w.heap.size w w':=by
 have HS:=Lib.hid (fun W (hW:Below w.heap.size w W)=>S.below hW)
 have HSt:=Lib.hid (fun t W (hW:Below w.heap.size w W)=>rState l a cap t W (S.below hW) hlen)
 have HN:Hid ((∀ m (hm:m < l.length),ownK (lastD l l[m].th)=false)→ownerD l=-1):=Lib.hid ownerD_not
 have HH:Hid (∀ j (hj:j < l.length),ownK (lastD l l[j].th)=true→(∀ m (hm:m < l.length),j < m→ownK (lastD l l[m].th)=false)→ownerD l=l[j].th):=Lib.hid (fun j hj h1 h2=>ownerD_hit hj h1 h2)
 generalize ownerD l=res at *
 clear S
 go_enter Tryz.func108,Tryz.ntmps108
 go_wp2
 go_loopw [3] (fun q wr=>∃ k:Nat,q=.int .i64 ((k:Int) - 1)∧k≤l.length∧Below w.heap.size w wr∧Hid (∀ m (hm:m < l.length),k≤m→ownK (lastD l l[m].th)=false)) (fun q _=>(intOf q+1).toNat)
 case atStart=>exact⟨l.length,rfl,Nat.le_refl _,Below.refl _ _,Lib.hid (fun m hm h=>by omega)⟩
 case round=>
  obtain⟨k,rfl,hk,hb,HB⟩:=hrel
  cases k with
  | zero=>
   have HR:=Lib.hid (HN.out (fun m hm=>HB.out m hm (Nat.zero_le _)))
   clear HB HN HH HS HSt
   go_wp2
   go_ret
   exact⟨by rw[HR.out];rfl,hb⟩
  | succ j=>
   have hj:j < l.length:=by omega
   have ej:(((j+1:Nat):Int) - 1)=(j:Int):=by omega
   rw[ej]
   have hge:((j:Int)≥0):=by omega
   have hji:(j:Int) < l.length:=by omega
   have hS:=HS.out wr hb
   obtain⟨b,off,rfl,hbl,c0,c1,c2⟩:=hS.at_ (List.getElem?_eq_getElem hj)
   have HSj:=Lib.hid (HSt.out l[j].th wr hb)
   have HHj:=Lib.hid (HH.out j hj)
   have HBj:Hid (ownK (lastD l l[j].th)=false→∀ m (hm:m < l.length),j≤m→ownK (lastD l l[m].th)=false):=Lib.hid (fun e m hm h=>by
    by_cases e2:m=j
    ·subst e2;exact e
    ·exact HB.out m hm (by omega))
   rw[←stK_own] at HHj HBj
   generalize lastD l l[j].th=la at *
   generalize stK la=s at *
   have hS2:Hid (∀ y,Below wr.heap.size wr y→y.cell? ⟨b,off+j * 3+1,none⟩=some (.int .i64 l[j].th)):=Lib.hid (fun y hy=>(hy.cell (p:=⟨b,off+j * 3+1,none⟩) hbl).trans c1)
   generalize l[j]=x at *
   obtain⟨xk,xt,xn⟩:=x
   simp only at c0 c1 c2 HSj HHj hS2
   clear HH HN HS HSt hS c0 c2 ej hge
   by_cases hs:s=3∨s=4∨s=6
   ·have HR:=Lib.hid (HHj.out (by rcases hs with rfl | rfl | rfl <;> decide) (fun m hm h=>HB.out m hm (by omega)))
    clear HHj HBj HB
    rcases hs with rfl | rfl | rfl <;> (
     go_wp2_with fail
     refine HSj.out.mono ?_
     rintro e y ⟨rfl,hy⟩
     have hfin:=hb.trans (hy.mono hb.size)
     have c1y:=hS2.out y hy
     clear HSj hS2 hb hy
     go_wp2
     go_ret
     exact⟨by rw[HR.out];rfl,hfin⟩)
   ·have e3:(s==3)=false:=beq_eq_false_iff_ne.2 (by omega)
    have e4:(s==4)=false:=beq_eq_false_iff_ne.2 (by omega)
    have e6:(s==6)=false:=beq_eq_false_iff_ne.2 (by omega)
    have HB2:=Lib.hid (HBj.out (by unfold ownS;simp;omega))
    clear HHj HBj HB hs
    go_wp2_with fail
    refine HSj.out.mono ?_
    rintro e y ⟨rfl,hy⟩
    have hfin:=hb.trans (hy.mono hb.size)
    clear HSj hS2 hb hy
    go_wp2
    go_roundw
    case rel=>exact⟨j,by go_num,by omega,hfin,HB2⟩
    case measure=>simp[intOf]
end Go.Proofs.YthdgehcghklflaaGreatDoor
