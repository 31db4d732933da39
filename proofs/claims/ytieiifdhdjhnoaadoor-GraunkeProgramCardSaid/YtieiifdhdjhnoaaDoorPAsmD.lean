import Derived.Test.YtieiifdhdjhnoaaDoorPFlow
import Derived.Test.YtieiifdhdjhnoaaDoorPAsmB
import Derived.Test.YtieiifdhdjhnoaaDoorPAsmC
set_option linter.unusedVariables false
set_option maxHeartbeats 1000000
open Go.Value renaming int->I
open Go.IntKind renaming i64->Q
open Go.Lib renaming hid->N
namespace Go.Proofs.YtieiifdhdjhnoaaDoor
open Go.ChangeShapes Go.WideShapes Go.ChangeAt Go.RowKit Go.Shelf
theorem mo (t:List UInt8):lY (t++[58])=aW t:=by
 unfold lY
 simp
theorem nl {s:List UInt8}(h:∀ t,s≠t++[58]):lY s=false:=by
 rw[Bool.eq_false_iff]
 intro e
 unfold lY at e
 simp only[Bool.and_eq_true,decide_eq_true_eq,Bool.not_eq_true',List.isEmpty_eq_false_iff] at e
 obtain⟨h1,h2,_⟩:=e
 refine h s.dropLast ?_
 have:=List.dropLast_concat_getLast h1
 have h3:(s.dropLast++[s.getLast h1]).getLastD 0=58:=by rw[this];exact h2
 simp at h3
 rw[h3] at this
 exact this.symm
def cB (s:List UInt8)(n:Int)(ls:List (List UInt8×Int))(rs:List Rw):Int×List (List UInt8×Int)×List Rw:=
 if lY s=true then (if bO ls s.dropLast=true then (2,ls,rs) else (0,ls++[(s.dropLast,(rs.length:Int))],rs))
 else match bT s with
  | none=>(8,ls,rs)
  | some (i,nm)=>if 64<=rs.length then (9,ls,rs) else (0,ls,rs++[(i,nm,n)])
section
variable {w:World}{p m lo:Nat}{ls:List (List UInt8×Int)}{rs:List Rw}
theorem mP (h:Dr w p m lo ls rs)(s:List UInt8)(hs:∀ t,s≠t++[10])(hl:s.length<100000)(n:Int):
 Calls Tryd.prog 14 #[.pointer (some ⟨p,0,none⟩),I Q n,bs s] w fun e w'=>e=.returned (I Q 8)/\w=w':=by
 have HC:=N (fun W=>nQ s [10] (by omega) W)
 rw[(gk hs).1,(gk hs).2] at HC
 unfold bs
 go_enter Tryd.func14,Tryd.ntmps14
 go_wp2_with fail
 refine(HC.out _).mono ?_
 rintro e w' ⟨rfl,rfl⟩
 unfold bs
 go_wp2
 go_ret
 exact⟨rfl,rfl⟩
def gh (w:World)(p m lo:Nat)(q:Int×List (List UInt8×Int)×List Rw)(e:Ending)(w':World):Prop:=e=.returned (I Q q.1)/\Dr w' p m lo q.2.1 q.2.2/\af w w' (kV p m lo)
theorem om (h:Dr w p m lo ls rs)(hlo:lo<=w.heap.size)(L:Lb w)(s:List UInt8)(hl:s.length<90000)(n:Int)(hls:ls.length<1000000)(hrs:rs.length<=64):
 Calls Tryd.prog 14 #[.pointer (some ⟨p,0,none⟩),I Q n,bs (s++[10])] w (gh w p m lo (cB s n ls rs)):=by
 have HC:=N (fun W=>nQ (s++[10]) [10] (by simp;omega) W)
 rw[(ei s 10).1,(ei s 10).2] at HC
 have HK:=N (fun W=>nQ s [58] (by omega) W)
 have HI:=N (fun W LW=>mM s (by omega) W LW)
 have HB:Hid (∀ W,Below w.heap.size w W->Dr W p m lo ls rs/\af w W (kV p m lo)):=N fun W hW=>⟨h.within (av hW) (by simp) (by simp) (by simp),(av hW).wide (by simp)⟩
 have HLB:=N (fun W (hW:Below w.heap.size w W)=>L.below hW)
 rcases m7 s 58 with ⟨nm,hnm⟩ | hno
 case' inl=>
  have e1:=(ei nm 58).1
  have e2:=(ei nm 58).2
  rw[<-hnm] at e1 e2
  rw[e1,e2] at HK
  have HN:=N (fun W=>jD nm W)
  have hlb:lY s=aW nm:=by rw[hnm];exact mo nm
  have hdl:s.dropLast=nm:=by rw[hnm];simp
  have HD:=N hdl
  have hnl:nm.length<=1000000:=by rw[hnm] at hl;simp at hl;omega
  clear e1 e2 hdl
  clear hnm
  unfold bs
  go_enter Tryd.func14,Tryd.ntmps14
  go_wp2_with fail
  refine(HC.out _).mono ?_
  rintro e w' ⟨rfl,rfl⟩
  unfold bs
  go_wp2_with fail
  refine(HK.out _).mono ?_
  rintro e w' ⟨rfl,rfl⟩
  unfold bs
  go_wp2_with fail
  refine(HN.out _).mono ?_
  rintro e x ⟨rfl,bb⟩
  rcases hq:aW nm
  case' true=>
   rw[hq] at hlb
   have HLBL:=N hlb
   clear HI HC HK HN hq hlb
   obtain⟨hD,hW⟩:=HB.out x bb
   rcases hk:bO ls nm
   ·have HA:=N (kD hD nm hnl hls hrs hk)
    go_wp2_with fail
    refine HA.out.mono ?_
    rintro e y ⟨rfl,hD2,hW2⟩
    go_wp2
    go_ret
    have:cB s n ls rs=(0,ls++[(nm,(rs.length:Int))],rs):=by
     unfold cB
     rw[if_pos HLBL.out,HD.out,if_neg (by rw[hk];simp)]
    unfold gh
    rw[this]
    exact⟨rfl,hD2,hW.cw hW2 fun i hi=>.inl hi⟩
   ·have HA:=N (gA hD nm hnl hk)
    go_wp2_with fail
    refine HA.out.mono ?_
    rintro e y ⟨rfl,rfl⟩
    go_wp2
    go_ret
    have:cB s n ls rs=(2,ls,rs):=by
     unfold cB
     rw[if_pos HLBL.out,HD.out,if_pos hk]
    unfold gh
    rw[this]
    exact⟨rfl,hD,hW⟩
  case' false=>
   rw[hq] at hlb
   have HLBL:=N hlb
   clear HC HK HN hq hlb HD
   go_wp2_with fail
 case' inr=>
  rw[(gk hno).1,(gk hno).2] at HK
  have HLBL:=N (nl hno)
  clear hno
  unfold bs
  go_enter Tryd.func14,Tryd.ntmps14
  go_wp2_with fail
  refine(HC.out _).mono ?_
  rintro e w' ⟨rfl,rfl⟩
  unfold bs
  go_wp2_with fail
  refine(HK.out _).mono ?_
  rintro e w' ⟨rfl,rfl⟩
  unfold bs
  have bb:=Below.refl w.heap.size w
  clear HC HK
  go_wp2_with fail
 all_goals (
  refine(HI.out _ (HLB.out _ bb)).mono ?_
  rintro e y ⟨rfl,hby⟩
  replace bb:=bb.trans (hby.mono bb.size)
  clear hby HI
  rcases hq:bT s with _ | ⟨⟨op,d,s',t,u,a,k,pl⟩,nm2⟩
  ·have e:cu s=.tuple #[.agg #[I Q 0,I Q 0,I Q 0,I Q 0,I Q 0,I Q 0,I .u32 0,I Q 0],.string ⟨#[]⟩,.bool false]:=by unfold cu;rw[hq];rfl
   have ea:cB s n ls rs=(8,ls,rs):=by unfold cB;rw[if_neg (by rw[HLBL.out];simp),hq]
   have EA:=N ea
   rw[e]
   clear e hq HLBL ea
   go_wp2
   go_ret
   unfold gh
   rw[EA.out]
   exact⟨rfl,HB.out _ (bb.alloc bb.size _)⟩
  ·have e:cu s=.tuple #[.agg #[I Q op,I Q d,I Q s',I Q t,I Q u,I Q a,I .u32 k,I Q pl],.string ⟨nm2.toArray⟩,.bool true]:=by unfold cu;rw[hq];rfl
   have ea:cB s n ls rs=if 64<=rs.length then (9,ls,rs) else (0,ls,rs++[(⟨op,d,s',t,u,a,k,pl⟩,nm2,n)]):=by unfold cB;rw[if_neg (by rw[HLBL.out];simp),hq]
   have EA:=N ea
   rw[e]
   clear e hq HLBL ea
   go_upto_region 8 with fail
   have m2:=Ib.made y op d s' t u a k pl
   replace bb:=bb.alloc (o:=.cells #[I Q op,I Q d,I Q s',I Q t,I Q u,I Q a,I .u32 k,I Q pl] 59) bb.size
   generalize y.heap.size=g at *
   generalize y.alloc (.cells #[I Q op,I Q d,I Q s',I Q t,I Q u,I Q a,I .u32 k,I Q pl] 59)=x3 at *
   obtain⟨c0,c1,c2,c3,c4,c5,c6,c7⟩:=m2.cells
   simp only at c0 c1 c2 c3 c4 c5 c6 c7
   obtain⟨hD,hW⟩:=HB.out x3 bb
   go_wp2_with fail
   by_cases h64:rs.length<64
   ·refine(mO hD h64 (Nat.le_trans hlo bb.size) (⟨op,d,s',t,u,a,k,pl⟩,nm2,n)).mono ?_
    rintro e z ⟨rfl,hD2,hW2⟩
    go_wp2
    go_ret
    unfold gh
    rw[EA.out,if_neg (by omega)]
    exact⟨rfl,hD2,hW.cw hW2 fun i hi=>.inl hi⟩
   ·refine(kC hD (by omega) (⟨op,d,s',t,u,a,k,pl⟩,nm2,n)).mono ?_
    rintro e z ⟨rfl,hz⟩
    go_wp2
    go_ret
    unfold gh
    rw[EA.out,if_pos (by omega)]
    exact⟨rfl,HB.out _ (bb.trans (hz.mono bb.size))⟩)
end
