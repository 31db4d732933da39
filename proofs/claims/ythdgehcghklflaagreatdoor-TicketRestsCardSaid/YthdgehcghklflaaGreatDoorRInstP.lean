import Derived.Test.YthdgehcghklflaaGreatDoorRTkD
import Derived.Test.YthdgehcghklflaaGreatDoorRMem
import Derived.Test.YthdgehcghklflaaGreatDoorRWdA
import Derived.Test.YthdgehcghklflaaGreatDoorRInstC
import Derived.Test.YthdgehcghklflaaGreatDoorRPrgM
set_option linter.unusedVariables false
namespace Go.Proofs.YthdgehcghklflaaGreatDoor
theorem split_words:∀ (m:Nat) (s:List UInt8),(wordsL s).length≤m+1→Lib.splitK [32] 0 m s=wordsL s
 | 0,s,h=>by
  rcases blank_or s with h1 | ⟨t,r,h1,rfl⟩
  ·rw[wordsL_one s h1];rfl
  ·rw[wordsL_more t r h1] at h
   have:=wordsL_pos r
   rw[List.length_cons] at h
   omega
 | m+1,s,h=>by
  rcases blank_or s with h1 | ⟨t,r,h1,rfl⟩
  ·rw[wordsL_one s h1];unfold Lib.splitK;rw[index_bf s h1];rfl
  ·rw[wordsL_more t r h1] at h ⊢
   unfold Lib.splitK
   rw[index_at t r h1,if_neg (by simp <;> omega)]
   have e1:(t++32 :: r).take (((t.length:Int)).toNat+0)=t:=by simp
   have e2:(t++32 :: r).drop (((t.length:Int)).toNat+[(32:UInt8)].length)=r:=by simp[List.drop_append]
   rw[e1,e2,split_words m r (by simp at h;omega)]
theorem splitL_words (s:List UInt8)(h:(wordsL s).length≤9):splitL s=wordsL s:=by
 unfold splitL Lib.splitN
 have:=wordsL_len s
 exact split_words _ s (by omega)
def rgw (n:Nat):List UInt8:=114 :: Lib.decDigits n
theorem rgw_bf (n:Nat):Bf (rgw n):=by
 intro c hc
 rcases List.mem_cons.1 hc with rfl | hc
 ·decide
 ·exact dec_bf n c hc
theorem val_dec (n:Nat)(h:n < 9223372036854775808):valL (Lib.decDigits n)=n:=by
 have ha:=atoi_dec n h
 obtain⟨c,r,e,h1,h2,-⟩:=dec_cons n
 rw[e] at ha ⊢
 have n1:c≠101:=fun e=>by rw[e] at h2;exact absurd h2 (by decide)
 have n2:c≠110:=fun e=>by rw[e] at h2;exact absurd h2 (by decide)
 have n3:c≠114:=fun e=>by rw[e] at h2;exact absurd h2 (by decide)
 unfold valL
 rw[if_neg (by intro e;injection e with e _;exact n1 e),if_neg (by intro e;injection e with e _;exact n2 e)]
 have et:Lib.trimPrefix (c :: r) [114]=c :: r:=by
  unfold Lib.trimPrefix Lib.hasPrefix
  rw[if_neg (by simp[List.isPrefixOf];exact fun e=>n3 e.symm)]
 rw[et,ha]
theorem val_rgw (n:Nat)(h:n < 9223372036854775808):valL (rgw n)=n:=by
 have ha:=atoi_dec n h
 unfold valL rgw
 rw[if_neg (by intro e;injection e with e _;exact absurd e (by decide)),if_neg (by intro e;injection e with e _;exact absurd e (by decide))]
 have et:Lib.trimPrefix (114 :: Lib.decDigits n) [114]=Lib.decDigits n:=by
  unfold Lib.trimPrefix Lib.hasPrefix
  rw[if_pos (by simp[List.isPrefixOf])]
  rfl
 rw[et,ha]
theorem join_1 (dn kn:Nat):textL ⟨1,(dn:Nat),0,0,0,0,(kn:Nat),0⟩=joinL (nmL 1) [rgw dn,Lib.decDigits kn]:=by
 simp[textL,hsL,partsL,partL,getI,itoa_nat,joinL,rgw]
theorem words_1 (dn kn:Nat):wordsL (textL ⟨1,(dn:Nat),0,0,0,0,(kn:Nat),0⟩)=nmL 1 :: [rgw dn,Lib.decDigits kn]:=by
 rw[join_1]
 exact words_join _ _ (by unfold Bf;decide) (by simp[rgw_bf,dec_bf])
theorem drafts_1 (dn kn:Nat)(hdn:dn < 9223372036854775808)(hkn:kn < 9223372036854775808)(k1:kn < 4294967296):parsedI (textL ⟨1,(dn:Nat),0,0,0,0,(kn:Nat),0⟩)=⟨1,(dn:Nat),0,0,0,0,(kn:Nat),0⟩:=by
 unfold parsedI
 rw[splitL_words _ (by rw[words_1];simp),words_1]
 have e:opN (nmL 1)=1:=by decide
 simp[draftI,e,hsL,fillI,lastI,setI,valAt,val_rgw dn hdn,val_dec kn hkn,Ins.zero]
 omega
theorem join_2 (dn sn:Nat):textL ⟨2,(dn:Nat),(sn:Nat),0,0,0,0,0⟩=joinL (nmL 2) [rgw dn,rgw sn]:=by
 simp[textL,hsL,partsL,partL,getI,itoa_nat,joinL,rgw]
theorem words_2 (dn sn:Nat):wordsL (textL ⟨2,(dn:Nat),(sn:Nat),0,0,0,0,0⟩)=nmL 2 :: [rgw dn,rgw sn]:=by
 rw[join_2]
 exact words_join _ _ (by unfold Bf;decide) (by simp[rgw_bf])
theorem drafts_2 (dn sn:Nat)(hdn:dn < 9223372036854775808)(hsn:sn < 9223372036854775808):parsedI (textL ⟨2,(dn:Nat),(sn:Nat),0,0,0,0,0⟩)=⟨2,(dn:Nat),(sn:Nat),0,0,0,0,0⟩:=by
 unfold parsedI
 rw[splitL_words _ (by rw[words_2];simp),words_2]
 have e:opN (nmL 2)=2:=by decide
 simp[draftI,e,hsL,fillI,lastI,setI,valAt,val_rgw dn hdn,val_rgw sn hsn,Ins.zero]
theorem join_3 (dn sn kn:Nat):textL ⟨3,(dn:Nat),(sn:Nat),0,0,0,(kn:Nat),0⟩=joinL (nmL 3) [rgw dn,rgw sn,Lib.decDigits kn]:=by
 simp[textL,hsL,partsL,partL,getI,itoa_nat,joinL,rgw]
theorem words_3 (dn sn kn:Nat):wordsL (textL ⟨3,(dn:Nat),(sn:Nat),0,0,0,(kn:Nat),0⟩)=nmL 3 :: [rgw dn,rgw sn,Lib.decDigits kn]:=by
 rw[join_3]
 exact words_join _ _ (by unfold Bf;decide) (by simp[rgw_bf,dec_bf])
theorem drafts_3 (dn sn kn:Nat)(hdn:dn < 9223372036854775808)(hsn:sn < 9223372036854775808)(hkn:kn < 9223372036854775808)(k1:kn < 4294967296):parsedI (textL ⟨3,(dn:Nat),(sn:Nat),0,0,0,(kn:Nat),0⟩)=⟨3,(dn:Nat),(sn:Nat),0,0,0,(kn:Nat),0⟩:=by
 unfold parsedI
 rw[splitL_words _ (by rw[words_3];simp),words_3]
 have e:opN (nmL 3)=3:=by decide
 simp[draftI,e,hsL,fillI,lastI,setI,valAt,val_rgw dn hdn,val_rgw sn hsn,val_dec kn hkn,Ins.zero]
 omega
theorem join_4 (dn sn kn:Nat):textL ⟨4,(dn:Nat),(sn:Nat),0,0,0,(kn:Nat),0⟩=joinL (nmL 4) [rgw dn,rgw sn,Lib.decDigits kn]:=by
 simp[textL,hsL,partsL,partL,getI,itoa_nat,joinL,rgw]
theorem words_4 (dn sn kn:Nat):wordsL (textL ⟨4,(dn:Nat),(sn:Nat),0,0,0,(kn:Nat),0⟩)=nmL 4 :: [rgw dn,rgw sn,Lib.decDigits kn]:=by
 rw[join_4]
 exact words_join _ _ (by unfold Bf;decide) (by simp[rgw_bf,dec_bf])
theorem drafts_4 (dn sn kn:Nat)(hdn:dn < 9223372036854775808)(hsn:sn < 9223372036854775808)(hkn:kn < 9223372036854775808)(k1:kn < 4294967296):parsedI (textL ⟨4,(dn:Nat),(sn:Nat),0,0,0,(kn:Nat),0⟩)=⟨4,(dn:Nat),(sn:Nat),0,0,0,(kn:Nat),0⟩:=by
 unfold parsedI
 rw[splitL_words _ (by rw[words_4];simp),words_4]
 have e:opN (nmL 4)=4:=by decide
 simp[draftI,e,hsL,fillI,lastI,setI,valAt,val_rgw dn hdn,val_rgw sn hsn,val_dec kn hkn,Ins.zero]
 omega
theorem join_5 (dn sn kn:Nat):textL ⟨5,(dn:Nat),(sn:Nat),0,0,0,(kn:Nat),0⟩=joinL (nmL 5) [rgw dn,rgw sn,Lib.decDigits kn]:=by
 simp[textL,hsL,partsL,partL,getI,itoa_nat,joinL,rgw]
theorem words_5 (dn sn kn:Nat):wordsL (textL ⟨5,(dn:Nat),(sn:Nat),0,0,0,(kn:Nat),0⟩)=nmL 5 :: [rgw dn,rgw sn,Lib.decDigits kn]:=by
 rw[join_5]
 exact words_join _ _ (by unfold Bf;decide) (by simp[rgw_bf,dec_bf])
theorem drafts_5 (dn sn kn:Nat)(hdn:dn < 9223372036854775808)(hsn:sn < 9223372036854775808)(hkn:kn < 9223372036854775808)(k1:kn < 4294967296):parsedI (textL ⟨5,(dn:Nat),(sn:Nat),0,0,0,(kn:Nat),0⟩)=⟨5,(dn:Nat),(sn:Nat),0,0,0,(kn:Nat),0⟩:=by
 unfold parsedI
 rw[splitL_words _ (by rw[words_5];simp),words_5]
 have e:opN (nmL 5)=5:=by decide
 simp[draftI,e,hsL,fillI,lastI,setI,valAt,val_rgw dn hdn,val_rgw sn hsn,val_dec kn hkn,Ins.zero]
 omega
theorem join_6 (dn sn kn:Nat):textL ⟨6,(dn:Nat),(sn:Nat),0,0,0,(kn:Nat),0⟩=joinL (nmL 6) [rgw dn,rgw sn,Lib.decDigits kn]:=by
 simp[textL,hsL,partsL,partL,getI,itoa_nat,joinL,rgw]
theorem words_6 (dn sn kn:Nat):wordsL (textL ⟨6,(dn:Nat),(sn:Nat),0,0,0,(kn:Nat),0⟩)=nmL 6 :: [rgw dn,rgw sn,Lib.decDigits kn]:=by
 rw[join_6]
 exact words_join _ _ (by unfold Bf;decide) (by simp[rgw_bf,dec_bf])
theorem drafts_6 (dn sn kn:Nat)(hdn:dn < 9223372036854775808)(hsn:sn < 9223372036854775808)(hkn:kn < 9223372036854775808)(k1:kn < 4294967296):parsedI (textL ⟨6,(dn:Nat),(sn:Nat),0,0,0,(kn:Nat),0⟩)=⟨6,(dn:Nat),(sn:Nat),0,0,0,(kn:Nat),0⟩:=by
 unfold parsedI
 rw[splitL_words _ (by rw[words_6];simp),words_6]
 have e:opN (nmL 6)=6:=by decide
 simp[draftI,e,hsL,fillI,lastI,setI,valAt,val_rgw dn hdn,val_rgw sn hsn,val_dec kn hkn,Ins.zero]
 omega
theorem join_7 (dn sn tn:Nat):textL ⟨7,(dn:Nat),(sn:Nat),(tn:Nat),0,0,0,0⟩=joinL (nmL 7) [rgw dn,rgw sn,rgw tn]:=by
 simp[textL,hsL,partsL,partL,getI,itoa_nat,joinL,rgw]
theorem words_7 (dn sn tn:Nat):wordsL (textL ⟨7,(dn:Nat),(sn:Nat),(tn:Nat),0,0,0,0⟩)=nmL 7 :: [rgw dn,rgw sn,rgw tn]:=by
 rw[join_7]
 exact words_join _ _ (by unfold Bf;decide) (by simp[rgw_bf])
theorem drafts_7 (dn sn tn:Nat)(hdn:dn < 9223372036854775808)(hsn:sn < 9223372036854775808)(htn:tn < 9223372036854775808):parsedI (textL ⟨7,(dn:Nat),(sn:Nat),(tn:Nat),0,0,0,0⟩)=⟨7,(dn:Nat),(sn:Nat),(tn:Nat),0,0,0,0⟩:=by
 unfold parsedI
 rw[splitL_words _ (by rw[words_7];simp),words_7]
 have e:opN (nmL 7)=7:=by decide
 simp[draftI,e,hsL,fillI,lastI,setI,valAt,val_rgw dn hdn,val_rgw sn hsn,val_rgw tn htn,Ins.zero]
theorem join_8 (sn tn pn:Nat):textL ⟨8,0,(sn:Nat),(tn:Nat),0,0,0,(pn:Nat)⟩=joinL (nmL 8) [rgw sn,rgw tn,Lib.decDigits pn]:=by
 simp[textL,hsL,partsL,partL,getI,itoa_nat,joinL,rgw]
theorem words_8 (sn tn pn:Nat):wordsL (textL ⟨8,0,(sn:Nat),(tn:Nat),0,0,0,(pn:Nat)⟩)=nmL 8 :: [rgw sn,rgw tn,Lib.decDigits pn]:=by
 rw[join_8]
 exact words_join _ _ (by unfold Bf;decide) (by simp[rgw_bf,dec_bf])
theorem drafts_8 (sn tn pn:Nat)(hsn:sn < 9223372036854775808)(htn:tn < 9223372036854775808)(hpn:pn < 9223372036854775808):parsedI (textL ⟨8,0,(sn:Nat),(tn:Nat),0,0,0,(pn:Nat)⟩)=⟨8,0,(sn:Nat),(tn:Nat),0,0,0,(pn:Nat)⟩:=by
 unfold parsedI
 rw[splitL_words _ (by rw[words_8];simp),words_8]
 have e:opN (nmL 8)=8:=by decide
 simp[draftI,e,hsL,fillI,lastI,setI,valAt,val_rgw sn hsn,val_rgw tn htn,val_dec pn hpn,Ins.zero]
theorem join_9 (sn tn pn:Nat):textL ⟨9,0,(sn:Nat),(tn:Nat),0,0,0,(pn:Nat)⟩=joinL (nmL 9) [rgw sn,rgw tn,Lib.decDigits pn]:=by
 simp[textL,hsL,partsL,partL,getI,itoa_nat,joinL,rgw]
theorem words_9 (sn tn pn:Nat):wordsL (textL ⟨9,0,(sn:Nat),(tn:Nat),0,0,0,(pn:Nat)⟩)=nmL 9 :: [rgw sn,rgw tn,Lib.decDigits pn]:=by
 rw[join_9]
 exact words_join _ _ (by unfold Bf;decide) (by simp[rgw_bf,dec_bf])
theorem drafts_9 (sn tn pn:Nat)(hsn:sn < 9223372036854775808)(htn:tn < 9223372036854775808)(hpn:pn < 9223372036854775808):parsedI (textL ⟨9,0,(sn:Nat),(tn:Nat),0,0,0,(pn:Nat)⟩)=⟨9,0,(sn:Nat),(tn:Nat),0,0,0,(pn:Nat)⟩:=by
 unfold parsedI
 rw[splitL_words _ (by rw[words_9];simp),words_9]
 have e:opN (nmL 9)=9:=by decide
 simp[draftI,e,hsL,fillI,lastI,setI,valAt,val_rgw sn hsn,val_rgw tn htn,val_dec pn hpn,Ins.zero]
theorem join_10 (pn:Nat):textL ⟨10,0,0,0,0,0,0,(pn:Nat)⟩=joinL (nmL 10) [Lib.decDigits pn]:=by
 simp[textL,hsL,partsL,partL,getI,itoa_nat,joinL]
theorem words_10 (pn:Nat):wordsL (textL ⟨10,0,0,0,0,0,0,(pn:Nat)⟩)=nmL 10 :: [Lib.decDigits pn]:=by
 rw[join_10]
 exact words_join _ _ (by unfold Bf;decide) (by simp[dec_bf])
theorem drafts_10 (pn:Nat)(hpn:pn < 9223372036854775808):parsedI (textL ⟨10,0,0,0,0,0,0,(pn:Nat)⟩)=⟨10,0,0,0,0,0,0,(pn:Nat)⟩:=by
 unfold parsedI
 rw[splitL_words _ (by rw[words_10];simp),words_10]
 have e:opN (nmL 10)=10:=by decide
 simp[draftI,e,hsL,fillI,lastI,setI,valAt,val_dec pn hpn,Ins.zero]
theorem join_11 (dn:Nat):textL ⟨11,(dn:Nat),0,0,0,0,0,0⟩=joinL (nmL 11) [rgw dn]:=by
 simp[textL,hsL,partsL,partL,getI,itoa_nat,joinL,rgw]
theorem words_11 (dn:Nat):wordsL (textL ⟨11,(dn:Nat),0,0,0,0,0,0⟩)=nmL 11 :: [rgw dn]:=by
 rw[join_11]
 exact words_join _ _ (by unfold Bf;decide) (by simp[rgw_bf])
theorem drafts_11 (dn:Nat)(hdn:dn < 9223372036854775808):parsedI (textL ⟨11,(dn:Nat),0,0,0,0,0,0⟩)=⟨11,(dn:Nat),0,0,0,0,0,0⟩:=by
 unfold parsedI
 rw[splitL_words _ (by rw[words_11];simp),words_11]
 have e:opN (nmL 11)=11:=by decide
 simp[draftI,e,hsL,fillI,lastI,setI,valAt,val_rgw dn hdn,Ins.zero]
theorem join_22 (dn:Nat):textL ⟨22,(dn:Nat),0,0,0,0,0,0⟩=joinL (nmL 22) [rgw dn]:=by
 simp[textL,hsL,partsL,partL,getI,itoa_nat,joinL,rgw]
theorem words_22 (dn:Nat):wordsL (textL ⟨22,(dn:Nat),0,0,0,0,0,0⟩)=nmL 22 :: [rgw dn]:=by
 rw[join_22]
 exact words_join _ _ (by unfold Bf;decide) (by simp[rgw_bf])
theorem drafts_22 (dn:Nat)(hdn:dn < 9223372036854775808):parsedI (textL ⟨22,(dn:Nat),0,0,0,0,0,0⟩)=⟨22,(dn:Nat),0,0,0,0,0,0⟩:=by
 unfold parsedI
 rw[splitL_words _ (by rw[words_22];simp),words_22]
 have e:opN (nmL 22)=22:=by decide
 simp[draftI,e,hsL,fillI,lastI,setI,valAt,val_rgw dn hdn,Ins.zero]
theorem join_12 (kn:Nat):textL ⟨12,0,0,0,0,0,(kn:Nat),0⟩=joinL (nmL 12) [Lib.decDigits kn]:=by
 simp[textL,hsL,partsL,partL,getI,itoa_nat,joinL]
theorem words_12 (kn:Nat):wordsL (textL ⟨12,0,0,0,0,0,(kn:Nat),0⟩)=nmL 12 :: [Lib.decDigits kn]:=by
 rw[join_12]
 exact words_join _ _ (by unfold Bf;decide) (by simp[dec_bf])
theorem drafts_12 (kn:Nat)(hkn:kn < 9223372036854775808)(k1:kn < 4294967296):parsedI (textL ⟨12,0,0,0,0,0,(kn:Nat),0⟩)=⟨12,0,0,0,0,0,(kn:Nat),0⟩:=by
 unfold parsedI
 rw[splitL_words _ (by rw[words_12];simp),words_12]
 have e:opN (nmL 12)=12:=by decide
 simp[draftI,e,hsL,fillI,lastI,setI,valAt,val_dec kn hkn,Ins.zero]
 omega
theorem join_13 (kn:Nat):textL ⟨13,0,0,0,0,0,(kn:Nat),0⟩=joinL (nmL 13) [Lib.decDigits kn]:=by
 simp[textL,hsL,partsL,partL,getI,itoa_nat,joinL]
theorem words_13 (kn:Nat):wordsL (textL ⟨13,0,0,0,0,0,(kn:Nat),0⟩)=nmL 13 :: [Lib.decDigits kn]:=by
 rw[join_13]
 exact words_join _ _ (by unfold Bf;decide) (by simp[dec_bf])
theorem drafts_13 (kn:Nat)(hkn:kn < 9223372036854775808)(k1:kn < 4294967296):parsedI (textL ⟨13,0,0,0,0,0,(kn:Nat),0⟩)=⟨13,0,0,0,0,0,(kn:Nat),0⟩:=by
 unfold parsedI
 rw[splitL_words _ (by rw[words_13];simp),words_13]
 have e:opN (nmL 13)=13:=by decide
 simp[draftI,e,hsL,fillI,lastI,setI,valAt,val_dec kn hkn,Ins.zero]
 omega
theorem join_16 (dn sn an:Nat):textL ⟨16,(dn:Nat),(sn:Nat),0,0,(an:Nat),0,0⟩=joinL (nmL 16) [rgw dn,Lib.decDigits an,rgw sn]:=by
 simp[textL,hsL,partsL,partL,getI,itoa_nat,joinL,rgw]
theorem words_16 (dn sn an:Nat):wordsL (textL ⟨16,(dn:Nat),(sn:Nat),0,0,(an:Nat),0,0⟩)=nmL 16 :: [rgw dn,Lib.decDigits an,rgw sn]:=by
 rw[join_16]
 exact words_join _ _ (by unfold Bf;decide) (by simp[rgw_bf,dec_bf])
theorem drafts_16 (dn sn an:Nat)(hdn:dn < 9223372036854775808)(hsn:sn < 9223372036854775808)(han:an < 9223372036854775808):parsedI (textL ⟨16,(dn:Nat),(sn:Nat),0,0,(an:Nat),0,0⟩)=⟨16,(dn:Nat),(sn:Nat),0,0,(an:Nat),0,0⟩:=by
 unfold parsedI
 rw[splitL_words _ (by rw[words_16];simp),words_16]
 have e:opN (nmL 16)=16:=by decide
 simp[draftI,e,hsL,fillI,lastI,setI,valAt,val_rgw dn hdn,val_rgw sn hsn,val_dec an han,Ins.zero]
theorem join_17 (sn tn an:Nat):textL ⟨17,0,(sn:Nat),(tn:Nat),0,(an:Nat),0,0⟩=joinL (nmL 17) [Lib.decDigits an,rgw sn,rgw tn]:=by
 simp[textL,hsL,partsL,partL,getI,itoa_nat,joinL,rgw]
theorem words_17 (sn tn an:Nat):wordsL (textL ⟨17,0,(sn:Nat),(tn:Nat),0,(an:Nat),0,0⟩)=nmL 17 :: [Lib.decDigits an,rgw sn,rgw tn]:=by
 rw[join_17]
 exact words_join _ _ (by unfold Bf;decide) (by simp[rgw_bf,dec_bf])
theorem drafts_17 (sn tn an:Nat)(hsn:sn < 9223372036854775808)(htn:tn < 9223372036854775808)(han:an < 9223372036854775808):parsedI (textL ⟨17,0,(sn:Nat),(tn:Nat),0,(an:Nat),0,0⟩)=⟨17,0,(sn:Nat),(tn:Nat),0,(an:Nat),0,0⟩:=by
 unfold parsedI
 rw[splitL_words _ (by rw[words_17];simp),words_17]
 have e:opN (nmL 17)=17:=by decide
 simp[draftI,e,hsL,fillI,lastI,setI,valAt,val_rgw sn hsn,val_rgw tn htn,val_dec an han,Ins.zero]
theorem join_18 (dn sn tn an:Nat):textL ⟨18,(dn:Nat),(sn:Nat),(tn:Nat),0,(an:Nat),0,0⟩=joinL (nmL 18) [rgw dn,Lib.decDigits an,rgw sn,rgw tn]:=by
 simp[textL,hsL,partsL,partL,getI,itoa_nat,joinL,rgw]
theorem words_18 (dn sn tn an:Nat):wordsL (textL ⟨18,(dn:Nat),(sn:Nat),(tn:Nat),0,(an:Nat),0,0⟩)=nmL 18 :: [rgw dn,Lib.decDigits an,rgw sn,rgw tn]:=by
 rw[join_18]
 exact words_join _ _ (by unfold Bf;decide) (by simp[rgw_bf,dec_bf])
theorem drafts_18 (dn sn tn an:Nat)(hdn:dn < 9223372036854775808)(hsn:sn < 9223372036854775808)(htn:tn < 9223372036854775808)(han:an < 9223372036854775808):parsedI (textL ⟨18,(dn:Nat),(sn:Nat),(tn:Nat),0,(an:Nat),0,0⟩)=⟨18,(dn:Nat),(sn:Nat),(tn:Nat),0,(an:Nat),0,0⟩:=by
 unfold parsedI
 rw[splitL_words _ (by rw[words_18];simp),words_18]
 have e:opN (nmL 18)=18:=by decide
 simp[draftI,e,hsL,fillI,lastI,setI,valAt,val_rgw dn hdn,val_rgw sn hsn,val_rgw tn htn,val_dec an han,Ins.zero]
theorem join_19 (dn sn tn un an:Nat):textL ⟨19,(dn:Nat),(sn:Nat),(tn:Nat),(un:Nat),(an:Nat),0,0⟩=joinL (nmL 19) [rgw dn,Lib.decDigits an,rgw sn,rgw tn,rgw un]:=by
 simp[textL,hsL,partsL,partL,getI,itoa_nat,joinL,rgw]
theorem words_19 (dn sn tn un an:Nat):wordsL (textL ⟨19,(dn:Nat),(sn:Nat),(tn:Nat),(un:Nat),(an:Nat),0,0⟩)=nmL 19 :: [rgw dn,Lib.decDigits an,rgw sn,rgw tn,rgw un]:=by
 rw[join_19]
 exact words_join _ _ (by unfold Bf;decide) (by simp[rgw_bf,dec_bf])
theorem drafts_19 (dn sn tn un an:Nat)(hdn:dn < 9223372036854775808)(hsn:sn < 9223372036854775808)(htn:tn < 9223372036854775808)(hun:un < 9223372036854775808)(han:an < 9223372036854775808):parsedI (textL ⟨19,(dn:Nat),(sn:Nat),(tn:Nat),(un:Nat),(an:Nat),0,0⟩)=⟨19,(dn:Nat),(sn:Nat),(tn:Nat),(un:Nat),(an:Nat),0,0⟩:=by
 unfold parsedI
 rw[splitL_words _ (by rw[words_19];simp),words_19]
 have e:opN (nmL 19)=19:=by decide
 simp[draftI,e,hsL,fillI,lastI,setI,valAt,val_rgw dn hdn,val_rgw sn hsn,val_rgw tn htn,val_rgw un hun,val_dec an han,Ins.zero]
theorem join_20 (dn sn an kn:Nat):textL ⟨20,(dn:Nat),(sn:Nat),0,0,(an:Nat),(kn:Nat),0⟩=joinL (nmL 20) [rgw dn,Lib.decDigits an,rgw sn,Lib.decDigits kn]:=by
 simp[textL,hsL,partsL,partL,getI,itoa_nat,joinL,rgw]
theorem words_20 (dn sn an kn:Nat):wordsL (textL ⟨20,(dn:Nat),(sn:Nat),0,0,(an:Nat),(kn:Nat),0⟩)=nmL 20 :: [rgw dn,Lib.decDigits an,rgw sn,Lib.decDigits kn]:=by
 rw[join_20]
 exact words_join _ _ (by unfold Bf;decide) (by simp[rgw_bf,dec_bf])
theorem drafts_20 (dn sn an kn:Nat)(hdn:dn < 9223372036854775808)(hsn:sn < 9223372036854775808)(han:an < 9223372036854775808)(hkn:kn < 9223372036854775808)(k1:kn < 4294967296):parsedI (textL ⟨20,(dn:Nat),(sn:Nat),0,0,(an:Nat),(kn:Nat),0⟩)=⟨20,(dn:Nat),(sn:Nat),0,0,(an:Nat),(kn:Nat),0⟩:=by
 unfold parsedI
 rw[splitL_words _ (by rw[words_20];simp),words_20]
 have e:opN (nmL 20)=20:=by decide
 simp[draftI,e,hsL,fillI,lastI,setI,valAt,val_rgw dn hdn,val_rgw sn hsn,val_dec an han,val_dec kn hkn,Ins.zero]
 omega
theorem join_23 (sn:Nat):textL ⟨23,0,(sn:Nat),0,0,0,0,0⟩=joinL (nmL 23) [rgw sn]:=by
 simp[textL,hsL,partsL,partL,getI,itoa_nat,joinL,rgw]
theorem words_23 (sn:Nat):wordsL (textL ⟨23,0,(sn:Nat),0,0,0,0,0⟩)=nmL 23 :: [rgw sn]:=by
 rw[join_23]
 exact words_join _ _ (by unfold Bf;decide) (by simp[rgw_bf])
theorem drafts_23 (sn:Nat)(hsn:sn < 9223372036854775808):parsedI (textL ⟨23,0,(sn:Nat),0,0,0,0,0⟩)=⟨23,0,(sn:Nat),0,0,0,0,0⟩:=by
 unfold parsedI
 rw[splitL_words _ (by rw[words_23];simp),words_23]
 have e:opN (nmL 23)=23:=by decide
 simp[draftI,e,hsL,fillI,lastI,setI,valAt,val_rgw sn hsn,Ins.zero]
theorem join_21_0p (dn sn tn an pn:Nat):textL ⟨21,(dn:Nat),(sn:Nat),(tn:Nat),0,(an:Nat),0,(pn:Nat)⟩=joinL (nmL 21) [rgw dn,Lib.decDigits an,rgw sn,[101,113],rgw tn,[101,108,115,101],Lib.decDigits pn]:=by
 have e:¬ ((pn:Int)=-1):=by omega
 simp[textL,hsL,partsL,partL,getI,itoa_nat,joinL,rgw,e]
theorem words_21_0p (dn sn tn an pn:Nat):wordsL (textL ⟨21,(dn:Nat),(sn:Nat),(tn:Nat),0,(an:Nat),0,(pn:Nat)⟩)=nmL 21 :: [rgw dn,Lib.decDigits an,rgw sn,[101,113],rgw tn,[101,108,115,101],Lib.decDigits pn]:=by
 rw[join_21_0p dn sn tn an pn]
 refine words_join _ _ (by unfold Bf;decide) ?_
 have b1:Bf [101,113]:=by unfold Bf;decide
 have b2:Bf [101,108,115,101]:=by unfold Bf;decide
 simp[rgw_bf,dec_bf,b1,b2]
theorem drafts_21_0p (dn sn tn an pn:Nat)(hdn:dn < 9223372036854775808)(hsn:sn < 9223372036854775808)(htn:tn < 9223372036854775808)(han:an < 9223372036854775808)(hpn:pn < 9223372036854775808):parsedI (textL ⟨21,(dn:Nat),(sn:Nat),(tn:Nat),0,(an:Nat),0,(pn:Nat)⟩)=⟨21,(dn:Nat),(sn:Nat),(tn:Nat),0,(an:Nat),0,(pn:Nat)⟩:=by
 unfold parsedI
 rw[splitL_words _ (by rw[words_21_0p dn sn tn an pn];simp),words_21_0p dn sn tn an pn]
 have e:opN (nmL 21)=21:=by decide
 have v:valL [101,113]=0:=by decide
 simp[draftI,e,hsL,fillI,lastI,setI,valAt,val_rgw dn hdn,val_rgw sn hsn,val_rgw tn htn,val_dec an han,val_dec pn hpn,v,Ins.zero]
theorem join_21_0m (dn sn tn an pn:Nat):textL ⟨21,(dn:Nat),(sn:Nat),(tn:Nat),0,(an:Nat),0,-1⟩=joinL (nmL 21) [rgw dn,Lib.decDigits an,rgw sn,[101,113],rgw tn]:=by
 simp[textL,hsL,partsL,partL,getI,itoa_nat,joinL,rgw]
theorem words_21_0m (dn sn tn an pn:Nat):wordsL (textL ⟨21,(dn:Nat),(sn:Nat),(tn:Nat),0,(an:Nat),0,-1⟩)=nmL 21 :: [rgw dn,Lib.decDigits an,rgw sn,[101,113],rgw tn]:=by
 rw[join_21_0m dn sn tn an pn]
 refine words_join _ _ (by unfold Bf;decide) ?_
 have b1:Bf [101,113]:=by unfold Bf;decide
 simp[rgw_bf,dec_bf,b1]
theorem drafts_21_0m (dn sn tn an pn:Nat)(hdn:dn < 9223372036854775808)(hsn:sn < 9223372036854775808)(htn:tn < 9223372036854775808)(han:an < 9223372036854775808)(hpn:pn < 9223372036854775808):parsedI (textL ⟨21,(dn:Nat),(sn:Nat),(tn:Nat),0,(an:Nat),0,-1⟩)=⟨21,(dn:Nat),(sn:Nat),(tn:Nat),0,(an:Nat),0,-1⟩:=by
 unfold parsedI
 rw[splitL_words _ (by rw[words_21_0m dn sn tn an pn];simp),words_21_0m dn sn tn an pn]
 have e:opN (nmL 21)=21:=by decide
 have v:valL [101,113]=0:=by decide
 simp[draftI,e,hsL,fillI,lastI,setI,valAt,val_rgw dn hdn,val_rgw sn hsn,val_rgw tn htn,val_dec an han,v,Ins.zero]
theorem join_21_1p (dn sn tn an pn:Nat):textL ⟨21,(dn:Nat),(sn:Nat),(tn:Nat),0,(an:Nat),1,(pn:Nat)⟩=joinL (nmL 21) [rgw dn,Lib.decDigits an,rgw sn,[110,101],rgw tn,[101,108,115,101],Lib.decDigits pn]:=by
 have e:¬ ((pn:Int)=-1):=by omega
 simp[textL,hsL,partsL,partL,getI,itoa_nat,joinL,rgw,e]
theorem words_21_1p (dn sn tn an pn:Nat):wordsL (textL ⟨21,(dn:Nat),(sn:Nat),(tn:Nat),0,(an:Nat),1,(pn:Nat)⟩)=nmL 21 :: [rgw dn,Lib.decDigits an,rgw sn,[110,101],rgw tn,[101,108,115,101],Lib.decDigits pn]:=by
 rw[join_21_1p dn sn tn an pn]
 refine words_join _ _ (by unfold Bf;decide) ?_
 have b1:Bf [110,101]:=by unfold Bf;decide
 have b2:Bf [101,108,115,101]:=by unfold Bf;decide
 simp[rgw_bf,dec_bf,b1,b2]
theorem drafts_21_1p (dn sn tn an pn:Nat)(hdn:dn < 9223372036854775808)(hsn:sn < 9223372036854775808)(htn:tn < 9223372036854775808)(han:an < 9223372036854775808)(hpn:pn < 9223372036854775808):parsedI (textL ⟨21,(dn:Nat),(sn:Nat),(tn:Nat),0,(an:Nat),1,(pn:Nat)⟩)=⟨21,(dn:Nat),(sn:Nat),(tn:Nat),0,(an:Nat),1,(pn:Nat)⟩:=by
 unfold parsedI
 rw[splitL_words _ (by rw[words_21_1p dn sn tn an pn];simp),words_21_1p dn sn tn an pn]
 have e:opN (nmL 21)=21:=by decide
 have v:valL [110,101]=1:=by decide
 simp[draftI,e,hsL,fillI,lastI,setI,valAt,val_rgw dn hdn,val_rgw sn hsn,val_rgw tn htn,val_dec an han,val_dec pn hpn,v,Ins.zero]
theorem join_21_1m (dn sn tn an pn:Nat):textL ⟨21,(dn:Nat),(sn:Nat),(tn:Nat),0,(an:Nat),1,-1⟩=joinL (nmL 21) [rgw dn,Lib.decDigits an,rgw sn,[110,101],rgw tn]:=by
 simp[textL,hsL,partsL,partL,getI,itoa_nat,joinL,rgw]
theorem words_21_1m (dn sn tn an pn:Nat):wordsL (textL ⟨21,(dn:Nat),(sn:Nat),(tn:Nat),0,(an:Nat),1,-1⟩)=nmL 21 :: [rgw dn,Lib.decDigits an,rgw sn,[110,101],rgw tn]:=by
 rw[join_21_1m dn sn tn an pn]
 refine words_join _ _ (by unfold Bf;decide) ?_
 have b1:Bf [110,101]:=by unfold Bf;decide
 simp[rgw_bf,dec_bf,b1]
theorem drafts_21_1m (dn sn tn an pn:Nat)(hdn:dn < 9223372036854775808)(hsn:sn < 9223372036854775808)(htn:tn < 9223372036854775808)(han:an < 9223372036854775808)(hpn:pn < 9223372036854775808):parsedI (textL ⟨21,(dn:Nat),(sn:Nat),(tn:Nat),0,(an:Nat),1,-1⟩)=⟨21,(dn:Nat),(sn:Nat),(tn:Nat),0,(an:Nat),1,-1⟩:=by
 unfold parsedI
 rw[splitL_words _ (by rw[words_21_1m dn sn tn an pn];simp),words_21_1m dn sn tn an pn]
 have e:opN (nmL 21)=21:=by decide
 have v:valL [110,101]=1:=by decide
 simp[draftI,e,hsL,fillI,lastI,setI,valAt,val_rgw dn hdn,val_rgw sn hsn,val_rgw tn htn,val_dec an han,v,Ins.zero]
theorem parsed_text (i:Ins)(h:rightB i 1073741824=true)(k0:0≤i.k)(k1:i.k < 4294967296):parsedI (textL i)=i:=by
 obtain⟨hd,hs,ht,hu,ha⟩:=right_regs i _ h
 obtain⟨op,d,s,t,u,a,k,pl⟩:=i
 simp only at hd hs ht hu ha k0 k1
 rcases op_cases op with rfl | rfl | rfl | rfl | rfl | rfl | rfl | rfl | rfl | rfl | rfl | rfl | rfl | rfl | rfl | rfl | rfl | rfl | rfl | rfl | rfl | hn
 ·skip
  have hr:=right_1 d s t u a k pl 1073741824 hd hs ht hu ha k0 k1
  rw[h] at hr
  simp[eqI] at hr
  obtain⟨dn,rfl⟩:∃ n:Nat,d=n:=⟨d.toNat,by omega⟩
  obtain⟨sn,rfl⟩:∃ n:Nat,s=n:=⟨s.toNat,by omega⟩
  obtain⟨tn,rfl⟩:∃ n:Nat,t=n:=⟨t.toNat,by omega⟩
  obtain⟨un,rfl⟩:∃ n:Nat,u=n:=⟨u.toNat,by omega⟩
  obtain⟨an,rfl⟩:∃ n:Nat,a=n:=⟨a.toNat,by omega⟩
  obtain⟨kn,rfl⟩:∃ n:Nat,k=n:=⟨k.toNat,by omega⟩
  obtain rfl:sn=0:=by omega
  obtain rfl:tn=0:=by omega
  obtain rfl:un=0:=by omega
  obtain rfl:an=0:=by omega
  obtain rfl:pl=0:=by omega
  exact drafts_1 dn kn (by omega) (by omega) (by omega)
 ·skip
  have hr:=right_2 d s t u a k pl 1073741824 hd hs ht hu ha k0 k1
  rw[h] at hr
  simp[eqI] at hr
  obtain⟨dn,rfl⟩:∃ n:Nat,d=n:=⟨d.toNat,by omega⟩
  obtain⟨sn,rfl⟩:∃ n:Nat,s=n:=⟨s.toNat,by omega⟩
  obtain⟨tn,rfl⟩:∃ n:Nat,t=n:=⟨t.toNat,by omega⟩
  obtain⟨un,rfl⟩:∃ n:Nat,u=n:=⟨u.toNat,by omega⟩
  obtain⟨an,rfl⟩:∃ n:Nat,a=n:=⟨a.toNat,by omega⟩
  obtain⟨kn,rfl⟩:∃ n:Nat,k=n:=⟨k.toNat,by omega⟩
  obtain rfl:tn=0:=by omega
  obtain rfl:un=0:=by omega
  obtain rfl:an=0:=by omega
  obtain rfl:kn=0:=by omega
  obtain rfl:pl=0:=by omega
  exact drafts_2 dn sn (by omega) (by omega)
 ·skip
  have hr:=right_3 d s t u a k pl 1073741824 hd hs ht hu ha k0 k1
  rw[h] at hr
  simp[eqI] at hr
  obtain⟨dn,rfl⟩:∃ n:Nat,d=n:=⟨d.toNat,by omega⟩
  obtain⟨sn,rfl⟩:∃ n:Nat,s=n:=⟨s.toNat,by omega⟩
  obtain⟨tn,rfl⟩:∃ n:Nat,t=n:=⟨t.toNat,by omega⟩
  obtain⟨un,rfl⟩:∃ n:Nat,u=n:=⟨u.toNat,by omega⟩
  obtain⟨an,rfl⟩:∃ n:Nat,a=n:=⟨a.toNat,by omega⟩
  obtain⟨kn,rfl⟩:∃ n:Nat,k=n:=⟨k.toNat,by omega⟩
  obtain rfl:tn=0:=by omega
  obtain rfl:un=0:=by omega
  obtain rfl:an=0:=by omega
  obtain rfl:pl=0:=by omega
  exact drafts_3 dn sn kn (by omega) (by omega) (by omega) (by omega)
 ·skip
  have hr:=right_4 d s t u a k pl 1073741824 hd hs ht hu ha k0 k1
  rw[h] at hr
  simp[eqI] at hr
  obtain⟨dn,rfl⟩:∃ n:Nat,d=n:=⟨d.toNat,by omega⟩
  obtain⟨sn,rfl⟩:∃ n:Nat,s=n:=⟨s.toNat,by omega⟩
  obtain⟨tn,rfl⟩:∃ n:Nat,t=n:=⟨t.toNat,by omega⟩
  obtain⟨un,rfl⟩:∃ n:Nat,u=n:=⟨u.toNat,by omega⟩
  obtain⟨an,rfl⟩:∃ n:Nat,a=n:=⟨a.toNat,by omega⟩
  obtain⟨kn,rfl⟩:∃ n:Nat,k=n:=⟨k.toNat,by omega⟩
  obtain rfl:tn=0:=by omega
  obtain rfl:un=0:=by omega
  obtain rfl:an=0:=by omega
  obtain rfl:pl=0:=by omega
  exact drafts_4 dn sn kn (by omega) (by omega) (by omega) (by omega)
 ·skip
  have hr:=right_5 d s t u a k pl 1073741824 hd hs ht hu ha k0 k1
  rw[h] at hr
  simp[eqI] at hr
  obtain⟨dn,rfl⟩:∃ n:Nat,d=n:=⟨d.toNat,by omega⟩
  obtain⟨sn,rfl⟩:∃ n:Nat,s=n:=⟨s.toNat,by omega⟩
  obtain⟨tn,rfl⟩:∃ n:Nat,t=n:=⟨t.toNat,by omega⟩
  obtain⟨un,rfl⟩:∃ n:Nat,u=n:=⟨u.toNat,by omega⟩
  obtain⟨an,rfl⟩:∃ n:Nat,a=n:=⟨a.toNat,by omega⟩
  obtain⟨kn,rfl⟩:∃ n:Nat,k=n:=⟨k.toNat,by omega⟩
  obtain rfl:tn=0:=by omega
  obtain rfl:un=0:=by omega
  obtain rfl:an=0:=by omega
  obtain rfl:pl=0:=by omega
  exact drafts_5 dn sn kn (by omega) (by omega) (by omega) (by omega)
 ·skip
  have hr:=right_6 d s t u a k pl 1073741824 hd hs ht hu ha k0 k1
  rw[h] at hr
  simp[eqI] at hr
  obtain⟨dn,rfl⟩:∃ n:Nat,d=n:=⟨d.toNat,by omega⟩
  obtain⟨sn,rfl⟩:∃ n:Nat,s=n:=⟨s.toNat,by omega⟩
  obtain⟨tn,rfl⟩:∃ n:Nat,t=n:=⟨t.toNat,by omega⟩
  obtain⟨un,rfl⟩:∃ n:Nat,u=n:=⟨u.toNat,by omega⟩
  obtain⟨an,rfl⟩:∃ n:Nat,a=n:=⟨a.toNat,by omega⟩
  obtain⟨kn,rfl⟩:∃ n:Nat,k=n:=⟨k.toNat,by omega⟩
  obtain rfl:tn=0:=by omega
  obtain rfl:un=0:=by omega
  obtain rfl:an=0:=by omega
  obtain rfl:pl=0:=by omega
  exact drafts_6 dn sn kn (by omega) (by omega) (by omega) (by omega)
 ·skip
  have hr:=right_7 d s t u a k pl 1073741824 hd hs ht hu ha k0 k1
  rw[h] at hr
  simp[eqI] at hr
  obtain⟨dn,rfl⟩:∃ n:Nat,d=n:=⟨d.toNat,by omega⟩
  obtain⟨sn,rfl⟩:∃ n:Nat,s=n:=⟨s.toNat,by omega⟩
  obtain⟨tn,rfl⟩:∃ n:Nat,t=n:=⟨t.toNat,by omega⟩
  obtain⟨un,rfl⟩:∃ n:Nat,u=n:=⟨u.toNat,by omega⟩
  obtain⟨an,rfl⟩:∃ n:Nat,a=n:=⟨a.toNat,by omega⟩
  obtain⟨kn,rfl⟩:∃ n:Nat,k=n:=⟨k.toNat,by omega⟩
  obtain rfl:un=0:=by omega
  obtain rfl:an=0:=by omega
  obtain rfl:kn=0:=by omega
  obtain rfl:pl=0:=by omega
  exact drafts_7 dn sn tn (by omega) (by omega) (by omega)
 ·skip
  have hr:=right_8 d s t u a k pl 1073741824 hd hs ht hu ha k0 k1
  rw[h] at hr
  simp[eqI] at hr
  obtain⟨dn,rfl⟩:∃ n:Nat,d=n:=⟨d.toNat,by omega⟩
  obtain⟨sn,rfl⟩:∃ n:Nat,s=n:=⟨s.toNat,by omega⟩
  obtain⟨tn,rfl⟩:∃ n:Nat,t=n:=⟨t.toNat,by omega⟩
  obtain⟨un,rfl⟩:∃ n:Nat,u=n:=⟨u.toNat,by omega⟩
  obtain⟨an,rfl⟩:∃ n:Nat,a=n:=⟨a.toNat,by omega⟩
  obtain⟨kn,rfl⟩:∃ n:Nat,k=n:=⟨k.toNat,by omega⟩
  obtain rfl:dn=0:=by omega
  obtain rfl:un=0:=by omega
  obtain rfl:an=0:=by omega
  obtain rfl:kn=0:=by omega
  obtain⟨pn,rfl⟩:∃ n:Nat,pl=n:=⟨pl.toNat,by omega⟩
  exact drafts_8 sn tn pn (by omega) (by omega) (by omega)
 ·skip
  have hr:=right_9 d s t u a k pl 1073741824 hd hs ht hu ha k0 k1
  rw[h] at hr
  simp[eqI] at hr
  obtain⟨dn,rfl⟩:∃ n:Nat,d=n:=⟨d.toNat,by omega⟩
  obtain⟨sn,rfl⟩:∃ n:Nat,s=n:=⟨s.toNat,by omega⟩
  obtain⟨tn,rfl⟩:∃ n:Nat,t=n:=⟨t.toNat,by omega⟩
  obtain⟨un,rfl⟩:∃ n:Nat,u=n:=⟨u.toNat,by omega⟩
  obtain⟨an,rfl⟩:∃ n:Nat,a=n:=⟨a.toNat,by omega⟩
  obtain⟨kn,rfl⟩:∃ n:Nat,k=n:=⟨k.toNat,by omega⟩
  obtain rfl:dn=0:=by omega
  obtain rfl:un=0:=by omega
  obtain rfl:an=0:=by omega
  obtain rfl:kn=0:=by omega
  obtain⟨pn,rfl⟩:∃ n:Nat,pl=n:=⟨pl.toNat,by omega⟩
  exact drafts_9 sn tn pn (by omega) (by omega) (by omega)
 ·skip
  have hr:=right_10 d s t u a k pl 1073741824 hd hs ht hu ha k0 k1
  rw[h] at hr
  simp[eqI] at hr
  obtain⟨dn,rfl⟩:∃ n:Nat,d=n:=⟨d.toNat,by omega⟩
  obtain⟨sn,rfl⟩:∃ n:Nat,s=n:=⟨s.toNat,by omega⟩
  obtain⟨tn,rfl⟩:∃ n:Nat,t=n:=⟨t.toNat,by omega⟩
  obtain⟨un,rfl⟩:∃ n:Nat,u=n:=⟨u.toNat,by omega⟩
  obtain⟨an,rfl⟩:∃ n:Nat,a=n:=⟨a.toNat,by omega⟩
  obtain⟨kn,rfl⟩:∃ n:Nat,k=n:=⟨k.toNat,by omega⟩
  obtain rfl:dn=0:=by omega
  obtain rfl:sn=0:=by omega
  obtain rfl:tn=0:=by omega
  obtain rfl:un=0:=by omega
  obtain rfl:an=0:=by omega
  obtain rfl:kn=0:=by omega
  obtain⟨pn,rfl⟩:∃ n:Nat,pl=n:=⟨pl.toNat,by omega⟩
  exact drafts_10 pn (by omega)
 ·skip
  have hr:=right_11 d s t u a k pl 1073741824 hd hs ht hu ha k0 k1
  rw[h] at hr
  simp[eqI] at hr
  obtain⟨dn,rfl⟩:∃ n:Nat,d=n:=⟨d.toNat,by omega⟩
  obtain⟨sn,rfl⟩:∃ n:Nat,s=n:=⟨s.toNat,by omega⟩
  obtain⟨tn,rfl⟩:∃ n:Nat,t=n:=⟨t.toNat,by omega⟩
  obtain⟨un,rfl⟩:∃ n:Nat,u=n:=⟨u.toNat,by omega⟩
  obtain⟨an,rfl⟩:∃ n:Nat,a=n:=⟨a.toNat,by omega⟩
  obtain⟨kn,rfl⟩:∃ n:Nat,k=n:=⟨k.toNat,by omega⟩
  obtain rfl:sn=0:=by omega
  obtain rfl:tn=0:=by omega
  obtain rfl:un=0:=by omega
  obtain rfl:an=0:=by omega
  obtain rfl:kn=0:=by omega
  obtain rfl:pl=0:=by omega
  exact drafts_11 dn (by omega)
 ·skip
  have hr:=right_12 d s t u a k pl 1073741824 hd hs ht hu ha k0 k1
  rw[h] at hr
  simp[eqI] at hr
  obtain⟨dn,rfl⟩:∃ n:Nat,d=n:=⟨d.toNat,by omega⟩
  obtain⟨sn,rfl⟩:∃ n:Nat,s=n:=⟨s.toNat,by omega⟩
  obtain⟨tn,rfl⟩:∃ n:Nat,t=n:=⟨t.toNat,by omega⟩
  obtain⟨un,rfl⟩:∃ n:Nat,u=n:=⟨u.toNat,by omega⟩
  obtain⟨an,rfl⟩:∃ n:Nat,a=n:=⟨a.toNat,by omega⟩
  obtain⟨kn,rfl⟩:∃ n:Nat,k=n:=⟨k.toNat,by omega⟩
  obtain rfl:dn=0:=by omega
  obtain rfl:sn=0:=by omega
  obtain rfl:tn=0:=by omega
  obtain rfl:un=0:=by omega
  obtain rfl:an=0:=by omega
  obtain rfl:pl=0:=by omega
  exact drafts_12 kn (by omega) (by omega)
 ·skip
  have hr:=right_13 d s t u a k pl 1073741824 hd hs ht hu ha k0 k1
  rw[h] at hr
  simp[eqI] at hr
  obtain⟨dn,rfl⟩:∃ n:Nat,d=n:=⟨d.toNat,by omega⟩
  obtain⟨sn,rfl⟩:∃ n:Nat,s=n:=⟨s.toNat,by omega⟩
  obtain⟨tn,rfl⟩:∃ n:Nat,t=n:=⟨t.toNat,by omega⟩
  obtain⟨un,rfl⟩:∃ n:Nat,u=n:=⟨u.toNat,by omega⟩
  obtain⟨an,rfl⟩:∃ n:Nat,a=n:=⟨a.toNat,by omega⟩
  obtain⟨kn,rfl⟩:∃ n:Nat,k=n:=⟨k.toNat,by omega⟩
  obtain rfl:dn=0:=by omega
  obtain rfl:sn=0:=by omega
  obtain rfl:tn=0:=by omega
  obtain rfl:un=0:=by omega
  obtain rfl:an=0:=by omega
  obtain rfl:pl=0:=by omega
  exact drafts_13 kn (by omega) (by omega)
 ·skip
  have hr:=right_16 d s t u a k pl 1073741824 hd hs ht hu ha k0 k1
  rw[h] at hr
  simp[eqI] at hr
  obtain⟨dn,rfl⟩:∃ n:Nat,d=n:=⟨d.toNat,by omega⟩
  obtain⟨sn,rfl⟩:∃ n:Nat,s=n:=⟨s.toNat,by omega⟩
  obtain⟨tn,rfl⟩:∃ n:Nat,t=n:=⟨t.toNat,by omega⟩
  obtain⟨un,rfl⟩:∃ n:Nat,u=n:=⟨u.toNat,by omega⟩
  obtain⟨an,rfl⟩:∃ n:Nat,a=n:=⟨a.toNat,by omega⟩
  obtain⟨kn,rfl⟩:∃ n:Nat,k=n:=⟨k.toNat,by omega⟩
  obtain rfl:tn=0:=by omega
  obtain rfl:un=0:=by omega
  obtain rfl:kn=0:=by omega
  obtain rfl:pl=0:=by omega
  exact drafts_16 dn sn an (by omega) (by omega) (by omega)
 ·skip
  have hr:=right_17 d s t u a k pl 1073741824 hd hs ht hu ha k0 k1
  rw[h] at hr
  simp[eqI] at hr
  obtain⟨dn,rfl⟩:∃ n:Nat,d=n:=⟨d.toNat,by omega⟩
  obtain⟨sn,rfl⟩:∃ n:Nat,s=n:=⟨s.toNat,by omega⟩
  obtain⟨tn,rfl⟩:∃ n:Nat,t=n:=⟨t.toNat,by omega⟩
  obtain⟨un,rfl⟩:∃ n:Nat,u=n:=⟨u.toNat,by omega⟩
  obtain⟨an,rfl⟩:∃ n:Nat,a=n:=⟨a.toNat,by omega⟩
  obtain⟨kn,rfl⟩:∃ n:Nat,k=n:=⟨k.toNat,by omega⟩
  obtain rfl:dn=0:=by omega
  obtain rfl:un=0:=by omega
  obtain rfl:kn=0:=by omega
  obtain rfl:pl=0:=by omega
  exact drafts_17 sn tn an (by omega) (by omega) (by omega)
 ·skip
  have hr:=right_18 d s t u a k pl 1073741824 hd hs ht hu ha k0 k1
  rw[h] at hr
  simp[eqI] at hr
  obtain⟨dn,rfl⟩:∃ n:Nat,d=n:=⟨d.toNat,by omega⟩
  obtain⟨sn,rfl⟩:∃ n:Nat,s=n:=⟨s.toNat,by omega⟩
  obtain⟨tn,rfl⟩:∃ n:Nat,t=n:=⟨t.toNat,by omega⟩
  obtain⟨un,rfl⟩:∃ n:Nat,u=n:=⟨u.toNat,by omega⟩
  obtain⟨an,rfl⟩:∃ n:Nat,a=n:=⟨a.toNat,by omega⟩
  obtain⟨kn,rfl⟩:∃ n:Nat,k=n:=⟨k.toNat,by omega⟩
  obtain rfl:un=0:=by omega
  obtain rfl:kn=0:=by omega
  obtain rfl:pl=0:=by omega
  exact drafts_18 dn sn tn an (by omega) (by omega) (by omega) (by omega)
 ·skip
  have hr:=right_19 d s t u a k pl 1073741824 hd hs ht hu ha k0 k1
  rw[h] at hr
  simp[eqI] at hr
  obtain⟨dn,rfl⟩:∃ n:Nat,d=n:=⟨d.toNat,by omega⟩
  obtain⟨sn,rfl⟩:∃ n:Nat,s=n:=⟨s.toNat,by omega⟩
  obtain⟨tn,rfl⟩:∃ n:Nat,t=n:=⟨t.toNat,by omega⟩
  obtain⟨un,rfl⟩:∃ n:Nat,u=n:=⟨u.toNat,by omega⟩
  obtain⟨an,rfl⟩:∃ n:Nat,a=n:=⟨a.toNat,by omega⟩
  obtain⟨kn,rfl⟩:∃ n:Nat,k=n:=⟨k.toNat,by omega⟩
  obtain rfl:kn=0:=by omega
  obtain rfl:pl=0:=by omega
  exact drafts_19 dn sn tn un an (by omega) (by omega) (by omega) (by omega) (by omega)
 ·skip
  have hr:=right_20 d s t u a k pl 1073741824 hd hs ht hu ha k0 k1
  rw[h] at hr
  simp[eqI] at hr
  obtain⟨dn,rfl⟩:∃ n:Nat,d=n:=⟨d.toNat,by omega⟩
  obtain⟨sn,rfl⟩:∃ n:Nat,s=n:=⟨s.toNat,by omega⟩
  obtain⟨tn,rfl⟩:∃ n:Nat,t=n:=⟨t.toNat,by omega⟩
  obtain⟨un,rfl⟩:∃ n:Nat,u=n:=⟨u.toNat,by omega⟩
  obtain⟨an,rfl⟩:∃ n:Nat,a=n:=⟨a.toNat,by omega⟩
  obtain⟨kn,rfl⟩:∃ n:Nat,k=n:=⟨k.toNat,by omega⟩
  obtain rfl:tn=0:=by omega
  obtain rfl:un=0:=by omega
  obtain rfl:pl=0:=by omega
  exact drafts_20 dn sn an kn (by omega) (by omega) (by omega) (by omega) (by omega)
 ·skip
  have hr:=right_21 d s t u a k pl 1073741824 hd hs ht hu ha k0 k1
  rw[h] at hr
  simp[eqI] at hr
  obtain⟨dn,rfl⟩:∃ n:Nat,d=n:=⟨d.toNat,by omega⟩
  obtain⟨sn,rfl⟩:∃ n:Nat,s=n:=⟨s.toNat,by omega⟩
  obtain⟨tn,rfl⟩:∃ n:Nat,t=n:=⟨t.toNat,by omega⟩
  obtain⟨un,rfl⟩:∃ n:Nat,u=n:=⟨u.toNat,by omega⟩
  obtain⟨an,rfl⟩:∃ n:Nat,a=n:=⟨a.toNat,by omega⟩
  obtain⟨kn,rfl⟩:∃ n:Nat,k=n:=⟨k.toNat,by omega⟩
  obtain rfl:un=0:=by omega
  by_cases hm:pl=-1
  ·subst hm
   by_cases hk:kn=0
   ·subst hk;exact drafts_21_0m dn sn tn an 0 (by omega) (by omega) (by omega) (by omega) (by omega)
   ·obtain rfl:kn=1:=by omega
    exact drafts_21_1m dn sn tn an 0 (by omega) (by omega) (by omega) (by omega) (by omega)
  ·obtain⟨pn,rfl⟩:∃ n:Nat,pl=n:=⟨pl.toNat,by omega⟩
   by_cases hk:kn=0
   ·subst hk;exact drafts_21_0p dn sn tn an pn (by omega) (by omega) (by omega) (by omega) (by omega)
   ·obtain rfl:kn=1:=by omega
    exact drafts_21_1p dn sn tn an pn (by omega) (by omega) (by omega) (by omega) (by omega)
 ·skip
  have hr:=right_22 d s t u a k pl 1073741824 hd hs ht hu ha k0 k1
  rw[h] at hr
  simp[eqI] at hr
  obtain⟨dn,rfl⟩:∃ n:Nat,d=n:=⟨d.toNat,by omega⟩
  obtain⟨sn,rfl⟩:∃ n:Nat,s=n:=⟨s.toNat,by omega⟩
  obtain⟨tn,rfl⟩:∃ n:Nat,t=n:=⟨t.toNat,by omega⟩
  obtain⟨un,rfl⟩:∃ n:Nat,u=n:=⟨u.toNat,by omega⟩
  obtain⟨an,rfl⟩:∃ n:Nat,a=n:=⟨a.toNat,by omega⟩
  obtain⟨kn,rfl⟩:∃ n:Nat,k=n:=⟨k.toNat,by omega⟩
  obtain rfl:sn=0:=by omega
  obtain rfl:tn=0:=by omega
  obtain rfl:un=0:=by omega
  obtain rfl:an=0:=by omega
  obtain rfl:kn=0:=by omega
  obtain rfl:pl=0:=by omega
  exact drafts_22 dn (by omega)
 ·skip
  have hr:=right_23 d s t u a k pl 1073741824 hd hs ht hu ha k0 k1
  rw[h] at hr
  simp[eqI] at hr
  obtain⟨dn,rfl⟩:∃ n:Nat,d=n:=⟨d.toNat,by omega⟩
  obtain⟨sn,rfl⟩:∃ n:Nat,s=n:=⟨s.toNat,by omega⟩
  obtain⟨tn,rfl⟩:∃ n:Nat,t=n:=⟨t.toNat,by omega⟩
  obtain⟨un,rfl⟩:∃ n:Nat,u=n:=⟨u.toNat,by omega⟩
  obtain⟨an,rfl⟩:∃ n:Nat,a=n:=⟨a.toNat,by omega⟩
  obtain⟨kn,rfl⟩:∃ n:Nat,k=n:=⟨k.toNat,by omega⟩
  obtain rfl:dn=0:=by omega
  obtain rfl:tn=0:=by omega
  obtain rfl:un=0:=by omega
  obtain rfl:an=0:=by omega
  obtain rfl:kn=0:=by omega
  obtain rfl:pl=0:=by omega
  exact drafts_23 sn (by omega)
 ·exfalso
  unfold rightB at h
  simp only[(hs_none hn).1] at h
  cases h
theorem parse_text (i:Ins)(h:rightB i 1073741824=true)(k0:0≤i.k)(k1:i.k < 4294967296):parseB (textL i)=true∧parsedI (textL i)=i:=by
 have e:=parsed_text i h k0 k1
 refine⟨?_,e⟩
 unfold parseB
 rw[e,h]
 simp
end Go.Proofs.YthdgehcghklflaaGreatDoor
namespace Go.Proofs.YthdgehcghklflaaGreatDoor
open Go.ChangeShapes Go.WideShapes Go.ChangeAt Go.RowKit
def regL (s:List UInt8):Int:=
 if s.length=2∧(s.getD 0 0).toNat=114∧48≤(s.getD 1 0).toNat∧(s.getD 1 0).toNat≤55 then ((s.getD 1 0).toNat:Int) - 48 else -1
theorem rRegister (s:List UInt8)(hl:s.length < 100000)(w:World):
 Calls Tryz.prog 142 #[bs s] w fun e w'=>e=.returned (.int .i64 (regL s))∧w=w':=by
 have E:regL s=if s.length=2∧(s.getD 0 0).toNat=114∧48≤(s.getD 1 0).toNat∧(s.getD 1 0).toNat≤55 then ((s.getD 1 0).toNat:Int) - 48 else -1:=rfl
 generalize regL s=r at *
 unfold bs
 by_cases h2:s.length=2
 ·have i0:∀ w,(Instr.index 9 (.string ⟨s.toArray⟩) (.int .i64 0)).run Tryz.prog w=.ok (.int .u8 ((s.getD 0 0).toNat:Int)) w:=run_ltr s 0 (by omega)
  have i1:∀ w,(Instr.index 9 (.string ⟨s.toArray⟩) (.int .i64 1)).run Tryz.prog w=.ok (.int .u8 ((s.getD 1 0).toNat:Int)) w:=run_ltr s 1 (by omega)
  generalize (s.getD 0 0).toNat=x at *
  generalize (s.getD 1 0).toNat=y at *
  have dl:((s.length:Int) != 2)=false:=by simp;omega
  by_cases h1:x=114
  ·subst h1
   by_cases h3:y < 48
   ·have HE:=Lib.hid (E.trans (if_neg (by omega)))
    clear E h2
    have d:(y:Int) < 48:=by omega
    have d0:((114:Nat):Int)=114:=rfl
    rw[d0] at i0
    clear d0
    go_enter Tryz.func142,Tryz.ntmps142
    go_wp2
    go_ret
    exact⟨ret_int HE.out.symm,rfl⟩
   have d0:((114:Nat):Int)=114:=rfl
   rw[d0] at i0
   clear d0
   by_cases h4:55 < y
   ·have HE:=Lib.hid (E.trans (if_neg (by omega)))
    clear E h2
    have d:decide ((y:Int) < 48)=false:=by simp;omega
    have d2:(y:Int) > 55:=by omega
    go_enter Tryz.func142,Tryz.ntmps142
    go_wp2
    go_ret
    exact⟨ret_int HE.out.symm,rfl⟩
   ·have HE:=Lib.hid (E.trans (if_pos (by omega)))
    clear E h2
    have d:decide ((y:Int) < 48)=false:=by simp;omega
    have d2:decide ((y:Int) > 55)=false:=by simp;omega
    have d3:48≤(y:Int):=by omega
    have d4:(y:Int)≤55:=by omega
    go_enter Tryz.func142,Tryz.ntmps142
    go_wp2
    go_ret
    exact⟨ret_int HE.out.symm,rfl⟩
  ·have HE:=Lib.hid (E.trans (if_neg (by omega)))
   clear E h2
   have d:((x:Int) != 114)=true:=by simp;omega
   go_enter Tryz.func142,Tryz.ntmps142
   go_wp2
   go_ret
   exact⟨ret_int HE.out.symm,rfl⟩
 ·have HE:=Lib.hid (E.trans (if_neg (by omega)))
  have d:((s.length:Int) != 2)=true:=by simp;omega
  clear E
  go_enter Tryz.func142,Tryz.ntmps142
  go_wp2
  go_ret
  exact⟨ret_int HE.out.symm,rfl⟩
def numFrom (acc:Int):List UInt8→Option Int
 | []=>some acc
 | c :: r=>if 48≤c.toNat∧c.toNat≤57 then numFrom (acc * 10+((c.toNat:Int) - 48)) r else none
def numEnd:Option Int→Int
 | none=>-1
 | some n=>if 4294967295 < n then -1 else n
def numL (s:List UInt8):Int:=
 if s=[]∨10 < s.length∨(1 < s.length∧(s.getD 0 0).toNat=48) then -1 else numEnd (numFrom 0 s)
theorem numFrom_step (acc:Int)(s:List UInt8)(k:Nat)(h:k < s.length):
 numFrom acc (s.drop k)=if 48≤(s.getD k 0).toNat∧(s.getD k 0).toNat≤57 then numFrom (acc * 10+(((s.getD k 0).toNat:Int) - 48)) (s.drop (k+1)) else none:=by
 rw[List.drop_eq_getElem_cons h]
 simp[numFrom,h]
def roof:Nat→Int
 | 0=>1
 | n+1=>roof n * 10
theorem roof_le:∀ k,k≤10→1≤roof k∧roof k≤10000000000:=by
 intro k hk
 have:k=0∨k=1∨k=2∨k=3∨k=4∨k=5∨k=6∨k=7∨k=8∨k=9∨k=10:=by omega
 rcases this with rfl | rfl | rfl | rfl | rfl | rfl | rfl | rfl | rfl | rfl | rfl <;> decide
set_option maxHeartbeats 1000000 in
theorem rNumber (s:List UInt8)(hl:s.length < 100000)(w:World):
 Calls Tryz.prog 143 #[bs s] w fun e w'=>e=.returned (.int .i64 (numL s))∧w=w':=by
 have E:numL s=if s=[]∨10 < s.length∨(1 < s.length∧(s.getD 0 0).toNat=48) then -1 else numEnd (numFrom 0 s):=rfl
 generalize numL s=r at *
 by_cases h0:s=[]
 ·subst h0
  have HE:=Lib.hid (E.trans (if_pos (.inl rfl)))
  clear E
  unfold bs
  go_enter Tryz.func143,Tryz.ntmps143
  go_wp2
  go_ret
  exact⟨ret_int HE.out.symm,rfl⟩
 have he:s.isEmpty=false:=by simpa using h0
 have hpos:0 < s.length:=List.length_pos_iff.2 h0
 by_cases h10:10 < s.length
 ·have HE:=Lib.hid (E.trans (if_pos (.inr (.inl h10))))
  have d:(s.length:Int) > 10:=by omega
  clear E h0
  unfold bs
  go_enter Tryz.func143,Tryz.ntmps143
  go_wp2
  go_ret
  exact⟨ret_int HE.out.symm,rfl⟩
 have d10:decide ((s.length:Int) > 10)=false:=by simp;omega
 have i0:∀ w,(Instr.index 9 (.string ⟨s.toArray⟩) (.int .i64 0)).run Tryz.prog w=.ok (.int .u8 ((s.getD 0 0).toNat:Int)) w:=run_ltr s 0 hpos
 by_cases h1:1 < s.length∧(s.getD 0 0).toNat=48
 ·have HE:=Lib.hid (E.trans (if_pos (.inr (.inr h1))))
  obtain⟨h1,h48⟩:=h1
  rw[h48] at i0
  have d0:((48:Nat):Int)=48:=rfl
  rw[d0] at i0
  clear d0
  have d:(s.length:Int) > 1:=by omega
  clear E h0 h48
  unfold bs
  go_enter Tryz.func143,Tryz.ntmps143
  go_wp2
  go_ret
  exact⟨ret_int HE.out.symm,rfl⟩
 have E2:r=numEnd (numFrom 0 s):=E.trans (if_neg (by
  rintro(h | h | h)
  ·exact h0 h
  ·exact h10 h
  ·exact h1 h))
 have HE:=Lib.hid E2
 clear E E2
 have HK:=Lib.hid (roof_le)
 generalize (s.getD 0 0).toNat=c0 at *
 unfold bs
 have hgo:∀ (K:Prop),((decide ((s.length:Int) > 1)=false→K)∧(decide ((s.length:Int) > 1)=true→((c0:Int)==48)=false→K))→K:=by
  intro K hK
  by_cases h:s.length=1
  ·exact hK.1 (by simp;omega)
  ·have:c0≠48:=fun e=>h1 ⟨by omega,e⟩
   exact hK.2 (by simp;omega) (by simp;omega)
 refine hgo _ ⟨fun hd1=>?_,fun hd1 hd2=>?_⟩
 all_goals
  clear hgo h0 h1
  go_enter Tryz.func143,Tryz.ntmps143
  go_wp2
  go_loop [3,4] (fun n i=>∃ (k:Nat) (v:Int),k≤s.length∧i=.int .i64 k∧n=.int .i64 v∧0≤v∧v < roof k∧r=numEnd (numFrom v (s.drop k))) (fun _ i=>s.length - (intOf i).toNat)
  case atStart=>exact⟨0,0,Nat.zero_le _,rfl,rfl,by omega,by decide,HE.out⟩
  case round=>
   obtain⟨k,v,hk,rfl,rfl,v0,v1,hr⟩:=hrel
   obtain⟨q0,q1⟩:=HK.out k (by omega)
   by_cases hlt:k < s.length
   ·have ix:=run_ltr s k hlt
    rw[numFrom_step v s k hlt] at hr
    have hrf:roof (k+1)=roof k * 10:=rfl
    have hu:=(s.getD k 0).toNat_lt
    generalize (s.getD k 0).toNat=c at *
    have HR:=Lib.hid hr
    have HF:=Lib.hid hrf
    clear hr hrf
    by_cases c1:c < 48
    ·rw[if_neg (by omega)] at HR
     have d1:(c:Int) < 48:=by omega
     go_wp2
     go_ret
     exact⟨ret_int HR.out.symm,rfl⟩
    by_cases c2:57 < c
    ·rw[if_neg (by omega)] at HR
     have d1:decide ((c:Int) < 48)=false:=by simp;omega
     have d2:(c:Int) > 57:=by omega
     go_wp2
     go_ret
     exact⟨ret_int HR.out.symm,rfl⟩
    ·rw[if_pos (by omega)] at HR
     have d1:decide ((c:Int) < 48)=false:=by simp;omega
     have d2:decide ((c:Int) > 57)=false:=by simp;omega
     have d3:48≤(c:Int):=by omega
     have d4:(c:Int)≤57:=by omega
     have hv9:v < 10000000000:=by omega
     have hk10:(k:Int)≤10:=by omega
     go_wp2
     go_round
     case rel=>exact⟨k+1,v * 10+((c:Int) - 48),by omega,by go_num,rfl,by omega,by rw[HF.out];omega,HR.out⟩
     case measure=>simp[intOf];omega
   ·obtain rfl:k=s.length:=by omega
    rw[List.drop_length] at hr
    have HR:=Lib.hid (show r=if 4294967295 < v then -1 else v from hr)
    clear hr
    by_cases hv:4294967295 < v
    ·rw[if_pos hv] at HR
     go_wp2
     go_ret
     exact⟨ret_int HR.out.symm,rfl⟩
    ·rw[if_neg hv] at HR
     go_wp2
     go_ret
     exact⟨ret_int HR.out.symm,rfl⟩
end Go.Proofs.YthdgehcghklflaaGreatDoor
namespace Go.Proofs.YthdgehcghklflaaGreatDoor
def opTo (w:List UInt8):Nat→Int
 | 0=>0
 | n+1=>if (nmL ((n:Int)+1)).isEmpty=false∧nmL ((n:Int)+1)=w then (n:Int)+1 else opTo w n
def okW (w:List UInt8):Bool:=decide (0≤regL w) || (decide (0≤numL w) || (decide (w=[110,101]) || (decide (w=[101,113]) || decide (w=[101,108,115,101]))))
def regOf (w:List UInt8):List Int:=if 0≤regL w then [regL w] else []
def numOf (w:List UInt8):List Int:=if 0≤regL w then [] else if 0≤numL w then [numL w] else []
def isNe (w:List UInt8):Bool:=!decide (0≤regL w) && (!decide (0≤numL w) && decide (w=[110,101]))
def regsOf (l:List (List UInt8)):List Int:=l.flatMap regOf
def numsOf (l:List (List UInt8)):List Int:=l.flatMap numOf
def kOf (l:List (List UInt8)):Int:=if l.any isNe=true then 1 else 0
def padTo (n:Nat)(v:Int)(l:List Int):List Int:=l++List.replicate (n - l.length) v
def finI (op:Int)(rs ns:List Int)(k:Int):Ins:=
 if op=1∨op=3∨op=4∨op=5∨op=6 then ⟨op,nth rs 0,nth rs 1,nth rs 2,0,0,nth ns 0 % 4294967296,0⟩
 else if op=2∨op=7∨op=11∨op=22 then ⟨op,nth rs 0,nth rs 1,nth rs 2,0,0,k,0⟩
 else if op=8∨op=9∨op=10 then ⟨op,0,nth rs 0,nth rs 1,0,0,k,nth ns 0⟩
 else if op=12∨op=13 then ⟨op,0,0,0,0,0,nth ns 0 % 4294967296,0⟩
 else if op=16∨op=18∨op=19 then ⟨op,nth rs 0,nth rs 1,nth rs 2,nth rs 3,nth ns 0,k,0⟩
 else if op=20 then ⟨op,nth rs 0,nth rs 1,nth rs 2,nth rs 3,nth ns 0,nth ns 1 % 4294967296,0⟩
 else if op=21 then ⟨op,nth rs 0,nth rs 1,nth rs 2,nth rs 3,nth ns 0,k,nth ns 1⟩
 else if op=17 then ⟨op,0,nth rs 0,nth rs 1,0,nth ns 0,k,0⟩
 else if op=23 then ⟨op,0,nth rs 0,0,0,0,k,0⟩
 else ⟨op,0,0,0,0,0,k,0⟩
def draftR (ws:List (List UInt8)):Ins:=finI (opTo (ws.getD 0 []) 23) (padTo 4 0 (regsOf ws.tail)) (padTo 2 (-1) (numsOf ws.tail)) (kOf ws.tail)
def parseRB (s:List UInt8):Bool:=(wordsL s).tail.all okW && (rightB (draftR (wordsL s)) 1073741824 && decide (textL (draftR (wordsL s))=s))
theorem numFrom_app:∀ (a b:List UInt8) (acc u:Int),numFrom acc a=some u→numFrom acc (a++b)=numFrom u b
 | [],b,acc,u,h=>by simp[numFrom] at h;subst h;rfl
 | c :: a,b,acc,u,h=>by
  simp only[numFrom,List.cons_append] at h ⊢
  split at h
  ·rename_i h1
   rw[if_pos h1]
   exact numFrom_app a b _ u h
  ·cases h
theorem numFrom_dec:∀ (n:Nat),numFrom 0 (Lib.decDigits n)=some (n:Int):=by
 intro n
 induction n using Nat.strongRecOn with
 | _ n ih=>
  rw[Lib.decDigits]
  by_cases h:n < 10
  ·rw[dif_pos h]
   have e:(UInt8.ofNat (48+n)).toNat=48+n:=by rw[UInt8.toNat_ofNat',Nat.mod_eq_of_lt (by omega)]
   simp only[numFrom,e]
   rw[if_pos (by omega)]
   congr 1
   omega
  ·rw[dif_neg h,numFrom_app _ _ _ _ (ih (n / 10) (by omega))]
   have e:(UInt8.ofNat (48+n % 10)).toNat=48+n % 10:=by rw[UInt8.toNat_ofNat',Nat.mod_eq_of_lt (by omega)]
   simp only[numFrom,e]
   rw[if_pos (by omega)]
   congr 1
   omega
theorem dec_len10:∀ (m n:Nat),n < 10 ^ (m+1)→(Lib.decDigits n).length≤m+1:=by
 intro m
 induction m with
 | zero=>intro n h;rw[Lib.decDigits,dif_pos (by simpa using h)];simp
 | succ m ih=>
  intro n h
  rw[Lib.decDigits]
  by_cases h9:n < 10
  ·rw[dif_pos h9];simp
  ·rw[dif_neg h9]
   have h2:n / 10 < 10 ^ (m+1):=by
    rw[Nat.div_lt_iff_lt_mul (by decide)]
    rw[Nat.pow_succ] at h
    exact h
   have:=ih _ h2
   simp
   omega
theorem num_dec (n:Nat)(h:n < 4294967296):numL (Lib.decDigits n)=n:=by
 have hf:=numFrom_dec n
 have hl:=dec_len10 9 n (by
  have:(10:Nat) ^ (9+1)=10000000000:=by decide
  omega)
 obtain⟨c,r,e,h1,h2,h3⟩:=dec_cons n
 have h10:1 < (Lib.decDigits n).length→10≤n:=by
  intro hh
  by_cases hn:n < 10
  ·rw[Lib.decDigits,dif_pos hn] at hh;simp at hh
  ·omega
 unfold numL
 rw[if_neg,hf]
 ·show (if 4294967295 < (n:Int) then -1 else (n:Int))=n
  rw[if_neg (by omega)]
 ·rintro(hh | hh | ⟨hh,hz⟩)
  ·rw[e] at hh;cases hh
  ·omega
  ·have:=h3 (h10 hh)
   rw[e] at hz
   simp at hz
   omega
theorem reg_dec (n:Nat):regL (Lib.decDigits n)=-1:=by
 obtain⟨c,r,e,h1,h2,-⟩:=dec_cons n
 unfold regL
 rw[if_neg]
 rintro⟨-,hh,-⟩
 rw[e] at hh
 simp at hh
 omega
theorem reg_rgw (n:Nat)(h:n≤7):regL (rgw n)=n:=by
 unfold rgw
 rw[Lib.decDigits,dif_pos (by omega)]
 have e:(UInt8.ofNat (48+n)).toNat=48+n:=by rw[UInt8.toNat_ofNat',Nat.mod_eq_of_lt (by omega)]
 unfold regL
 rw[if_pos]
 ·simp only[List.getD_cons_succ,List.getD_cons_zero,e];omega
 ·refine⟨rfl,rfl,?_⟩
  simp only[List.getD_cons_succ,List.getD_cons_zero,e]
  omega
theorem w_rgw (n:Nat)(h:n≤7):okW (rgw n)=true∧regOf (rgw n)=[(n:Int)]∧numOf (rgw n)=[]∧isNe (rgw n)=false:=by
 have e:=reg_rgw n h
 unfold okW regOf numOf isNe
 rw[e]
 have h0:(0:Int)≤(n:Int):=by omega
 simp[h0]
theorem w_dec (n:Nat)(h:n < 4294967296):okW (Lib.decDigits n)=true∧regOf (Lib.decDigits n)=[]∧numOf (Lib.decDigits n)=[(n:Int)]∧isNe (Lib.decDigits n)=false:=by
 have e:=num_dec n h
 have e2:=reg_dec n
 unfold okW regOf numOf isNe
 rw[e,e2]
 have h0:(0:Int)≤(n:Int):=by omega
 simp[h0]
theorem w_eq:okW [101,113]=true∧regOf [101,113]=[]∧numOf [101,113]=[]∧isNe [101,113]=false:=by decide
theorem w_ne:okW [110,101]=true∧regOf [110,101]=[]∧numOf [110,101]=[]∧isNe [110,101]=true:=by decide
theorem w_else:okW [101,108,115,101]=true∧regOf [101,108,115,101]=[]∧numOf [101,108,115,101]=[]∧isNe [101,108,115,101]=false:=by decide
theorem draftsR_1 (dn kn:Nat)(hdn:dn≤7)(hkn:kn < 4294967296):(wordsL (textL ⟨1,(dn:Nat),0,0,0,0,(kn:Nat),0⟩)).tail.all okW=true∧draftR (wordsL (textL ⟨1,(dn:Nat),0,0,0,0,(kn:Nat),0⟩))=⟨1,(dn:Nat),0,0,0,0,(kn:Nat),0⟩:=by
 obtain⟨adn,bdn,cdn,ddn⟩:=w_rgw dn hdn
 obtain⟨akn,bkn,ckn,dkn⟩:=w_dec kn hkn
 rw[words_1]
 have e:opTo (nmL 1) 23=1:=by decide
 refine⟨by simp[adn,akn],?_⟩
 simp[draftR,e,regsOf,numsOf,bdn,cdn,bkn,ckn,padTo,finI,nth]
 omega
theorem draftsR_2 (dn sn:Nat)(hdn:dn≤7)(hsn:sn≤7):(wordsL (textL ⟨2,(dn:Nat),(sn:Nat),0,0,0,0,0⟩)).tail.all okW=true∧draftR (wordsL (textL ⟨2,(dn:Nat),(sn:Nat),0,0,0,0,0⟩))=⟨2,(dn:Nat),(sn:Nat),0,0,0,0,0⟩:=by
 obtain⟨adn,bdn,cdn,ddn⟩:=w_rgw dn hdn
 obtain⟨asn,bsn,csn,dsn⟩:=w_rgw sn hsn
 rw[words_2]
 have e:opTo (nmL 2) 23=2:=by decide
 refine⟨by simp[adn,asn],?_⟩
 simp[draftR,e,regsOf,kOf,bdn,ddn,bsn,dsn,padTo,finI,nth]
theorem draftsR_3 (dn sn kn:Nat)(hdn:dn≤7)(hsn:sn≤7)(hkn:kn < 4294967296):(wordsL (textL ⟨3,(dn:Nat),(sn:Nat),0,0,0,(kn:Nat),0⟩)).tail.all okW=true∧draftR (wordsL (textL ⟨3,(dn:Nat),(sn:Nat),0,0,0,(kn:Nat),0⟩))=⟨3,(dn:Nat),(sn:Nat),0,0,0,(kn:Nat),0⟩:=by
 obtain⟨adn,bdn,cdn,ddn⟩:=w_rgw dn hdn
 obtain⟨asn,bsn,csn,dsn⟩:=w_rgw sn hsn
 obtain⟨akn,bkn,ckn,dkn⟩:=w_dec kn hkn
 rw[words_3]
 have e:opTo (nmL 3) 23=3:=by decide
 refine⟨by simp[adn,asn,akn],?_⟩
 simp[draftR,e,regsOf,numsOf,bdn,cdn,bsn,csn,bkn,ckn,padTo,finI,nth]
 omega
theorem draftsR_4 (dn sn kn:Nat)(hdn:dn≤7)(hsn:sn≤7)(hkn:kn < 4294967296):(wordsL (textL ⟨4,(dn:Nat),(sn:Nat),0,0,0,(kn:Nat),0⟩)).tail.all okW=true∧draftR (wordsL (textL ⟨4,(dn:Nat),(sn:Nat),0,0,0,(kn:Nat),0⟩))=⟨4,(dn:Nat),(sn:Nat),0,0,0,(kn:Nat),0⟩:=by
 obtain⟨adn,bdn,cdn,ddn⟩:=w_rgw dn hdn
 obtain⟨asn,bsn,csn,dsn⟩:=w_rgw sn hsn
 obtain⟨akn,bkn,ckn,dkn⟩:=w_dec kn hkn
 rw[words_4]
 have e:opTo (nmL 4) 23=4:=by decide
 refine⟨by simp[adn,asn,akn],?_⟩
 simp[draftR,e,regsOf,numsOf,bdn,cdn,bsn,csn,bkn,ckn,padTo,finI,nth]
 omega
theorem draftsR_5 (dn sn kn:Nat)(hdn:dn≤7)(hsn:sn≤7)(hkn:kn < 4294967296):(wordsL (textL ⟨5,(dn:Nat),(sn:Nat),0,0,0,(kn:Nat),0⟩)).tail.all okW=true∧draftR (wordsL (textL ⟨5,(dn:Nat),(sn:Nat),0,0,0,(kn:Nat),0⟩))=⟨5,(dn:Nat),(sn:Nat),0,0,0,(kn:Nat),0⟩:=by
 obtain⟨adn,bdn,cdn,ddn⟩:=w_rgw dn hdn
 obtain⟨asn,bsn,csn,dsn⟩:=w_rgw sn hsn
 obtain⟨akn,bkn,ckn,dkn⟩:=w_dec kn hkn
 rw[words_5]
 have e:opTo (nmL 5) 23=5:=by decide
 refine⟨by simp[adn,asn,akn],?_⟩
 simp[draftR,e,regsOf,numsOf,bdn,cdn,bsn,csn,bkn,ckn,padTo,finI,nth]
 omega
theorem draftsR_6 (dn sn kn:Nat)(hdn:dn≤7)(hsn:sn≤7)(hkn:kn < 4294967296):(wordsL (textL ⟨6,(dn:Nat),(sn:Nat),0,0,0,(kn:Nat),0⟩)).tail.all okW=true∧draftR (wordsL (textL ⟨6,(dn:Nat),(sn:Nat),0,0,0,(kn:Nat),0⟩))=⟨6,(dn:Nat),(sn:Nat),0,0,0,(kn:Nat),0⟩:=by
 obtain⟨adn,bdn,cdn,ddn⟩:=w_rgw dn hdn
 obtain⟨asn,bsn,csn,dsn⟩:=w_rgw sn hsn
 obtain⟨akn,bkn,ckn,dkn⟩:=w_dec kn hkn
 rw[words_6]
 have e:opTo (nmL 6) 23=6:=by decide
 refine⟨by simp[adn,asn,akn],?_⟩
 simp[draftR,e,regsOf,numsOf,bdn,cdn,bsn,csn,bkn,ckn,padTo,finI,nth]
 omega
theorem draftsR_7 (dn sn tn:Nat)(hdn:dn≤7)(hsn:sn≤7)(htn:tn≤7):(wordsL (textL ⟨7,(dn:Nat),(sn:Nat),(tn:Nat),0,0,0,0⟩)).tail.all okW=true∧draftR (wordsL (textL ⟨7,(dn:Nat),(sn:Nat),(tn:Nat),0,0,0,0⟩))=⟨7,(dn:Nat),(sn:Nat),(tn:Nat),0,0,0,0⟩:=by
 obtain⟨adn,bdn,cdn,ddn⟩:=w_rgw dn hdn
 obtain⟨asn,bsn,csn,dsn⟩:=w_rgw sn hsn
 obtain⟨atn,btn,ctn,dtn⟩:=w_rgw tn htn
 rw[words_7]
 have e:opTo (nmL 7) 23=7:=by decide
 refine⟨by simp[adn,asn,atn],?_⟩
 simp[draftR,e,regsOf,kOf,bdn,ddn,bsn,dsn,btn,dtn,padTo,finI,nth]
theorem draftsR_8 (sn tn pn:Nat)(hsn:sn≤7)(htn:tn≤7)(hpn:pn < 4294967296):(wordsL (textL ⟨8,0,(sn:Nat),(tn:Nat),0,0,0,(pn:Nat)⟩)).tail.all okW=true∧draftR (wordsL (textL ⟨8,0,(sn:Nat),(tn:Nat),0,0,0,(pn:Nat)⟩))=⟨8,0,(sn:Nat),(tn:Nat),0,0,0,(pn:Nat)⟩:=by
 obtain⟨asn,bsn,csn,dsn⟩:=w_rgw sn hsn
 obtain⟨atn,btn,ctn,dtn⟩:=w_rgw tn htn
 obtain⟨apn,bpn,cpn,dpn⟩:=w_dec pn hpn
 rw[words_8]
 have e:opTo (nmL 8) 23=8:=by decide
 refine⟨by simp[asn,atn,apn],?_⟩
 simp[draftR,e,regsOf,numsOf,kOf,bsn,csn,dsn,btn,ctn,dtn,bpn,cpn,dpn,padTo,finI,nth]
theorem draftsR_9 (sn tn pn:Nat)(hsn:sn≤7)(htn:tn≤7)(hpn:pn < 4294967296):(wordsL (textL ⟨9,0,(sn:Nat),(tn:Nat),0,0,0,(pn:Nat)⟩)).tail.all okW=true∧draftR (wordsL (textL ⟨9,0,(sn:Nat),(tn:Nat),0,0,0,(pn:Nat)⟩))=⟨9,0,(sn:Nat),(tn:Nat),0,0,0,(pn:Nat)⟩:=by
 obtain⟨asn,bsn,csn,dsn⟩:=w_rgw sn hsn
 obtain⟨atn,btn,ctn,dtn⟩:=w_rgw tn htn
 obtain⟨apn,bpn,cpn,dpn⟩:=w_dec pn hpn
 rw[words_9]
 have e:opTo (nmL 9) 23=9:=by decide
 refine⟨by simp[asn,atn,apn],?_⟩
 simp[draftR,e,regsOf,numsOf,kOf,bsn,csn,dsn,btn,ctn,dtn,bpn,cpn,dpn,padTo,finI,nth]
theorem draftsR_10 (pn:Nat)(hpn:pn < 4294967296):(wordsL (textL ⟨10,0,0,0,0,0,0,(pn:Nat)⟩)).tail.all okW=true∧draftR (wordsL (textL ⟨10,0,0,0,0,0,0,(pn:Nat)⟩))=⟨10,0,0,0,0,0,0,(pn:Nat)⟩:=by
 obtain⟨apn,bpn,cpn,dpn⟩:=w_dec pn hpn
 rw[words_10]
 have e:opTo (nmL 10) 23=10:=by decide
 refine⟨by simp[apn],?_⟩
 simp[draftR,e,regsOf,numsOf,kOf,bpn,cpn,dpn,padTo,finI,nth]
theorem draftsR_11 (dn:Nat)(hdn:dn≤7):(wordsL (textL ⟨11,(dn:Nat),0,0,0,0,0,0⟩)).tail.all okW=true∧draftR (wordsL (textL ⟨11,(dn:Nat),0,0,0,0,0,0⟩))=⟨11,(dn:Nat),0,0,0,0,0,0⟩:=by
 obtain⟨adn,bdn,cdn,ddn⟩:=w_rgw dn hdn
 rw[words_11]
 have e:opTo (nmL 11) 23=11:=by decide
 refine⟨by simp[adn],?_⟩
 simp[draftR,e,regsOf,kOf,bdn,ddn,padTo,finI,nth]
theorem draftsR_22 (dn:Nat)(hdn:dn≤7):(wordsL (textL ⟨22,(dn:Nat),0,0,0,0,0,0⟩)).tail.all okW=true∧draftR (wordsL (textL ⟨22,(dn:Nat),0,0,0,0,0,0⟩))=⟨22,(dn:Nat),0,0,0,0,0,0⟩:=by
 obtain⟨adn,bdn,cdn,ddn⟩:=w_rgw dn hdn
 rw[words_22]
 have e:opTo (nmL 22) 23=22:=by decide
 refine⟨by simp[adn],?_⟩
 simp[draftR,e,regsOf,kOf,bdn,ddn,padTo,finI,nth]
theorem draftsR_12 (kn:Nat)(hkn:kn < 4294967296):(wordsL (textL ⟨12,0,0,0,0,0,(kn:Nat),0⟩)).tail.all okW=true∧draftR (wordsL (textL ⟨12,0,0,0,0,0,(kn:Nat),0⟩))=⟨12,0,0,0,0,0,(kn:Nat),0⟩:=by
 obtain⟨akn,bkn,ckn,dkn⟩:=w_dec kn hkn
 rw[words_12]
 have e:opTo (nmL 12) 23=12:=by decide
 refine⟨by simp[akn],?_⟩
 simp[draftR,e,numsOf,ckn,padTo,finI,nth]
 omega
theorem draftsR_13 (kn:Nat)(hkn:kn < 4294967296):(wordsL (textL ⟨13,0,0,0,0,0,(kn:Nat),0⟩)).tail.all okW=true∧draftR (wordsL (textL ⟨13,0,0,0,0,0,(kn:Nat),0⟩))=⟨13,0,0,0,0,0,(kn:Nat),0⟩:=by
 obtain⟨akn,bkn,ckn,dkn⟩:=w_dec kn hkn
 rw[words_13]
 have e:opTo (nmL 13) 23=13:=by decide
 refine⟨by simp[akn],?_⟩
 simp[draftR,e,numsOf,ckn,padTo,finI,nth]
 omega
theorem draftsR_16 (dn sn an:Nat)(hdn:dn≤7)(hsn:sn≤7)(han:an < 4294967296):(wordsL (textL ⟨16,(dn:Nat),(sn:Nat),0,0,(an:Nat),0,0⟩)).tail.all okW=true∧draftR (wordsL (textL ⟨16,(dn:Nat),(sn:Nat),0,0,(an:Nat),0,0⟩))=⟨16,(dn:Nat),(sn:Nat),0,0,(an:Nat),0,0⟩:=by
 obtain⟨adn,bdn,cdn,ddn⟩:=w_rgw dn hdn
 obtain⟨asn,bsn,csn,dsn⟩:=w_rgw sn hsn
 obtain⟨aan,ban,can,dan⟩:=w_dec an han
 rw[words_16]
 have e:opTo (nmL 16) 23=16:=by decide
 refine⟨by simp[adn,asn,aan],?_⟩
 simp[draftR,e,regsOf,numsOf,kOf,bdn,cdn,ddn,bsn,csn,dsn,ban,can,dan,padTo,finI,nth]
theorem draftsR_17 (sn tn an:Nat)(hsn:sn≤7)(htn:tn≤7)(han:an < 4294967296):(wordsL (textL ⟨17,0,(sn:Nat),(tn:Nat),0,(an:Nat),0,0⟩)).tail.all okW=true∧draftR (wordsL (textL ⟨17,0,(sn:Nat),(tn:Nat),0,(an:Nat),0,0⟩))=⟨17,0,(sn:Nat),(tn:Nat),0,(an:Nat),0,0⟩:=by
 obtain⟨asn,bsn,csn,dsn⟩:=w_rgw sn hsn
 obtain⟨atn,btn,ctn,dtn⟩:=w_rgw tn htn
 obtain⟨aan,ban,can,dan⟩:=w_dec an han
 rw[words_17]
 have e:opTo (nmL 17) 23=17:=by decide
 refine⟨by simp[asn,atn,aan],?_⟩
 simp[draftR,e,regsOf,numsOf,kOf,bsn,csn,dsn,btn,ctn,dtn,ban,can,dan,padTo,finI,nth]
theorem draftsR_18 (dn sn tn an:Nat)(hdn:dn≤7)(hsn:sn≤7)(htn:tn≤7)(han:an < 4294967296):(wordsL (textL ⟨18,(dn:Nat),(sn:Nat),(tn:Nat),0,(an:Nat),0,0⟩)).tail.all okW=true∧draftR (wordsL (textL ⟨18,(dn:Nat),(sn:Nat),(tn:Nat),0,(an:Nat),0,0⟩))=⟨18,(dn:Nat),(sn:Nat),(tn:Nat),0,(an:Nat),0,0⟩:=by
 obtain⟨adn,bdn,cdn,ddn⟩:=w_rgw dn hdn
 obtain⟨asn,bsn,csn,dsn⟩:=w_rgw sn hsn
 obtain⟨atn,btn,ctn,dtn⟩:=w_rgw tn htn
 obtain⟨aan,ban,can,dan⟩:=w_dec an han
 rw[words_18]
 have e:opTo (nmL 18) 23=18:=by decide
 refine⟨by simp[adn,asn,atn,aan],?_⟩
 simp[draftR,e,regsOf,numsOf,kOf,bdn,cdn,ddn,bsn,csn,dsn,btn,ctn,dtn,ban,can,dan,padTo,finI,nth]
theorem draftsR_19 (dn sn tn un an:Nat)(hdn:dn≤7)(hsn:sn≤7)(htn:tn≤7)(hun:un≤7)(han:an < 4294967296):(wordsL (textL ⟨19,(dn:Nat),(sn:Nat),(tn:Nat),(un:Nat),(an:Nat),0,0⟩)).tail.all okW=true∧draftR (wordsL (textL ⟨19,(dn:Nat),(sn:Nat),(tn:Nat),(un:Nat),(an:Nat),0,0⟩))=⟨19,(dn:Nat),(sn:Nat),(tn:Nat),(un:Nat),(an:Nat),0,0⟩:=by
 obtain⟨adn,bdn,cdn,ddn⟩:=w_rgw dn hdn
 obtain⟨asn,bsn,csn,dsn⟩:=w_rgw sn hsn
 obtain⟨atn,btn,ctn,dtn⟩:=w_rgw tn htn
 obtain⟨aun,bun,cun,dun⟩:=w_rgw un hun
 obtain⟨aan,ban,can,dan⟩:=w_dec an han
 rw[words_19]
 have e:opTo (nmL 19) 23=19:=by decide
 refine⟨by simp[adn,asn,atn,aun,aan],?_⟩
 simp[draftR,e,regsOf,numsOf,kOf,bdn,cdn,ddn,bsn,csn,dsn,btn,ctn,dtn,bun,cun,dun,ban,can,dan,padTo,finI,nth]
theorem draftsR_20 (dn sn an kn:Nat)(hdn:dn≤7)(hsn:sn≤7)(han:an < 4294967296)(hkn:kn < 4294967296):(wordsL (textL ⟨20,(dn:Nat),(sn:Nat),0,0,(an:Nat),(kn:Nat),0⟩)).tail.all okW=true∧draftR (wordsL (textL ⟨20,(dn:Nat),(sn:Nat),0,0,(an:Nat),(kn:Nat),0⟩))=⟨20,(dn:Nat),(sn:Nat),0,0,(an:Nat),(kn:Nat),0⟩:=by
 obtain⟨adn,bdn,cdn,ddn⟩:=w_rgw dn hdn
 obtain⟨asn,bsn,csn,dsn⟩:=w_rgw sn hsn
 obtain⟨aan,ban,can,dan⟩:=w_dec an han
 obtain⟨akn,bkn,ckn,dkn⟩:=w_dec kn hkn
 rw[words_20]
 have e:opTo (nmL 20) 23=20:=by decide
 refine⟨by simp[adn,asn,aan,akn],?_⟩
 simp[draftR,e,regsOf,numsOf,bdn,cdn,bsn,csn,ban,can,bkn,ckn,padTo,finI,nth]
 omega
theorem draftsR_23 (sn:Nat)(hsn:sn≤7):(wordsL (textL ⟨23,0,(sn:Nat),0,0,0,0,0⟩)).tail.all okW=true∧draftR (wordsL (textL ⟨23,0,(sn:Nat),0,0,0,0,0⟩))=⟨23,0,(sn:Nat),0,0,0,0,0⟩:=by
 obtain⟨asn,bsn,csn,dsn⟩:=w_rgw sn hsn
 rw[words_23]
 have e:opTo (nmL 23) 23=23:=by decide
 refine⟨by simp[asn],?_⟩
 simp[draftR,e,regsOf,kOf,bsn,dsn,padTo,finI,nth]
theorem draftsR_21_0p (dn sn tn an pn:Nat)(hdn:dn≤7)(hsn:sn≤7)(htn:tn≤7)(han:an < 4294967296)(hpn:pn < 4294967296):(wordsL (textL ⟨21,(dn:Nat),(sn:Nat),(tn:Nat),0,(an:Nat),0,(pn:Nat)⟩)).tail.all okW=true∧draftR (wordsL (textL ⟨21,(dn:Nat),(sn:Nat),(tn:Nat),0,(an:Nat),0,(pn:Nat)⟩))=⟨21,(dn:Nat),(sn:Nat),(tn:Nat),0,(an:Nat),0,(pn:Nat)⟩:=by
 obtain⟨adn,bdn,cdn,ddn⟩:=w_rgw dn hdn
 obtain⟨asn,bsn,csn,dsn⟩:=w_rgw sn hsn
 obtain⟨atn,btn,ctn,dtn⟩:=w_rgw tn htn
 obtain⟨aan,ban,can,dan⟩:=w_dec an han
 obtain⟨apn,bpn,cpn,dpn⟩:=w_dec pn hpn
 obtain⟨ae,be,ce,de⟩:=w_eq
 obtain⟨al,bl,cl,dl⟩:=w_else
 rw[words_21_0p dn sn tn an pn]
 have e:opTo (nmL 21) 23=21:=by decide
 refine⟨by simp[adn,asn,atn,aan,ae,apn,al],?_⟩
 simp[draftR,e,regsOf,numsOf,kOf,bdn,cdn,ddn,bsn,csn,dsn,btn,ctn,dtn,ban,can,dan,be,ce,de,bpn,cpn,dpn,bl,cl,dl,padTo,finI,nth]
theorem draftsR_21_0m (dn sn tn an pn:Nat)(hdn:dn≤7)(hsn:sn≤7)(htn:tn≤7)(han:an < 4294967296)(hpn:pn < 4294967296):(wordsL (textL ⟨21,(dn:Nat),(sn:Nat),(tn:Nat),0,(an:Nat),0,-1⟩)).tail.all okW=true∧draftR (wordsL (textL ⟨21,(dn:Nat),(sn:Nat),(tn:Nat),0,(an:Nat),0,-1⟩))=⟨21,(dn:Nat),(sn:Nat),(tn:Nat),0,(an:Nat),0,-1⟩:=by
 obtain⟨adn,bdn,cdn,ddn⟩:=w_rgw dn hdn
 obtain⟨asn,bsn,csn,dsn⟩:=w_rgw sn hsn
 obtain⟨atn,btn,ctn,dtn⟩:=w_rgw tn htn
 obtain⟨aan,ban,can,dan⟩:=w_dec an han
 obtain⟨apn,bpn,cpn,dpn⟩:=w_dec pn hpn
 obtain⟨ae,be,ce,de⟩:=w_eq
 obtain⟨al,bl,cl,dl⟩:=w_else
 rw[words_21_0m dn sn tn an pn]
 have e:opTo (nmL 21) 23=21:=by decide
 refine⟨by simp[adn,asn,atn,aan,ae],?_⟩
 simp[draftR,e,regsOf,numsOf,kOf,bdn,cdn,ddn,bsn,csn,dsn,btn,ctn,dtn,ban,can,dan,be,ce,de,padTo,finI,nth]
theorem draftsR_21_1p (dn sn tn an pn:Nat)(hdn:dn≤7)(hsn:sn≤7)(htn:tn≤7)(han:an < 4294967296)(hpn:pn < 4294967296):(wordsL (textL ⟨21,(dn:Nat),(sn:Nat),(tn:Nat),0,(an:Nat),1,(pn:Nat)⟩)).tail.all okW=true∧draftR (wordsL (textL ⟨21,(dn:Nat),(sn:Nat),(tn:Nat),0,(an:Nat),1,(pn:Nat)⟩))=⟨21,(dn:Nat),(sn:Nat),(tn:Nat),0,(an:Nat),1,(pn:Nat)⟩:=by
 obtain⟨adn,bdn,cdn,ddn⟩:=w_rgw dn hdn
 obtain⟨asn,bsn,csn,dsn⟩:=w_rgw sn hsn
 obtain⟨atn,btn,ctn,dtn⟩:=w_rgw tn htn
 obtain⟨aan,ban,can,dan⟩:=w_dec an han
 obtain⟨apn,bpn,cpn,dpn⟩:=w_dec pn hpn
 obtain⟨ae,be,ce,de⟩:=w_ne
 obtain⟨al,bl,cl,dl⟩:=w_else
 rw[words_21_1p dn sn tn an pn]
 have e:opTo (nmL 21) 23=21:=by decide
 refine⟨by simp[adn,asn,atn,aan,ae,apn,al],?_⟩
 simp[draftR,e,regsOf,numsOf,kOf,bdn,cdn,ddn,bsn,csn,dsn,btn,ctn,dtn,ban,can,dan,be,ce,de,bpn,cpn,dpn,bl,cl,dl,padTo,finI,nth]
theorem draftsR_21_1m (dn sn tn an pn:Nat)(hdn:dn≤7)(hsn:sn≤7)(htn:tn≤7)(han:an < 4294967296)(hpn:pn < 4294967296):(wordsL (textL ⟨21,(dn:Nat),(sn:Nat),(tn:Nat),0,(an:Nat),1,-1⟩)).tail.all okW=true∧draftR (wordsL (textL ⟨21,(dn:Nat),(sn:Nat),(tn:Nat),0,(an:Nat),1,-1⟩))=⟨21,(dn:Nat),(sn:Nat),(tn:Nat),0,(an:Nat),1,-1⟩:=by
 obtain⟨adn,bdn,cdn,ddn⟩:=w_rgw dn hdn
 obtain⟨asn,bsn,csn,dsn⟩:=w_rgw sn hsn
 obtain⟨atn,btn,ctn,dtn⟩:=w_rgw tn htn
 obtain⟨aan,ban,can,dan⟩:=w_dec an han
 obtain⟨apn,bpn,cpn,dpn⟩:=w_dec pn hpn
 obtain⟨ae,be,ce,de⟩:=w_ne
 obtain⟨al,bl,cl,dl⟩:=w_else
 rw[words_21_1m dn sn tn an pn]
 have e:opTo (nmL 21) 23=21:=by decide
 refine⟨by simp[adn,asn,atn,aan,ae],?_⟩
 simp[draftR,e,regsOf,numsOf,kOf,bdn,cdn,ddn,bsn,csn,dsn,btn,ctn,dtn,ban,can,dan,be,ce,de,padTo,finI,nth]
theorem draftR_text (i:Ins)(h:rightB i 1073741824=true)(k0:0≤i.k)(k1:i.k < 4294967296):(wordsL (textL i)).tail.all okW=true∧draftR (wordsL (textL i))=i:=by
 obtain⟨hd,hs,ht,hu,ha⟩:=right_regs i _ h
 obtain⟨op,d,s,t,u,a,k,pl⟩:=i
 simp only at hd hs ht hu ha k0 k1
 rcases op_cases op with rfl | rfl | rfl | rfl | rfl | rfl | rfl | rfl | rfl | rfl | rfl | rfl | rfl | rfl | rfl | rfl | rfl | rfl | rfl | rfl | rfl | hn
 ·skip
  have hr:=right_1 d s t u a k pl 1073741824 hd hs ht hu ha k0 k1
  rw[h] at hr
  simp[eqI] at hr
  obtain⟨dn,rfl⟩:∃ n:Nat,d=n:=⟨d.toNat,by omega⟩
  obtain⟨sn,rfl⟩:∃ n:Nat,s=n:=⟨s.toNat,by omega⟩
  obtain⟨tn,rfl⟩:∃ n:Nat,t=n:=⟨t.toNat,by omega⟩
  obtain⟨un,rfl⟩:∃ n:Nat,u=n:=⟨u.toNat,by omega⟩
  obtain⟨an,rfl⟩:∃ n:Nat,a=n:=⟨a.toNat,by omega⟩
  obtain⟨kn,rfl⟩:∃ n:Nat,k=n:=⟨k.toNat,by omega⟩
  obtain rfl:sn=0:=by omega
  obtain rfl:tn=0:=by omega
  obtain rfl:un=0:=by omega
  obtain rfl:an=0:=by omega
  obtain rfl:pl=0:=by omega
  exact draftsR_1 dn kn (by omega) (by omega)
 ·skip
  have hr:=right_2 d s t u a k pl 1073741824 hd hs ht hu ha k0 k1
  rw[h] at hr
  simp[eqI] at hr
  obtain⟨dn,rfl⟩:∃ n:Nat,d=n:=⟨d.toNat,by omega⟩
  obtain⟨sn,rfl⟩:∃ n:Nat,s=n:=⟨s.toNat,by omega⟩
  obtain⟨tn,rfl⟩:∃ n:Nat,t=n:=⟨t.toNat,by omega⟩
  obtain⟨un,rfl⟩:∃ n:Nat,u=n:=⟨u.toNat,by omega⟩
  obtain⟨an,rfl⟩:∃ n:Nat,a=n:=⟨a.toNat,by omega⟩
  obtain⟨kn,rfl⟩:∃ n:Nat,k=n:=⟨k.toNat,by omega⟩
  obtain rfl:tn=0:=by omega
  obtain rfl:un=0:=by omega
  obtain rfl:an=0:=by omega
  obtain rfl:kn=0:=by omega
  obtain rfl:pl=0:=by omega
  exact draftsR_2 dn sn (by omega) (by omega)
 ·skip
  have hr:=right_3 d s t u a k pl 1073741824 hd hs ht hu ha k0 k1
  rw[h] at hr
  simp[eqI] at hr
  obtain⟨dn,rfl⟩:∃ n:Nat,d=n:=⟨d.toNat,by omega⟩
  obtain⟨sn,rfl⟩:∃ n:Nat,s=n:=⟨s.toNat,by omega⟩
  obtain⟨tn,rfl⟩:∃ n:Nat,t=n:=⟨t.toNat,by omega⟩
  obtain⟨un,rfl⟩:∃ n:Nat,u=n:=⟨u.toNat,by omega⟩
  obtain⟨an,rfl⟩:∃ n:Nat,a=n:=⟨a.toNat,by omega⟩
  obtain⟨kn,rfl⟩:∃ n:Nat,k=n:=⟨k.toNat,by omega⟩
  obtain rfl:tn=0:=by omega
  obtain rfl:un=0:=by omega
  obtain rfl:an=0:=by omega
  obtain rfl:pl=0:=by omega
  exact draftsR_3 dn sn kn (by omega) (by omega) (by omega)
 ·skip
  have hr:=right_4 d s t u a k pl 1073741824 hd hs ht hu ha k0 k1
  rw[h] at hr
  simp[eqI] at hr
  obtain⟨dn,rfl⟩:∃ n:Nat,d=n:=⟨d.toNat,by omega⟩
  obtain⟨sn,rfl⟩:∃ n:Nat,s=n:=⟨s.toNat,by omega⟩
  obtain⟨tn,rfl⟩:∃ n:Nat,t=n:=⟨t.toNat,by omega⟩
  obtain⟨un,rfl⟩:∃ n:Nat,u=n:=⟨u.toNat,by omega⟩
  obtain⟨an,rfl⟩:∃ n:Nat,a=n:=⟨a.toNat,by omega⟩
  obtain⟨kn,rfl⟩:∃ n:Nat,k=n:=⟨k.toNat,by omega⟩
  obtain rfl:tn=0:=by omega
  obtain rfl:un=0:=by omega
  obtain rfl:an=0:=by omega
  obtain rfl:pl=0:=by omega
  exact draftsR_4 dn sn kn (by omega) (by omega) (by omega)
 ·skip
  have hr:=right_5 d s t u a k pl 1073741824 hd hs ht hu ha k0 k1
  rw[h] at hr
  simp[eqI] at hr
  obtain⟨dn,rfl⟩:∃ n:Nat,d=n:=⟨d.toNat,by omega⟩
  obtain⟨sn,rfl⟩:∃ n:Nat,s=n:=⟨s.toNat,by omega⟩
  obtain⟨tn,rfl⟩:∃ n:Nat,t=n:=⟨t.toNat,by omega⟩
  obtain⟨un,rfl⟩:∃ n:Nat,u=n:=⟨u.toNat,by omega⟩
  obtain⟨an,rfl⟩:∃ n:Nat,a=n:=⟨a.toNat,by omega⟩
  obtain⟨kn,rfl⟩:∃ n:Nat,k=n:=⟨k.toNat,by omega⟩
  obtain rfl:tn=0:=by omega
  obtain rfl:un=0:=by omega
  obtain rfl:an=0:=by omega
  obtain rfl:pl=0:=by omega
  exact draftsR_5 dn sn kn (by omega) (by omega) (by omega)
 ·skip
  have hr:=right_6 d s t u a k pl 1073741824 hd hs ht hu ha k0 k1
  rw[h] at hr
  simp[eqI] at hr
  obtain⟨dn,rfl⟩:∃ n:Nat,d=n:=⟨d.toNat,by omega⟩
  obtain⟨sn,rfl⟩:∃ n:Nat,s=n:=⟨s.toNat,by omega⟩
  obtain⟨tn,rfl⟩:∃ n:Nat,t=n:=⟨t.toNat,by omega⟩
  obtain⟨un,rfl⟩:∃ n:Nat,u=n:=⟨u.toNat,by omega⟩
  obtain⟨an,rfl⟩:∃ n:Nat,a=n:=⟨a.toNat,by omega⟩
  obtain⟨kn,rfl⟩:∃ n:Nat,k=n:=⟨k.toNat,by omega⟩
  obtain rfl:tn=0:=by omega
  obtain rfl:un=0:=by omega
  obtain rfl:an=0:=by omega
  obtain rfl:pl=0:=by omega
  exact draftsR_6 dn sn kn (by omega) (by omega) (by omega)
 ·skip
  have hr:=right_7 d s t u a k pl 1073741824 hd hs ht hu ha k0 k1
  rw[h] at hr
  simp[eqI] at hr
  obtain⟨dn,rfl⟩:∃ n:Nat,d=n:=⟨d.toNat,by omega⟩
  obtain⟨sn,rfl⟩:∃ n:Nat,s=n:=⟨s.toNat,by omega⟩
  obtain⟨tn,rfl⟩:∃ n:Nat,t=n:=⟨t.toNat,by omega⟩
  obtain⟨un,rfl⟩:∃ n:Nat,u=n:=⟨u.toNat,by omega⟩
  obtain⟨an,rfl⟩:∃ n:Nat,a=n:=⟨a.toNat,by omega⟩
  obtain⟨kn,rfl⟩:∃ n:Nat,k=n:=⟨k.toNat,by omega⟩
  obtain rfl:un=0:=by omega
  obtain rfl:an=0:=by omega
  obtain rfl:kn=0:=by omega
  obtain rfl:pl=0:=by omega
  exact draftsR_7 dn sn tn (by omega) (by omega) (by omega)
 ·skip
  have hr:=right_8 d s t u a k pl 1073741824 hd hs ht hu ha k0 k1
  rw[h] at hr
  simp[eqI] at hr
  obtain⟨dn,rfl⟩:∃ n:Nat,d=n:=⟨d.toNat,by omega⟩
  obtain⟨sn,rfl⟩:∃ n:Nat,s=n:=⟨s.toNat,by omega⟩
  obtain⟨tn,rfl⟩:∃ n:Nat,t=n:=⟨t.toNat,by omega⟩
  obtain⟨un,rfl⟩:∃ n:Nat,u=n:=⟨u.toNat,by omega⟩
  obtain⟨an,rfl⟩:∃ n:Nat,a=n:=⟨a.toNat,by omega⟩
  obtain⟨kn,rfl⟩:∃ n:Nat,k=n:=⟨k.toNat,by omega⟩
  obtain rfl:dn=0:=by omega
  obtain rfl:un=0:=by omega
  obtain rfl:an=0:=by omega
  obtain rfl:kn=0:=by omega
  obtain⟨pn,rfl⟩:∃ n:Nat,pl=n:=⟨pl.toNat,by omega⟩
  exact draftsR_8 sn tn pn (by omega) (by omega) (by omega)
 ·skip
  have hr:=right_9 d s t u a k pl 1073741824 hd hs ht hu ha k0 k1
  rw[h] at hr
  simp[eqI] at hr
  obtain⟨dn,rfl⟩:∃ n:Nat,d=n:=⟨d.toNat,by omega⟩
  obtain⟨sn,rfl⟩:∃ n:Nat,s=n:=⟨s.toNat,by omega⟩
  obtain⟨tn,rfl⟩:∃ n:Nat,t=n:=⟨t.toNat,by omega⟩
  obtain⟨un,rfl⟩:∃ n:Nat,u=n:=⟨u.toNat,by omega⟩
  obtain⟨an,rfl⟩:∃ n:Nat,a=n:=⟨a.toNat,by omega⟩
  obtain⟨kn,rfl⟩:∃ n:Nat,k=n:=⟨k.toNat,by omega⟩
  obtain rfl:dn=0:=by omega
  obtain rfl:un=0:=by omega
  obtain rfl:an=0:=by omega
  obtain rfl:kn=0:=by omega
  obtain⟨pn,rfl⟩:∃ n:Nat,pl=n:=⟨pl.toNat,by omega⟩
  exact draftsR_9 sn tn pn (by omega) (by omega) (by omega)
 ·skip
  have hr:=right_10 d s t u a k pl 1073741824 hd hs ht hu ha k0 k1
  rw[h] at hr
  simp[eqI] at hr
  obtain⟨dn,rfl⟩:∃ n:Nat,d=n:=⟨d.toNat,by omega⟩
  obtain⟨sn,rfl⟩:∃ n:Nat,s=n:=⟨s.toNat,by omega⟩
  obtain⟨tn,rfl⟩:∃ n:Nat,t=n:=⟨t.toNat,by omega⟩
  obtain⟨un,rfl⟩:∃ n:Nat,u=n:=⟨u.toNat,by omega⟩
  obtain⟨an,rfl⟩:∃ n:Nat,a=n:=⟨a.toNat,by omega⟩
  obtain⟨kn,rfl⟩:∃ n:Nat,k=n:=⟨k.toNat,by omega⟩
  obtain rfl:dn=0:=by omega
  obtain rfl:sn=0:=by omega
  obtain rfl:tn=0:=by omega
  obtain rfl:un=0:=by omega
  obtain rfl:an=0:=by omega
  obtain rfl:kn=0:=by omega
  obtain⟨pn,rfl⟩:∃ n:Nat,pl=n:=⟨pl.toNat,by omega⟩
  exact draftsR_10 pn (by omega)
 ·skip
  have hr:=right_11 d s t u a k pl 1073741824 hd hs ht hu ha k0 k1
  rw[h] at hr
  simp[eqI] at hr
  obtain⟨dn,rfl⟩:∃ n:Nat,d=n:=⟨d.toNat,by omega⟩
  obtain⟨sn,rfl⟩:∃ n:Nat,s=n:=⟨s.toNat,by omega⟩
  obtain⟨tn,rfl⟩:∃ n:Nat,t=n:=⟨t.toNat,by omega⟩
  obtain⟨un,rfl⟩:∃ n:Nat,u=n:=⟨u.toNat,by omega⟩
  obtain⟨an,rfl⟩:∃ n:Nat,a=n:=⟨a.toNat,by omega⟩
  obtain⟨kn,rfl⟩:∃ n:Nat,k=n:=⟨k.toNat,by omega⟩
  obtain rfl:sn=0:=by omega
  obtain rfl:tn=0:=by omega
  obtain rfl:un=0:=by omega
  obtain rfl:an=0:=by omega
  obtain rfl:kn=0:=by omega
  obtain rfl:pl=0:=by omega
  exact draftsR_11 dn (by omega)
 ·skip
  have hr:=right_12 d s t u a k pl 1073741824 hd hs ht hu ha k0 k1
  rw[h] at hr
  simp[eqI] at hr
  obtain⟨dn,rfl⟩:∃ n:Nat,d=n:=⟨d.toNat,by omega⟩
  obtain⟨sn,rfl⟩:∃ n:Nat,s=n:=⟨s.toNat,by omega⟩
  obtain⟨tn,rfl⟩:∃ n:Nat,t=n:=⟨t.toNat,by omega⟩
  obtain⟨un,rfl⟩:∃ n:Nat,u=n:=⟨u.toNat,by omega⟩
  obtain⟨an,rfl⟩:∃ n:Nat,a=n:=⟨a.toNat,by omega⟩
  obtain⟨kn,rfl⟩:∃ n:Nat,k=n:=⟨k.toNat,by omega⟩
  obtain rfl:dn=0:=by omega
  obtain rfl:sn=0:=by omega
  obtain rfl:tn=0:=by omega
  obtain rfl:un=0:=by omega
  obtain rfl:an=0:=by omega
  obtain rfl:pl=0:=by omega
  exact draftsR_12 kn (by omega)
 ·skip
  have hr:=right_13 d s t u a k pl 1073741824 hd hs ht hu ha k0 k1
  rw[h] at hr
  simp[eqI] at hr
  obtain⟨dn,rfl⟩:∃ n:Nat,d=n:=⟨d.toNat,by omega⟩
  obtain⟨sn,rfl⟩:∃ n:Nat,s=n:=⟨s.toNat,by omega⟩
  obtain⟨tn,rfl⟩:∃ n:Nat,t=n:=⟨t.toNat,by omega⟩
  obtain⟨un,rfl⟩:∃ n:Nat,u=n:=⟨u.toNat,by omega⟩
  obtain⟨an,rfl⟩:∃ n:Nat,a=n:=⟨a.toNat,by omega⟩
  obtain⟨kn,rfl⟩:∃ n:Nat,k=n:=⟨k.toNat,by omega⟩
  obtain rfl:dn=0:=by omega
  obtain rfl:sn=0:=by omega
  obtain rfl:tn=0:=by omega
  obtain rfl:un=0:=by omega
  obtain rfl:an=0:=by omega
  obtain rfl:pl=0:=by omega
  exact draftsR_13 kn (by omega)
 ·skip
  have hr:=right_16 d s t u a k pl 1073741824 hd hs ht hu ha k0 k1
  rw[h] at hr
  simp[eqI] at hr
  obtain⟨dn,rfl⟩:∃ n:Nat,d=n:=⟨d.toNat,by omega⟩
  obtain⟨sn,rfl⟩:∃ n:Nat,s=n:=⟨s.toNat,by omega⟩
  obtain⟨tn,rfl⟩:∃ n:Nat,t=n:=⟨t.toNat,by omega⟩
  obtain⟨un,rfl⟩:∃ n:Nat,u=n:=⟨u.toNat,by omega⟩
  obtain⟨an,rfl⟩:∃ n:Nat,a=n:=⟨a.toNat,by omega⟩
  obtain⟨kn,rfl⟩:∃ n:Nat,k=n:=⟨k.toNat,by omega⟩
  obtain rfl:tn=0:=by omega
  obtain rfl:un=0:=by omega
  obtain rfl:kn=0:=by omega
  obtain rfl:pl=0:=by omega
  exact draftsR_16 dn sn an (by omega) (by omega) (by omega)
 ·skip
  have hr:=right_17 d s t u a k pl 1073741824 hd hs ht hu ha k0 k1
  rw[h] at hr
  simp[eqI] at hr
  obtain⟨dn,rfl⟩:∃ n:Nat,d=n:=⟨d.toNat,by omega⟩
  obtain⟨sn,rfl⟩:∃ n:Nat,s=n:=⟨s.toNat,by omega⟩
  obtain⟨tn,rfl⟩:∃ n:Nat,t=n:=⟨t.toNat,by omega⟩
  obtain⟨un,rfl⟩:∃ n:Nat,u=n:=⟨u.toNat,by omega⟩
  obtain⟨an,rfl⟩:∃ n:Nat,a=n:=⟨a.toNat,by omega⟩
  obtain⟨kn,rfl⟩:∃ n:Nat,k=n:=⟨k.toNat,by omega⟩
  obtain rfl:dn=0:=by omega
  obtain rfl:un=0:=by omega
  obtain rfl:kn=0:=by omega
  obtain rfl:pl=0:=by omega
  exact draftsR_17 sn tn an (by omega) (by omega) (by omega)
 ·skip
  have hr:=right_18 d s t u a k pl 1073741824 hd hs ht hu ha k0 k1
  rw[h] at hr
  simp[eqI] at hr
  obtain⟨dn,rfl⟩:∃ n:Nat,d=n:=⟨d.toNat,by omega⟩
  obtain⟨sn,rfl⟩:∃ n:Nat,s=n:=⟨s.toNat,by omega⟩
  obtain⟨tn,rfl⟩:∃ n:Nat,t=n:=⟨t.toNat,by omega⟩
  obtain⟨un,rfl⟩:∃ n:Nat,u=n:=⟨u.toNat,by omega⟩
  obtain⟨an,rfl⟩:∃ n:Nat,a=n:=⟨a.toNat,by omega⟩
  obtain⟨kn,rfl⟩:∃ n:Nat,k=n:=⟨k.toNat,by omega⟩
  obtain rfl:un=0:=by omega
  obtain rfl:kn=0:=by omega
  obtain rfl:pl=0:=by omega
  exact draftsR_18 dn sn tn an (by omega) (by omega) (by omega) (by omega)
 ·skip
  have hr:=right_19 d s t u a k pl 1073741824 hd hs ht hu ha k0 k1
  rw[h] at hr
  simp[eqI] at hr
  obtain⟨dn,rfl⟩:∃ n:Nat,d=n:=⟨d.toNat,by omega⟩
  obtain⟨sn,rfl⟩:∃ n:Nat,s=n:=⟨s.toNat,by omega⟩
  obtain⟨tn,rfl⟩:∃ n:Nat,t=n:=⟨t.toNat,by omega⟩
  obtain⟨un,rfl⟩:∃ n:Nat,u=n:=⟨u.toNat,by omega⟩
  obtain⟨an,rfl⟩:∃ n:Nat,a=n:=⟨a.toNat,by omega⟩
  obtain⟨kn,rfl⟩:∃ n:Nat,k=n:=⟨k.toNat,by omega⟩
  obtain rfl:kn=0:=by omega
  obtain rfl:pl=0:=by omega
  exact draftsR_19 dn sn tn un an (by omega) (by omega) (by omega) (by omega) (by omega)
 ·skip
  have hr:=right_20 d s t u a k pl 1073741824 hd hs ht hu ha k0 k1
  rw[h] at hr
  simp[eqI] at hr
  obtain⟨dn,rfl⟩:∃ n:Nat,d=n:=⟨d.toNat,by omega⟩
  obtain⟨sn,rfl⟩:∃ n:Nat,s=n:=⟨s.toNat,by omega⟩
  obtain⟨tn,rfl⟩:∃ n:Nat,t=n:=⟨t.toNat,by omega⟩
  obtain⟨un,rfl⟩:∃ n:Nat,u=n:=⟨u.toNat,by omega⟩
  obtain⟨an,rfl⟩:∃ n:Nat,a=n:=⟨a.toNat,by omega⟩
  obtain⟨kn,rfl⟩:∃ n:Nat,k=n:=⟨k.toNat,by omega⟩
  obtain rfl:tn=0:=by omega
  obtain rfl:un=0:=by omega
  obtain rfl:pl=0:=by omega
  exact draftsR_20 dn sn an kn (by omega) (by omega) (by omega) (by omega)
 ·skip
  have hr:=right_21 d s t u a k pl 1073741824 hd hs ht hu ha k0 k1
  rw[h] at hr
  simp[eqI] at hr
  obtain⟨dn,rfl⟩:∃ n:Nat,d=n:=⟨d.toNat,by omega⟩
  obtain⟨sn,rfl⟩:∃ n:Nat,s=n:=⟨s.toNat,by omega⟩
  obtain⟨tn,rfl⟩:∃ n:Nat,t=n:=⟨t.toNat,by omega⟩
  obtain⟨un,rfl⟩:∃ n:Nat,u=n:=⟨u.toNat,by omega⟩
  obtain⟨an,rfl⟩:∃ n:Nat,a=n:=⟨a.toNat,by omega⟩
  obtain⟨kn,rfl⟩:∃ n:Nat,k=n:=⟨k.toNat,by omega⟩
  obtain rfl:un=0:=by omega
  by_cases hm:pl=-1
  ·subst hm
   by_cases hk:kn=0
   ·subst hk;exact draftsR_21_0m dn sn tn an 0 (by omega) (by omega) (by omega) (by omega) (by omega)
   ·obtain rfl:kn=1:=by omega
    exact draftsR_21_1m dn sn tn an 0 (by omega) (by omega) (by omega) (by omega) (by omega)
  ·obtain⟨pn,rfl⟩:∃ n:Nat,pl=n:=⟨pl.toNat,by omega⟩
   by_cases hk:kn=0
   ·subst hk;exact draftsR_21_0p dn sn tn an pn (by omega) (by omega) (by omega) (by omega) (by omega)
   ·obtain rfl:kn=1:=by omega
    exact draftsR_21_1p dn sn tn an pn (by omega) (by omega) (by omega) (by omega) (by omega)
 ·skip
  have hr:=right_22 d s t u a k pl 1073741824 hd hs ht hu ha k0 k1
  rw[h] at hr
  simp[eqI] at hr
  obtain⟨dn,rfl⟩:∃ n:Nat,d=n:=⟨d.toNat,by omega⟩
  obtain⟨sn,rfl⟩:∃ n:Nat,s=n:=⟨s.toNat,by omega⟩
  obtain⟨tn,rfl⟩:∃ n:Nat,t=n:=⟨t.toNat,by omega⟩
  obtain⟨un,rfl⟩:∃ n:Nat,u=n:=⟨u.toNat,by omega⟩
  obtain⟨an,rfl⟩:∃ n:Nat,a=n:=⟨a.toNat,by omega⟩
  obtain⟨kn,rfl⟩:∃ n:Nat,k=n:=⟨k.toNat,by omega⟩
  obtain rfl:sn=0:=by omega
  obtain rfl:tn=0:=by omega
  obtain rfl:un=0:=by omega
  obtain rfl:an=0:=by omega
  obtain rfl:kn=0:=by omega
  obtain rfl:pl=0:=by omega
  exact draftsR_22 dn (by omega)
 ·skip
  have hr:=right_23 d s t u a k pl 1073741824 hd hs ht hu ha k0 k1
  rw[h] at hr
  simp[eqI] at hr
  obtain⟨dn,rfl⟩:∃ n:Nat,d=n:=⟨d.toNat,by omega⟩
  obtain⟨sn,rfl⟩:∃ n:Nat,s=n:=⟨s.toNat,by omega⟩
  obtain⟨tn,rfl⟩:∃ n:Nat,t=n:=⟨t.toNat,by omega⟩
  obtain⟨un,rfl⟩:∃ n:Nat,u=n:=⟨u.toNat,by omega⟩
  obtain⟨an,rfl⟩:∃ n:Nat,a=n:=⟨a.toNat,by omega⟩
  obtain⟨kn,rfl⟩:∃ n:Nat,k=n:=⟨k.toNat,by omega⟩
  obtain rfl:dn=0:=by omega
  obtain rfl:tn=0:=by omega
  obtain rfl:un=0:=by omega
  obtain rfl:an=0:=by omega
  obtain rfl:kn=0:=by omega
  obtain rfl:pl=0:=by omega
  exact draftsR_23 sn (by omega)
 ·exfalso
  unfold rightB at h
  simp only[(hs_none hn).1] at h
  cases h
theorem parseR_text (i:Ins)(h:rightB i 1073741824=true)(k0:0≤i.k)(k1:i.k < 4294967296):parseRB (textL i)=true:=by
 obtain⟨h1,h2⟩:=draftR_text i h k0 k1
 unfold parseRB
 rw[h1,h2,h]
 simp
end Go.Proofs.YthdgehcghklflaaGreatDoor
namespace Go.Proofs.YthdgehcghklflaaGreatDoor
open Go.ChangeShapes Go.WideShapes Go.ChangeAt Go.RowKit
set_option maxHeartbeats 2000000 in
theorem rRightP (c:Prg)(v:Value)(w:World)(hv:Pv w v c)(hw:∀ i∈c.l,i.Wf):
 Calls Tryz.prog 33 #[v] w fun e w'=>e=.returned (.bool (prgB c))∧Below w.heap.size w w':=by
 obtain⟨a,ca,rfl,hc1,hc2,_,ha⟩:=hv
 have k1:=Bk.made w 35 #[.slice a c.l.length ca,.int .i64 c.lo,.int .i64 c.un]
 have b0:Below w.heap.size w (w.alloc (.cells #[.slice a c.l.length ca,.int .i64 c.lo,.int .i64 c.un] 35)):=(Below.refl _ _).alloc (Nat.le_refl _) _
 replace ha:=ha.below b0
 go_enter Tryz.func33,Tryz.ntmps33
 go_upto_region 1 with fail
 generalize w.alloc (.cells #[.slice a c.l.length ca,.int .i64 c.lo,.int .i64 c.un] 35)=x at *
 obtain⟨x0,x1,x2⟩:x.cell? ⟨w.heap.size,0,none⟩=some (.slice a c.l.length ca)∧x.cell? ⟨w.heap.size,1,none⟩=some (.int .i64 c.lo)∧x.cell? ⟨w.heap.size,2,none⟩=some (.int .i64 c.un):=⟨k1.cell 0,k1.cell 1,k1.cell 2⟩
 by_cases h1:1≤c.l.length
 case neg=>
  have HF:=Lib.hid (prgB_few (c:=c) (by omega))
  have i1:(c.l.length:Int) < 1:=by omega
  go_wp2
  go_ret
  exact⟨by rw[HF.out];rfl,b0⟩
 case pos=>
  have i1:¬ (c.l.length:Int) < 1:=by omega
  by_cases h2:c.l.length≤64
  case neg=>
   have HF:=Lib.hid (prgB_few (c:=c) (by omega))
   have i2:(64:Int) < c.l.length:=by omega
   go_wp2
   go_ret
   exact⟨by rw[HF.out];rfl,b0⟩
  case pos=>
   have i2:¬ (64:Int) < c.l.length:=by omega
   have HP:=Lib.hid (prgB_is c h1 h2)
   by_cases hb1:c.lo < 0∨c.un < 0∨(c.l.length:Int)≤c.lo∨(c.l.length:Int)≤c.un
   case pos=>
    have HF:Hid (prgB c=false):=Lib.hid (by
     rw[HP.out]
     have:((decide (0≤c.lo) && decide (c.lo < c.l.length)) && (decide (0≤c.un) && decide (c.un < c.l.length)))=false:=by
      simp only[Bool.and_eq_false_iff,decide_eq_false_iff_not]
      omega
     rw[this];simp)
    generalize c.lo=lo at *
    generalize c.un=un at *
    clear HP
    by_cases z1:lo < 0
    ·clear hb1;go_wp2;go_ret;exact⟨by rw[HF.out];rfl,b0⟩
    by_cases z2:un < 0
    ·clear hb1;go_wp2;go_ret;exact⟨by rw[HF.out];rfl,b0⟩
    by_cases z3:(c.l.length:Int)≤lo
    ·clear hb1;go_wp2;go_ret;exact⟨by rw[HF.out];rfl,b0⟩
    have z4:(c.l.length:Int)≤un:=by omega
    clear hb1;go_wp2;go_ret;exact⟨by rw[HF.out];rfl,b0⟩
   have z1:¬ c.lo < 0:=by omega
   have z2:¬ c.un < 0:=by omega
   have z3:¬ (c.l.length:Int)≤c.lo:=by omega
   have z4:¬ (c.l.length:Int)≤c.un:=by omega
   have HP2:Hid (prgB c=(c.l.all fun i=>rightB i c.l.length)):=Lib.hid (by
    rw[HP.out]
    have:((decide (0≤c.lo) && decide (c.lo < c.l.length)) && (decide (0≤c.un) && decide (c.un < c.l.length)))=true:=by
     simp only[Bool.and_eq_true,decide_eq_true_eq]
     omega
    rw[this];simp)
   clear HP hb1
   go_wp2
   go_loopw [2,40] (fun q i wr=>∃ k:Nat,q=.bool false∧i=.int .i64 k∧k≤c.l.length∧Below x.heap.size x wr∧Hid (∀ j i,c.l[j]?=some i→j < k→rightB i c.l.length=true)) (fun _ i _=>c.l.length - (intOf i).toNat)
   case atStart=>exact⟨0,rfl,rfl,Nat.zero_le _,Below.refl _ _,Lib.hid (fun _ _ _ h=>by omega)⟩
   case round=>
    obtain⟨k,rfl,rfl,hk,hb,HA⟩:=hrel
    have hbw:=b0.trans (hb.mono b0.size)
    by_cases hlt:k < c.l.length
    ·have hki:(k:Int) < c.l.length:=by omega
     have hge:=List.getElem?_eq_getElem hlt
     obtain⟨g,off,rfl,hgl,e0,e1,e2,e3,e4,e5,e6,e7⟩:=(ha.below hb).at_ hge
     have hWf:=hw _ (List.getElem_mem hlt)
     have HG:=Lib.hid hge
     clear hge
     generalize c.l[k]=i at *
     have HR:=Lib.hid (fun W=>rRight i (c.l.length:Int) hWf.k0 hWf.k1 W)
     obtain⟨op,d,s,t,u,a',k',pl⟩:=i
     simp only at e0 e1 e2 e3 e4 e5 e6 e7
     go_upto_region 7 with fail
     have m2:=Jb.made wr op d s t u a' k' pl
     replace hb:=hb.alloc (o:=.cells #[.int .i64 op,.int .i64 d,.int .i64 s,.int .i64 t,.int .i64 u,.int .i64 a',.int .u32 k',.int .i64 pl] 125) hb.size
     clear e0 e1 e2 e3 e4 e5 e6 e7 hbw
     generalize wr.heap.size=q at *
     generalize wr.alloc (.cells #[.int .i64 op,.int .i64 d,.int .i64 s,.int .i64 t,.int .i64 u,.int .i64 a',.int .u32 k',.int .i64 pl] 125)=y at *
     have hbw:=b0.trans (hb.mono b0.size)
     obtain⟨e0,e1,e2,e3,e4,e5,e6,e7⟩:=m2.cells
     simp only at e0 e1 e2 e3 e4 e5 e6 e7
     go_wp2_with fail
     refine(HR.out y).mono ?_
     rintro e z ⟨rfl,hz⟩
     replace hb:=hb.trans (hz.mono hb.size)
     replace hbw:=hbw.trans (hz.mono hbw.size)
     cases hq:rightB ⟨op,d,s,t,u,a',k',pl⟩ c.l.length with
     | true=>
      have HA2:Hid (∀ j i,c.l[j]?=some i→j < k+1→rightB i c.l.length=true):=Lib.hid fun j i hj hjk=>by
       by_cases e:j=k
       ·subst e
        rw[HG.out] at hj
        injection hj with hj
        subst hj
        exact hq
       ·exact HA.out j i hj (by omega)
      clear hq HA HR HG
      go_wp2
      go_roundw
      case rel=>exact⟨k+1,rfl,by go_num,by omega,hb,HA2⟩
      case measure=>
       show c.l.length - ((k:Int)+1).toNat < c.l.length - (k:Int).toNat
       omega
     | false=>
      have HQ:Hid (prgB c=false):=Lib.hid (by
       rw[HP2.out]
       have:(c.l.all fun i=>rightB i c.l.length)=false:=by
        rw[List.all_eq_false]
        exact⟨_,List.mem_of_getElem? HG.out,by rw[hq];simp⟩
       rw[this])
      clear hq HA HR HG
      go_wp2
      go_ret
      exact⟨by rw[HQ.out];rfl,hbw⟩
    ·have hki:¬ (k:Int) < c.l.length:=by omega
     have hall:(c.l.all fun i=>rightB i c.l.length)=true:=by
      rw[List.all_eq_true]
      intro i hi
      obtain⟨j,hj,rfl⟩:=List.getElem_of_mem hi
      exact HA.out j _ (List.getElem?_eq_getElem hj) (by omega)
     have HQ:Hid (prgB c=true):=Lib.hid (by rw[HP2.out,hall])
     clear HA hall
     go_wp2
     go_ret
     exact⟨by rw[HQ.out];rfl,hbw⟩
end Go.Proofs.YthdgehcghklflaaGreatDoor
