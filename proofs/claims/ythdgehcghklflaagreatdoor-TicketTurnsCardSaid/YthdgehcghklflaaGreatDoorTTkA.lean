import Derived.Test.YthdgehcghklflaaGreatDoorTTkD
import Derived.Test.YthdgehcghklflaaGreatDoorTAsmM
import Derived.Test.YthdgehcghklflaaGreatDoorTAsmF
import Derived.Test.YthdgehcghklflaaGreatDoorTAsmRb
import Derived.Test.YthdgehcghklflaaGreatDoorTRuE
import Derived.Test.YthdgehcghklflaaGreatDoorTFfS
import Derived.Test.YthdgehcghklflaaGreatDoorTAsmD
import Derived.Test.YthdgehcghklflaaGreatDoorTRefP
import Derived.Test.YthdgehcghklflaaGreatDoorTWdA
set_option linter.unusedVariables false
namespace Go.Proofs.YthdgehcghklflaaGreatDoor
set_option maxRecDepth 100000
open Go.ChangeShapes Go.WideShapes Go.ChangeAt Go.RowKit
theorem tk_asmC (w:World)(L:Lb w):Calls Tryz.prog 27 #[bs tkText] w (AsmC w):=by
 have h:=cAssemble tkText tk_small w L
 unfold Asmd at h
 rw[tk_asm] at h
 exact h
theorem tk_asmD (w:World):Calls Tryz.prog 28 #[bs tkText] w (AsmD w):=by
 have h:=rAssemble tkText tk_small w
 unfold Asmr at h
 rw[tk_asm] at h
 refine h.mono ?_
 rintro e w' ⟨v,h1,⟨sl,rfl,ho⟩,h3⟩
 exact⟨sl,h1,ho,h3⟩
theorem cSpec (N:Nat)(st:Int)(w:World)(L:Lb w)(h1:1≤N)(h64:N≤64)(h0:0≤st)(h2:st < 4294967296):
 Calls Tryz.prog 8 #[.int .i64 N,.int .u32 st] w fun e w'=>∃ v,e=.returned (.tuple #[v,.int .i64 0])∧Sv w' v tkP [1,1] [st,st] (tkR N) 0∧Below w.heap.size w w':=
 cSpecW N st w h1 h64 h0 h2 (fun W hW=>tk_asmC W (L.below hW))
theorem rSpec (N:Nat)(st:Int)(w:World)(h1:1≤N)(h64:N≤64)(h0:0≤st)(h2:st < 4294967296):
 Calls Tryz.prog 9 #[.int .i64 N,.int .u32 st] w fun e w'=>∃ v,e=.returned (.tuple #[v,.bool true])∧Rv w.heap.size w' v tkP [1,1] [st,st] (tkR N) 0∧Below w.heap.size w w':=
 rSpecW N st w h1 h64 h0 h2 tk_asmD
def spZ:Value:=.agg #[.slice none 0 0,.int .i64 0,.int .i64 0,.slice none 0 0,.slice none 0 0,.int .i64 0,.slice none 0 0]
theorem rSpecNo (n st:Int)(w:World)(hn:¬ (1≤n∧n≤64)):
 Calls Tryz.prog 9 #[.int .i64 n,.int .u32 st] w fun e w'=>e=.returned (.tuple #[spZ,.bool false])∧Below w.heap.size w w':=by
 have b0:Below w.heap.size w (w.alloc (.cells #[.slice none 0 0,.int .i64 0,.int .i64 0,.slice none 0 0,.slice none 0 0,.int .i64 0,.slice none 0 0] 37)):=(Below.refl _ _).alloc (Nat.le_refl _) _
 unfold spZ
 have q0:=Bk.made w 37 #[.slice none 0 0,.int .i64 0,.int .i64 0,.slice none 0 0,.slice none 0 0,.int .i64 0,.slice none 0 0]
 by_cases h1:n < 1
 ·go_enter Tryz.func9,Tryz.ntmps9
  go_upto_region 2 with fail
  generalize w.alloc (.cells #[.slice none 0 0,.int .i64 0,.int .i64 0,.slice none 0 0,.slice none 0 0,.int .i64 0,.slice none 0 0] 37)=y at *
  have KK:=Lib.hid (And.intro (put7_bk q0 (.slice none 0 0) (.int .i64 0) (.int .i64 0) (.slice none 0 0) (.slice none 0 0) (.int .i64 0) (.slice none 0 0)) (put7_below b0 (Nat.le_refl _) (.slice none 0 0) (.int .i64 0) (.int .i64 0) (.slice none 0 0) (.slice none 0 0) (.int .i64 0) (.slice none 0 0)))
  obtain⟨y0,y1,y2,y3,y4,y5,y6⟩:y.cell? ⟨w.heap.size,0,none⟩=some (.slice none 0 0)∧y.cell? ⟨w.heap.size,1,none⟩=some (.int .i64 0)∧y.cell? ⟨w.heap.size,2,none⟩=some (.int .i64 0)∧y.cell? ⟨w.heap.size,3,none⟩=some (.slice none 0 0)∧y.cell? ⟨w.heap.size,4,none⟩=some (.slice none 0 0)∧y.cell? ⟨w.heap.size,5,none⟩=some (.int .i64 0)∧y.cell? ⟨w.heap.size,6,none⟩=some (.slice none 0 0):=⟨q0.cell 0,q0.cell 1,q0.cell 2,q0.cell 3,q0.cell 4,q0.cell 5,q0.cell 6⟩
  have zf:=Bk.free q0
  clear q0 b0
  go_wp
  clear y0 y1 y2 y3 y4 y5 y6 zf
  generalize hv:(((((((y.setCell ⟨w.heap.size,0,none⟩ (.slice none 0 0)).setCell ⟨w.heap.size,1,none⟩ (.int .i64 0)).setCell ⟨w.heap.size,2,none⟩ (.int .i64 0)).setCell ⟨w.heap.size,3,none⟩ (.slice none 0 0)).setCell ⟨w.heap.size,4,none⟩ (.slice none 0 0)).setCell ⟨w.heap.size,5,none⟩ (.int .i64 0)).setCell ⟨w.heap.size,6,none⟩ (.slice none 0 0))=x9
  replace hv:put7 y w.heap.size (.slice none 0 0) (.int .i64 0) (.int .i64 0) (.slice none 0 0) (.slice none 0 0) (.int .i64 0) (.slice none 0 0)=x9:=hv
  rw[hv] at KK
  obtain⟨hq,b9⟩:=KK.out
  obtain⟨y0,y1,y2,y3,y4,y5,y6⟩:x9.cell? ⟨w.heap.size,0,none⟩=some (.slice none 0 0)∧x9.cell? ⟨w.heap.size,1,none⟩=some (.int .i64 0)∧x9.cell? ⟨w.heap.size,2,none⟩=some (.int .i64 0)∧x9.cell? ⟨w.heap.size,3,none⟩=some (.slice none 0 0)∧x9.cell? ⟨w.heap.size,4,none⟩=some (.slice none 0 0)∧x9.cell? ⟨w.heap.size,5,none⟩=some (.int .i64 0)∧x9.cell? ⟨w.heap.size,6,none⟩=some (.slice none 0 0):=⟨hq.cell 0,hq.cell 1,hq.cell 2,hq.cell 3,hq.cell 4,hq.cell 5,hq.cell 6⟩
  exact bodyPost_ret (v:=.tuple #[.agg #[.slice none 0 0,.int .i64 0,.int .i64 0,.slice none 0 0,.slice none 0 0,.int .i64 0,.slice none 0 0],.bool false]) (by simp[results,Tryz.results9,go_sem,y0,y1,y2,y3,y4,y5,y6]) rfl ⟨rfl,b9⟩
 ·have h2:64 < n:=by omega
  clear hn
  go_enter Tryz.func9,Tryz.ntmps9
  go_upto_region 2 with fail
  generalize w.alloc (.cells #[.slice none 0 0,.int .i64 0,.int .i64 0,.slice none 0 0,.slice none 0 0,.int .i64 0,.slice none 0 0] 37)=y at *
  have KK:=Lib.hid (And.intro (put7_bk q0 (.slice none 0 0) (.int .i64 0) (.int .i64 0) (.slice none 0 0) (.slice none 0 0) (.int .i64 0) (.slice none 0 0)) (put7_below b0 (Nat.le_refl _) (.slice none 0 0) (.int .i64 0) (.int .i64 0) (.slice none 0 0) (.slice none 0 0) (.int .i64 0) (.slice none 0 0)))
  obtain⟨y0,y1,y2,y3,y4,y5,y6⟩:y.cell? ⟨w.heap.size,0,none⟩=some (.slice none 0 0)∧y.cell? ⟨w.heap.size,1,none⟩=some (.int .i64 0)∧y.cell? ⟨w.heap.size,2,none⟩=some (.int .i64 0)∧y.cell? ⟨w.heap.size,3,none⟩=some (.slice none 0 0)∧y.cell? ⟨w.heap.size,4,none⟩=some (.slice none 0 0)∧y.cell? ⟨w.heap.size,5,none⟩=some (.int .i64 0)∧y.cell? ⟨w.heap.size,6,none⟩=some (.slice none 0 0):=⟨q0.cell 0,q0.cell 1,q0.cell 2,q0.cell 3,q0.cell 4,q0.cell 5,q0.cell 6⟩
  have zf:=Bk.free q0
  clear q0 b0
  go_wp
  clear y0 y1 y2 y3 y4 y5 y6 zf
  generalize hv:(((((((y.setCell ⟨w.heap.size,0,none⟩ (.slice none 0 0)).setCell ⟨w.heap.size,1,none⟩ (.int .i64 0)).setCell ⟨w.heap.size,2,none⟩ (.int .i64 0)).setCell ⟨w.heap.size,3,none⟩ (.slice none 0 0)).setCell ⟨w.heap.size,4,none⟩ (.slice none 0 0)).setCell ⟨w.heap.size,5,none⟩ (.int .i64 0)).setCell ⟨w.heap.size,6,none⟩ (.slice none 0 0))=x9
  replace hv:put7 y w.heap.size (.slice none 0 0) (.int .i64 0) (.int .i64 0) (.slice none 0 0) (.slice none 0 0) (.int .i64 0) (.slice none 0 0)=x9:=hv
  rw[hv] at KK
  obtain⟨hq,b9⟩:=KK.out
  obtain⟨y0,y1,y2,y3,y4,y5,y6⟩:x9.cell? ⟨w.heap.size,0,none⟩=some (.slice none 0 0)∧x9.cell? ⟨w.heap.size,1,none⟩=some (.int .i64 0)∧x9.cell? ⟨w.heap.size,2,none⟩=some (.int .i64 0)∧x9.cell? ⟨w.heap.size,3,none⟩=some (.slice none 0 0)∧x9.cell? ⟨w.heap.size,4,none⟩=some (.slice none 0 0)∧x9.cell? ⟨w.heap.size,5,none⟩=some (.int .i64 0)∧x9.cell? ⟨w.heap.size,6,none⟩=some (.slice none 0 0):=⟨hq.cell 0,hq.cell 1,hq.cell 2,hq.cell 3,hq.cell 4,hq.cell 5,hq.cell 6⟩
  exact bodyPost_ret (v:=.tuple #[.agg #[.slice none 0 0,.int .i64 0,.int .i64 0,.slice none 0 0,.slice none 0 0,.int .i64 0,.slice none 0 0],.bool false]) (by simp[results,Tryz.results9,go_sem,y0,y1,y2,y3,y4,y5,y6]) rfl ⟨rfl,b9⟩
set_option maxHeartbeats 1000000 in
theorem lAwake14 (w:World)(L:Lb w):Calls Tryz.prog 12 #[] w fun e w'=>e=.returned (.bool true)∧Below w.heap.size w w':=by
 have HP:=Lib.hid (cSpec 2 5 w L (by decide) (by decide) (by decide) (by decide))
 go_enter Tryz.func12,Tryz.ntmps12
 go_wp2_with fail
 refine HP.out.mono ?_
 rintro e x ⟨v,rfl,⟨aL,cL,aS,cS,aI,cI,aR,cR,rfl,-⟩,hx⟩
 have hb:Below w.heap.size w (x.alloc (.cells #[.slice aL tkP.l.length cL,.int .i64 tkP.lo,.int .i64 tkP.un,.slice aS 2 cS,.slice aI 2 cI,.int .i64 0,.slice aR 2 cR] 29)):=hx.alloc hx.size _
 have hK:=Bk.made x 29 #[.slice aL tkP.l.length cL,.int .i64 tkP.lo,.int .i64 tkP.un,.slice aS 2 cS,.slice aI 2 cI,.int .i64 0,.slice aR 2 cR]
 rw[show tkP.l.length=9 from rfl,show tkP.lo=0 from rfl,show tkP.un=5 from rfl] at *
 rw[show ([1,1]:List Int).length=2 from rfl,show ([5,5]:List Int).length=2 from rfl,show (tkR 2).length=2 from rfl]
 clear HP hx
 go_upto_region 2 with fail
 generalize x.heap.size=q at *
 generalize x.alloc (.cells #[.slice aL 9 cL,.int .i64 0,.int .i64 5,.slice aS 2 cS,.slice aI 2 cI,.int .i64 0,.slice aR 2 cR] 29)=y at *
 obtain⟨y0,y6⟩:y.cell? ⟨q,0,none⟩=some (.slice aL 9 cL)∧y.cell? ⟨q,6,none⟩=some (.slice aR 2 cR):=⟨hK.cell 0,hK.cell 6⟩
 clear hK
 go_wp2
 go_ret
 exact⟨rfl,hb⟩
end Go.Proofs.YthdgehcghklflaaGreatDoor
namespace Go.Proofs.YthdgehcghklflaaGreatDoor
set_option maxRecDepth 100000
open Go.Joins Go.ChangeShapes Go.WideShapes Go.ChangeAt Go.RowKit Go.Deep
theorem below_win {B base:Nat}{w A A':World}(h:Below B w A)(hA:Within A A' (fun i=>base≤i))(hB:B≤base)(hw:B≤w.heap.size):Below B w A':=
 ⟨hA.os.trans h.os,hA.tape.trans h.tape,hA.output.trans h.output,Nat.le_trans h.size hA.size,fun i hi=>(hA.block i (Nat.lt_of_lt_of_le hi (Nat.le_trans hw h.size)) (by omega)).trans (h.block i hi)⟩
theorem tk_steps {n:Nat}:StepOk (tkK n):=step_plain (by show tkL.all PlainI=true;decide)
theorem tk_okS {n:Nat}{st:Int}(h1:1≤n)(hn:n≤64):OkSv tkP [1,1] [st,st] (tkR n) 0 n where
 rz:=(tk_ok h1 hn).zs
 few:=by show tot [1,1]≤8192;decide
 len:=by show 2=tot [1,1];decide
 n1:=by omega
 n64:=by omega
 e0:=by omega
 e8:=by omega
 rl:=by rw[tkR_len]
 code:=tk_right
end Go.Proofs.YthdgehcghklflaaGreatDoor
