import Derived.Test.YthdgehcghklflaaGreatDoorTAsmD
set_option linter.unusedVariables false
namespace Go.Proofs.YthdgehcghklflaaGreatDoor
set_option maxRecDepth 100000
open Go.ChangeShapes Go.WideShapes Go.ChangeAt Go.RowKit
theorem run_appW {W:World}{cap0:Nat}{a0:Option Addr}{xs:List Int}(h:Given .u32 W a0 xs)(hm:xs.length≤100000):
 ∃ v' W',(Builtin.append_ #[27,27] 27 #[.slice none 0 0,.slice a0 xs.length cap0]).run Tryz.prog W=.ok v' W'∧Lst .u32 22 W' v' xs∧Below W.heap.size W W'∧∀ g,v'.ownBlock=some g→W.heap.size≤g:=by
 obtain⟨i0,hi0,hz0,hz1,hz2⟩:=info_parts u32info
 by_cases h0:xs=[]
 ·subst h0
  refine⟨.slice none 0 0,W,?_,Lst.nil _ _ _,Below.refl _ _,fun g e=>by cases e⟩
  have hu:Tryz.prog.underlying 27=some (.slice 22):=Tryz.underlying27
  have hl:∀ (x:Addr),(loadCells x 0).run Tryz.prog W=.ok #[] W:=fun x=>by simpa using run_loadCells_list (P:=Tryz.prog) W x [] (by simp)
  cases a0 <;> simp[Builtin.append_,run_underlying hu,sizeOf,typeInfo,hi0,Builtin.lenOf,Builtin.firstCells,hl]
 ·obtain⟨b',off,rfl,hlt,hc⟩:=h (List.length_pos_iff.2 h0)
  obtain⟨v',W',hr,ho,hg,_⟩:=run_append_own (P:=Tryz.prog) W W.heap.size 27 27 22 i0 _ 1 4 Tryz.underlying27 hi0 hz0 hz1 hz2 rfl (by omega) (.slice none 0 0) 0 [] (World.ownsRow_nil _ _ _ _) ⟨b',off,none⟩ xs.length cap0 (xs.map (Value.int .u32)) (by simp) (given_add hc) (by intro u hu;simp at hu;obtain⟨x,_,rfl⟩:=hu;rfl) (by unfold maxLen;omega) (by omega) (Nat.le_refl _)
  rw[Nat.zero_add,List.nil_append] at ho
  exact⟨v',W',hr,World.ownsRow.mono (base':=0) ho (Nat.zero_le _),below_of_grown hg,fun g e=>(World.ownsRow.lt ho g e).1⟩
structure NwY (w:World)(base:Nat)(k:Lk)(Y:YP)(ws:List Int)(cs:Nat→Cor)(j:Nat)(W:World):Prop where
 ptr:Bk W Y.y 91 #[Y.cv,.int .i64 k.lo,.int .i64 k.un,Y.cl,Y.wl,.pointer (some ⟨Y.x,0,none⟩),Y.kl,.int .i64 Y.ac]
 code:W.ownsRow 0 125 8 Y.cv k.l.length (progC k.l)
 cells:Cs 0 W Y.cl (cels k.zs)
 words:Lst .u32 22 W Y.wl ws
 pool:Rf W Y.x k.n k.each Y.R (newN k.n k.each).free (newN k.n k.each).gen (newN k.n k.each).out
 cores:W.ownsRow w.heap.size 112 9 Y.kl j (coresR cs j)
 gr:Below w.heap.size w W
 newy:w.heap.size≤Y.y
 new:∀ i,Y.Own k.n i→base≤i∧(Y.cv.ownBlock=some i∨w.heap.size≤i)
section
variable {w W W':World}{base:Nat}{k:Lk}{Y:YP}{ws:List Int}{cs:Nat→Cor}{j:Nat}
theorem NwY.kept (h:NwY w base k Y ws cs j W){S:Nat→Prop}(hw:Within W W' S)(hn:∀ i,S i→w.heap.size≤i)(h1:¬ S Y.y)(h2:∀ g,Y.cv.ownBlock=some g→¬ S g)(h3:∀ g,Y.cl.ownBlock=some g→¬ S g)(h4:∀ g,Y.wl.ownBlock=some g→¬ S g)(h5:¬ S Y.x)(h6:∀ g,Y.kl.ownBlock=some g→¬ S g)(h7:∀ i,Y.R.Has k.n i→¬ S i):NwY w base k Y ws cs j W':=
 ⟨h.ptr.within hw h1,own_within h.code hw h2,h.cells.within hw h3,h.words.within hw h4,h.pool.kept hw h5 h7,own_within h.cores hw h6,
  ⟨hw.os.trans h.gr.os,hw.tape.trans h.gr.tape,hw.output.trans h.gr.output,Nat.le_trans h.gr.size hw.size,fun i hi=>(hw.block i (Nat.lt_of_lt_of_le hi h.gr.size) (fun e=>by have:=hn i e;omega)).trans (h.gr.block i hi)⟩,h.newy,h.new⟩
theorem NwY.below (h:NwY w base k Y ws cs j W)(hb:Below W.heap.size W W'):NwY w base k Y ws cs j W':=
 h.kept (within_of_below hb) (by simp) (by simp) (by simp) (by simp) (by simp) (by simp) (by simp) (by simp)
theorem NwY.words_ (h:NwY w base k Y [] cs j W){v:Value}(hl:Lst .u32 22 W v ws)(hn:∀ g,v.ownBlock=some g→base≤g∧w.heap.size≤g):NwY w base k { Y with wl:=v } ws cs j (W.setCell ⟨Y.y,4,none⟩ v):=by
 have hW:=reg_within W Y.y 4 v
 have far:∀ {g:Nat} {t:TypeId} {c:Array Value},Bk W g t c→t≠91→g≠Y.y:=fun hb ht e=>Bk.unlike hb h.ptr ht e
 refine⟨h.ptr.put 4 v,own_within h.code hW (fun g e=>?_),h.cells.within hW (fun g e=>?_),hl.within hW (fun g e=>?_),h.pool.kept hW (far h.pool.ptr (by decide)) (fun i hi e=>Rf.not_has h.pool h.ptr (by decide) (by decide) (e ▸ hi)),own_within h.cores hW (fun g e=>?_),
  h.gr.setCell (p:=⟨Y.y,4,none⟩) h.newy v,h.newy,fun i hi=>?_⟩
 ·obtain⟨c,hc⟩:=own_bk h.code e;exact far hc (by decide)
 ·obtain⟨c,hc⟩:=own_bk h.cells e;exact far hc (by decide)
 ·obtain⟨c,hc⟩:=hl.bk e;exact far hc (by decide)
 ·obtain⟨c,hc⟩:=own_bk h.cores e;exact far hc (by decide)
 ·rcases hi with e | e | e | e | e | e | e
  ·exact h.new i (.inl e)
  ·exact h.new i (.inr (.inl e))
  ·exact h.new i (.inr (.inr (.inl e)))
  ·exact⟨(hn i e).1,.inr (hn i e).2⟩
  ·exact h.new i (.inr (.inr (.inr (.inr (.inl e)))))
  ·exact h.new i (.inr (.inr (.inr (.inr (.inr (.inl e))))))
  ·exact h.new i (.inr (.inr (.inr (.inr (.inr (.inr e))))))
theorem NwY.grow (h:NwY w base k Y ws cs j W)(hg:W.grownBy W' Y.kl.ownBlock)(hn:∀ g,Y.kl.ownBlock=some g→w.heap.size≤g):
 Bk W' Y.y 91 #[Y.cv,.int .i64 k.lo,.int .i64 k.un,Y.cl,Y.wl,.pointer (some ⟨Y.x,0,none⟩),Y.kl,.int .i64 Y.ac]∧∀ v,W'.ownsRow w.heap.size 112 9 v (j+1) (coresR cs (j+1))→base≤w.heap.size→NwY w base k { Y with kl:=v } ws cs (j+1) (W'.setCell ⟨Y.y,6,none⟩ v):=by
 have hw:Within W W' (fun i=>Y.kl.ownBlock=some i):=.of_grown hg (fun i e=>.inl e)
 have far:∀ {g:Nat} {t:TypeId} {c:Array Value},Bk W g t c→t≠112→¬ Y.kl.ownBlock=some g:=fun hb ht e=>by
  obtain⟨c,hc⟩:=own_bk h.cores e
  exact Bk.unlike hb hc ht rfl
 have hp:=h.ptr.within hw (far h.ptr (by decide))
 refine⟨hp,fun v hv hbase=>?_⟩
 have hW:=reg_within W' Y.y 6 v
 have far2:∀ {g:Nat} {t:TypeId} {c:Array Value},Bk W' g t c→t≠91→g≠Y.y:=fun hb ht e=>Bk.unlike hb hp ht e
 have k1:W'.ownsRow 0 125 8 Y.cv k.l.length (progC k.l):=own_within h.code hw (fun g e=>by obtain⟨c,hc⟩:=own_bk h.code e;exact far hc (by decide))
 have k2:Cs 0 W' Y.cl (cels k.zs):=h.cells.within hw (fun g e=>by obtain⟨c,hc⟩:=own_bk h.cells e;exact far hc (by decide))
 have k3:Lst .u32 22 W' Y.wl ws:=h.words.within hw (fun g e=>by obtain⟨c,hc⟩:=h.words.bk e;exact far hc (by decide))
 have k4:=h.pool.kept hw (far h.pool.ptr (by decide)) (fun i hi=>by
  obtain⟨t,c,hb,ht⟩:=h.pool.bk hi
  exact far hb (by rcases ht with rfl | rfl <;> decide))
 refine⟨hp.put 6 v,own_within k1 hW (fun g e=>?_),k2.within hW (fun g e=>?_),k3.within hW (fun g e=>?_),k4.kept hW (far2 k4.ptr (by decide)) (fun i hi e=>Rf.not_has k4 hp (by decide) (by decide) (e ▸ hi)),own_within hv hW (fun g e=>?_),?_,h.newy,fun i hi=>?_⟩
 ·obtain⟨c,hc⟩:=own_bk k1 e;exact far2 hc (by decide)
 ·obtain⟨c,hc⟩:=own_bk k2 e;exact far2 hc (by decide)
 ·obtain⟨c,hc⟩:=k3.bk e;exact far2 hc (by decide)
 ·obtain⟨c,hc⟩:=own_bk hv e;exact far2 hc (by decide)
 ·have hb:Below w.heap.size w W':=⟨hw.os.trans h.gr.os,hw.tape.trans h.gr.tape,hw.output.trans h.gr.output,Nat.le_trans h.gr.size hw.size,fun i hi=>(hw.block i (Nat.lt_of_lt_of_le hi h.gr.size) (fun e=>by have:=hn i e;omega)).trans (h.gr.block i hi)⟩
  exact hb.setCell (p:=⟨Y.y,6,none⟩) h.newy v
 ·rcases hi with e | e | e | e | e | e | e
  ·exact h.new i (.inl e)
  ·exact h.new i (.inr (.inl e))
  ·exact h.new i (.inr (.inr (.inl e)))
  ·exact h.new i (.inr (.inr (.inr (.inl e))))
  ·exact h.new i (.inr (.inr (.inr (.inr (.inl e)))))
  ·exact⟨Nat.le_trans hbase (World.ownsRow.lt hv i e).1,.inr (World.ownsRow.lt hv i e).1⟩
  ·exact h.new i (.inr (.inr (.inr (.inr (.inr (.inr e))))))
theorem NwY.ey {init r7:List Int}(h:NwY w base k Y init (newM k init r7).cs k.n W)(hk:OkLk k)(hi:init.length=tot k.zs)(hiu:U32s init)(hru:U32s r7):Ey W Y k (newM k init r7):=by
 refine⟨h.ptr,h.code,h.cells,h.words,h.pool,⟨_,_,_,same_new k.n k.each hk.n64 hk.each⟩,own_zero h.cores,hk,⟨hiu,hi,fun t ht=>⟨rfl,?_⟩⟩⟩
 intro x hx
 simp only[newM,List.mem_cons,List.not_mem_nil,or_false] at hx
 have:=hru.at_ t
 omega
end
section
variable {w w' W W':World}{Y Y0 Y':YP}{k:Lk}{m m':Mc}{xs:List Int}{pc:Int}
theorem SI.pool (h:SI w Y0 k xs pc Y m W)(hz:w.heap.size+4≤W.heap.size)(e:Ey W' Y' k m')(s:YStays W k.n Y W' Y'):SI w Y0 k xs pc Y' m' W':=
 ⟨e,h.st.then_ s,h.q.within s.1 (fun e=>by have:=h.far _ e;omega),Bk.within h.c s.1 (fun e=>by have:=h.far _ e;omega),h.tr.within s.1 (fun e=>by have:=h.far _ e;omega),fun i hi=>by
  rcases s.2.1 i hi with q | q
  ·exact h.far i q
  ·exact .inr (by omega)⟩
theorem find_lt {zs:List Int}{area x:Int}{A:Nat}(h:findM zs area x=some A):A < tot zs:=by
 unfold findM at h
 split at h
 ·rename_i hc
  injection h with h
  obtain⟨B,rfl⟩:=Int.eq_ofNat_of_zero_le hc.1
  have:=pre_lt (zs:=zs) (a:=B) (p:=(x % 4096).toNat) (by omega) (by have:=hc.2.2;rw[Int.toNat_natCast] at this;omega)
  rw[Int.toNat_natCast] at h
  omega
 ·cases h
def So (W:World)(b A:Nat)(WR ST D:Int):Prop:=Bk W b 67 #[.slice none 0 0,.int .i64 D,.int .i64 A,.int .i64 WR,.int .i64 ST,.int .i64 0]
theorem So.cells {b A:Nat}{WR ST D:Int}(h:So W b A WR ST D):W.cell? ⟨b,0,none⟩=some (.slice none 0 0)∧W.cell? ⟨b,1,none⟩=some (.int .i64 D)∧W.cell? ⟨b,2,none⟩=some (.int .i64 A)∧W.cell? ⟨b,3,none⟩=some (.int .i64 WR)∧W.cell? ⟨b,4,none⟩=some (.int .i64 ST)∧W.cell? ⟨b,5,none⟩=some (.int .i64 0):=
 ⟨Bk.cell h 0,Bk.cell h 1,Bk.cell h 2,Bk.cell h 3,Bk.cell h 4,Bk.cell h 5⟩
end
section
variable {k:Lk}{m:Mc}{t:Nat}{c:Cor}{late:Bool}{i:Ins}{a:Nat}
theorem acc_store (h:i.op=17):accM k m t c late i a=runM k { m with ws:=m.ws.set a (nth c.xs i.t.toNat) } t ⟨c.xs,c.pc+1⟩ ⟨[],0,a,true,false,0⟩:=by
 unfold accM;simp[h]
theorem acc_fadd (h:i.op=20):accM k m t c late i a=runM k { m with ws:=m.ws.set a ((nth m.ws a+i.k) % 4294967296) } t ⟨c.xs.set i.d.toNat (nth m.ws a),c.pc+1⟩ ⟨[],0,a,true,false,0⟩:=by
 unfold accM;simp[h]
theorem acc_await (h:i.op=21):accM k m t c late i a=if (decide (nth m.ws a=nth c.xs i.t.toNat) != decide (i.k=1))=true then runM k m t ⟨c.xs.set i.d.toNat (nth m.ws a),c.pc+1⟩ ⟨[],0,a,false,false,0⟩
 else if late=false∨i.pl < 0 then ({ m with cs:=updN m.cs t ⟨c.xs.set i.d.toNat (nth m.ws a),c.pc⟩ },⟨[],-1,a,false,true,0⟩)
 else runM k m t ⟨c.xs.set i.d.toNat (nth m.ws a),i.pl⟩ ⟨[],0,a,false,false,0⟩:=by
 unfold accM;simp[h]
end
end Go.Proofs.YthdgehcghklflaaGreatDoor
