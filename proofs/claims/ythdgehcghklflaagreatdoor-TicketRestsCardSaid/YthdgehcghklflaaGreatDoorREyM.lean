import Derived.Test.YthdgehcghklflaaGreatDoorRAsmD
set_option linter.unusedVariables false
set_option maxRecDepth 100000
open Go.Value renaming int->I
open Go.IntKind renaming i64->Q
open Option renaming none->N,some->O
open Bool renaming false->Z
namespace Go.Proofs.YthdgehcghklflaaGreatDoor
open Go.ChangeShapes Go.WideShapes Go.ChangeAt Go.RowKit
theorem xV {W:World}{cap0:Nat}{a0:Option Addr}{xs:List Int}(h:eO .u32 W a0 xs)(hm:xs.length<=100000):
 ∃ v' W',(Builtin.append_ #[27,27] 27 #[.slice N 0 0,.slice a0 xs.length cap0]).run Tryz.prog W=.ok v' W'/\dQ .u32 22 W' v' xs/\Below W.heap.size W W'/\∀ g,v'.ownBlock=O g->W.heap.size<=g:=by
 obtain⟨i0,hi0,hz0,hz1,hz2⟩:=info_parts Ag
 by_cases h0:xs=[]
 ·subst h0
  refine⟨.slice N 0 0,W,?_,dQ.nil _ _ _,Below.refl _ _,fun g e=>by cases e⟩
  have hu:Tryz.prog.underlying 27=O (.slice 22):=Tryz.underlying27
  have hl:∀ (x:Addr),(loadCells x 0).run Tryz.prog W=.ok #[] W:=fun x=>by simpa using run_loadCells_list (P:=Tryz.prog) W x [] (by simp)
  cases a0 <;> simp[Builtin.append_,run_underlying hu,sizeOf,typeInfo,hi0,Builtin.lenOf,Builtin.firstCells,hl]
 ·obtain⟨b',off,rfl,hlt,hc⟩:=h (List.length_pos_iff.2 h0)
  obtain⟨v',W',hr,ho,hg,_⟩:=run_append_own (P:=Tryz.prog) W W.heap.size 27 27 22 i0 _ 1 4 Tryz.underlying27 hi0 hz0 hz1 hz2 rfl (by omega) (.slice N 0 0) 0 [] (World.ownsRow_nil _ _ _ _) ⟨b',off,N⟩ xs.length cap0 (xs.map (Value.int .u32)) (by simp) (vZ hc) (by intro u hu;simp at hu;obtain⟨x,_,rfl⟩:=hu;rfl) (by unfold maxLen;omega) (by omega) (Nat.le_refl _)
  rw[Nat.zero_add,List.nil_append] at ho
  exact⟨v',W',hr,World.ownsRow.mono (base':=0) ho (Nat.zero_le _),aQ hg,fun g e=>(World.ownsRow.lt ho g e).1⟩
structure sj (w:World)(base:Nat)(k:Lk)(Y:YP)(ws:List Int)(cs:Nat->xx)(j:Nat)(W:World):Prop where
 ptr:Bk W Y.y 91 #[Y.cv,I Q k.lo,I Q k.un,Y.cl,Y.wl,.pointer (O ⟨Y.x,0,N⟩),Y.kl,I Q Y.ac]
 code:W.ownsRow 0 125 8 Y.cv k.l.length (bq k.l)
 cells:Cs 0 W Y.cl (nE k.zs)
 words:dQ .u32 22 W Y.wl ws
 fT:Rf W Y.x k.n k.each Y.R (p6 k.n k.each).free (p6 k.n k.each).gen (p6 k.n k.each).out
 cores:W.ownsRow w.heap.size 112 9 Y.kl j (fq cs j)
 gr:Below w.heap.size w W
 newy:w.heap.size<=Y.y
 new:∀ i,Y.Own k.n i->base<=i/\(Y.cv.ownBlock=O i\/w.heap.size<=i)
section
variable {w W W':World}{base:Nat}{k:Lk}{Y:YP}{ws:List Int}{cs:Nat->xx}{j:Nat}
theorem sj.kept (h:sj w base k Y ws cs j W){S:Nat->Prop}(hw:ag W W' S)(hn:∀ i,S i->w.heap.size<=i)(h1:¬ S Y.y)(h2:∀ g,Y.cv.ownBlock=O g->¬ S g)(h3:∀ g,Y.cl.ownBlock=O g->¬ S g)(h4:∀ g,Y.wl.ownBlock=O g->¬ S g)(h5:¬ S Y.x)(h6:∀ g,Y.kl.ownBlock=O g->¬ S g)(h7:∀ i,Y.R.Has k.n i->¬ S i):sj w base k Y ws cs j W':=
 ⟨h.ptr.within hw h1,ar h.code hw h2,h.cells.within hw h3,h.words.within hw h4,h.fT.kept hw h5 h7,ar h.cores hw h6,
  ⟨hw.os.trans h.gr.os,hw.tape.trans h.gr.tape,hw.output.trans h.gr.output,Nat.le_trans h.gr.size hw.size,fun i hi=>(hw.block i (Nat.lt_of_lt_of_le hi h.gr.size) (fun e=>by have:=hn i e;omega)).trans (h.gr.block i hi)⟩,h.newy,h.new⟩
theorem sj.below (h:sj w base k Y ws cs j W)(hb:Below W.heap.size W W'):sj w base k Y ws cs j W':=
 h.kept (af hb) (by simp) (by simp) (by simp) (by simp) (by simp) (by simp) (by simp) (by simp)
theorem sj.Cd (h:sj w base k Y [] cs j W){v:Value}(hl:dQ .u32 22 W v ws)(hn:∀ g,v.ownBlock=O g->base<=g/\w.heap.size<=g):sj w base k { Y with wl:=v } ws cs j (W.setCell ⟨Y.y,4,N⟩ v):=by
 have hW:=cZ W Y.y 4 v
 have nn:∀ {g:Nat} {t:TypeId} {c:Array Value},Bk W g t c->t≠91->g≠Y.y:=fun hb ht e=>Bk.av hb h.ptr ht e
 refine⟨h.ptr.put 4 v,ar h.code hW (fun g e=>?_),h.cells.within hW (fun g e=>?_),hl.within hW (fun g e=>?_),h.fT.kept hW (nn h.fT.ptr (by decide)) (fun i hi e=>Rf.fH h.fT h.ptr (by decide) (by decide) (e ▸ hi)),ar h.cores hW (fun g e=>?_),
  h.gr.setCell (p:=⟨Y.y,4,N⟩) h.newy v,h.newy,fun i hi=>?_⟩
 ·obtain⟨c,hc⟩:=aT h.code e;exact nn hc (by decide)
 ·obtain⟨c,hc⟩:=aT h.cells e;exact nn hc (by decide)
 ·obtain⟨c,hc⟩:=hl.bk e;exact nn hc (by decide)
 ·obtain⟨c,hc⟩:=aT h.cores e;exact nn hc (by decide)
 ·rcases hi with e | e | e | e | e | e | e
  ·exact h.new i (.inl e)
  ·exact h.new i (.inr (.inl e))
  ·exact h.new i (.inr (.inr (.inl e)))
  ·exact⟨(hn i e).1,.inr (hn i e).2⟩
  ·exact h.new i (.inr (.inr (.inr (.inr (.inl e)))))
  ·exact h.new i (.inr (.inr (.inr (.inr (.inr (.inl e))))))
  ·exact h.new i (.inr (.inr (.inr (.inr (.inr (.inr e))))))
theorem sj.grow (h:sj w base k Y ws cs j W)(hg:W.grownBy W' Y.kl.ownBlock)(hn:∀ g,Y.kl.ownBlock=O g->w.heap.size<=g):
 Bk W' Y.y 91 #[Y.cv,I Q k.lo,I Q k.un,Y.cl,Y.wl,.pointer (O ⟨Y.x,0,N⟩),Y.kl,I Q Y.ac]/\∀ v,W'.ownsRow w.heap.size 112 9 v (j+1) (fq cs (j+1))->base<=w.heap.size->sj w base k { Y with kl:=v } ws cs (j+1) (W'.setCell ⟨Y.y,6,N⟩ v):=by
 have hw:ag W W' (fun i=>Y.kl.ownBlock=O i):=.aP hg (fun i e=>.inl e)
 have nn:∀ {g:Nat} {t:TypeId} {c:Array Value},Bk W g t c->t≠112->¬ Y.kl.ownBlock=O g:=fun hb ht e=>by
  obtain⟨c,hc⟩:=aT h.cores e
  exact Bk.av hb hc ht rfl
 have hp:=h.ptr.within hw (nn h.ptr (by decide))
 refine⟨hp,fun v hv hbase=>?_⟩
 have hW:=cZ W' Y.y 6 v
 have far2:∀ {g:Nat} {t:TypeId} {c:Array Value},Bk W' g t c->t≠91->g≠Y.y:=fun hb ht e=>Bk.av hb hp ht e
 have k1:W'.ownsRow 0 125 8 Y.cv k.l.length (bq k.l):=ar h.code hw (fun g e=>by obtain⟨c,hc⟩:=aT h.code e;exact nn hc (by decide))
 have k2:Cs 0 W' Y.cl (nE k.zs):=h.cells.within hw (fun g e=>by obtain⟨c,hc⟩:=aT h.cells e;exact nn hc (by decide))
 have k3:dQ .u32 22 W' Y.wl ws:=h.words.within hw (fun g e=>by obtain⟨c,hc⟩:=h.words.bk e;exact nn hc (by decide))
 have k4:=h.fT.kept hw (nn h.fT.ptr (by decide)) (fun i hi=>by
  obtain⟨t,c,hb,ht⟩:=h.fT.bk hi
  exact nn hb (by rcases ht with rfl|rfl <;> decide))
 refine⟨hp.put 6 v,ar k1 hW (fun g e=>?_),k2.within hW (fun g e=>?_),k3.within hW (fun g e=>?_),k4.kept hW (far2 k4.ptr (by decide)) (fun i hi e=>Rf.fH k4 hp (by decide) (by decide) (e ▸ hi)),ar hv hW (fun g e=>?_),?_,h.newy,fun i hi=>?_⟩
 ·obtain⟨c,hc⟩:=aT k1 e;exact far2 hc (by decide)
 ·obtain⟨c,hc⟩:=aT k2 e;exact far2 hc (by decide)
 ·obtain⟨c,hc⟩:=k3.bk e;exact far2 hc (by decide)
 ·obtain⟨c,hc⟩:=aT hv e;exact far2 hc (by decide)
 ·have hb:Below w.heap.size w W':=⟨hw.os.trans h.gr.os,hw.tape.trans h.gr.tape,hw.output.trans h.gr.output,Nat.le_trans h.gr.size hw.size,fun i hi=>(hw.block i (Nat.lt_of_lt_of_le hi h.gr.size) (fun e=>by have:=hn i e;omega)).trans (h.gr.block i hi)⟩
  exact hb.setCell (p:=⟨Y.y,6,N⟩) h.newy v
 ·rcases hi with e | e | e | e | e | e | e
  ·exact h.new i (.inl e)
  ·exact h.new i (.inr (.inl e))
  ·exact h.new i (.inr (.inr (.inl e)))
  ·exact h.new i (.inr (.inr (.inr (.inl e))))
  ·exact h.new i (.inr (.inr (.inr (.inr (.inl e)))))
  ·exact⟨Nat.le_trans hbase (World.ownsRow.lt hv i e).1,.inr (World.ownsRow.lt hv i e).1⟩
  ·exact h.new i (.inr (.inr (.inr (.inr (.inr (.inr e))))))
theorem sj.ey {init r7:List Int}(h:sj w base k Y init (xp k init r7).cs k.n W)(hk:ia k)(hi:init.length=jh k.zs)(hiu:ip init)(hru:ip r7):Ey W Y k (xp k init r7):=by
 refine⟨h.ptr,h.code,h.cells,h.words,h.fT,⟨_,_,_,xR k.n k.each hk.n64 hk.each⟩,mS h.cores,hk,⟨hiu,hi,fun t ht=>⟨rfl,?_⟩⟩⟩
 intro x hx
 simp only[xp,List.mem_cons,List.not_mem_nil,or_false] at hx
 have:=hru.at_ t
 omega
end
section
variable {w w' W W':World}{Y Y0 Y':YP}{k:Lk}{m m':Mc}{xs:List Int}{pc:Int}
theorem SI.fT (h:SI w Y0 k xs pc Y m W)(hz:w.heap.size+4<=W.heap.size)(e:Ey W' Y' k m')(s:bh W k.n Y W' Y'):SI w Y0 k xs pc Y' m' W':=
 ⟨e,h.st.aO s,h.q.within s.1 (fun e=>by have:=h.nn _ e;omega),Bk.within h.c s.1 (fun e=>by have:=h.nn _ e;omega),h.tr.within s.1 (fun e=>by have:=h.nn _ e;omega),fun i hi=>by
  rcases s.2.1 i hi with q | q
  ·exact h.nn i q
  ·exact .inr (by omega)⟩
theorem lO {zs:List Int}{area x:Int}{A:Nat}(h:im zs area x=O A):A<jh zs:=by
 unfold im at h
 split at h
 ·rename_i hc
  injection h with h
  obtain⟨B,rfl⟩:=Int.eq_ofNat_of_zero_le hc.1
  have:=zy (zs:=zs) (a:=B) (p:=(x % 4096).toNat) (by omega) (by have:=hc.2.2;rw[Int.toNat_natCast] at this;omega)
  rw[Int.toNat_natCast] at h
  omega
 ·cases h
def So (W:World)(b A:Nat)(WR ST D:Int):Prop:=Bk W b 67 #[.slice N 0 0,I Q D,I Q A,I Q WR,I Q ST,I Q 0]
theorem So.cells {b A:Nat}{WR ST D:Int}(h:So W b A WR ST D):W.cell? ⟨b,0,N⟩=O (.slice N 0 0)/\W.cell? ⟨b,1,N⟩=O (I Q D)/\W.cell? ⟨b,2,N⟩=O (I Q A)/\W.cell? ⟨b,3,N⟩=O (I Q WR)/\W.cell? ⟨b,4,N⟩=O (I Q ST)/\W.cell? ⟨b,5,N⟩=O (I Q 0):=
 ⟨Bk.cell h 0,Bk.cell h 1,Bk.cell h 2,Bk.cell h 3,Bk.cell h 4,Bk.cell h 5⟩
end
section
variable {k:Lk}{m:Mc}{t:Nat}{c:xx}{late:Bool}{i:aK}{a:Nat}
theorem xb (h:i.op=17):r8 k m t c late i a=g8 k { m with ws:=m.ws.set a (aG c.xs i.t.toNat) } t ⟨c.xs,c.pc+1⟩ ⟨[],0,a,true,Z,0⟩:=by
 unfold r8;simp[h]
theorem zn (h:i.op=20):r8 k m t c late i a=g8 k { m with ws:=m.ws.set a ((aG m.ws a+i.k) % 4294967296) } t ⟨c.xs.set i.d.toNat (aG m.ws a),c.pc+1⟩ ⟨[],0,a,true,Z,0⟩:=by
 unfold r8;simp[h]
theorem oO (h:i.op=21):r8 k m t c late i a=if (decide (aG m.ws a=aG c.xs i.t.toNat) != decide (i.k=1))=true then g8 k m t ⟨c.xs.set i.d.toNat (aG m.ws a),c.pc+1⟩ ⟨[],0,a,Z,Z,0⟩
 else if late=Z\/i.pl<0 then ({ m with cs:=cb m.cs t ⟨c.xs.set i.d.toNat (aG m.ws a),c.pc⟩ },⟨[],-1,a,Z,true,0⟩)
 else g8 k m t ⟨c.xs.set i.d.toNat (aG m.ws a),i.pl⟩ ⟨[],0,a,Z,Z,0⟩:=by
 unfold r8;simp[h]
end
