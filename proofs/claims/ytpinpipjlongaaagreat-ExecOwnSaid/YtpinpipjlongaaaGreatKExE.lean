/- ExE. -/
import Derived.Test.YtpinpipjlongaaaGreatKExC
/- Layer 10 (exec): the memory's part of a step. -/
namespace Go.Proofs.YtpinpipjlongaaaGreat
set_option maxRecDepth 100000
open Go.ChangeShapes Go.WideShapes Go.ChangeAt Go.RowKit
set_option linter.unusedVariables false

/-- What the memory's part of a step returns. -/
def Dond (w : World) (X : XP) (k : Lk) (m : Mc) (c : Cor) (r : Option Dn) (e : Ending) (w' : World) : Prop := match r with
  | none => e = .returned (.tuple #[cv c.xs c.pc, otV (.slice none 0 0) trapO]) ∧ Below w.heap.size w w'
  | some r => e = .returned (.tuple #[cv r.c.xs r.c.pc, otV (.slice none 0 0) ⟨[], -1, r.addr, r.wrote, r.stay, 0⟩]) ∧ ∃ M', Ex w' { X with M := M' } k r.m ∧ XStays w k.n X w' { X with M := M' }
/-- What it has in memory besides the lock: the instruction, the two results; the core, in block b. -/
structure DoI (x : World) (n b : Nat) (xs : List Int) (pc : Int) (i : Ins) : Prop where
  di : Ib x n i
  dr : Cb x (n + 1) [0, 0, 0, 0, 0, 0, 0, 0] 0
  de : Bk x (n + 1 + 1) 51 #[.slice none 0 0, .int .i64 0, .int .i64 0, .bool false, .bool false, .int .i64 0]
  dc : Cb x b xs pc
  lt : n + 1 + 1 < b
theorem DoI.within {x y : World} {n b : Nat} {xs : List Int} {pc : Int} {i : Ins} {S : Nat → Prop} (h : DoI x n b xs pc i) (hw : Within x y S) (hn : ∀ j, n ≤ j → j < x.heap.size → ¬ S j) : DoI y n b xs pc i :=
  ⟨Bk.within h.di hw (hn _ (Nat.le_refl _) (Bk.lt h.di)), Bk.within h.dr hw (hn _ (by omega) (Bk.lt h.dr)), h.de.within hw (hn _ (by omega) (Bk.lt h.de)), Bk.within h.dc hw (hn _ (by have := h.lt; omega) (Bk.lt h.dc)), h.lt⟩
theorem DoI.reg {x : World} {n b : Nat} {xs : List Int} {pc : Int} {i : Ins} (h : DoI x n b xs pc i) (h8 : xs.length = 8) {d : Nat} (hd : d < 8) (v : Int) : DoI (x.setCell ⟨b, d, none⟩ (.int .u32 v)) n b (xs.set d v) pc i := by
  have hl := h.lt
  exact ⟨Bk.off h.di (p := ⟨b, d, none⟩) (by show n ≠ b; omega) _, Bk.off h.dr (p := ⟨b, d, none⟩) (by show n + 1 ≠ b; omega) _, Bk.off h.de (p := ⟨b, d, none⟩) (by show n + 1 + 1 ≠ b; omega) _, h.dc.set h8 hd v, hl⟩
theorem DoI.place {x : World} {n b : Nat} {r0 r1 r2 r3 r4 r5 r6 r7 : Int} {pc : Int} {i : Ins} (h : DoI x n b [r0, r1, r2, r3, r4, r5, r6, r7] pc i) (v : Int) : DoI (x.setCell ⟨b, 8, none⟩ (.int .i64 v)) n b [r0, r1, r2, r3, r4, r5, r6, r7] v i := by
  have hl := h.lt
  exact ⟨Bk.off h.di (p := ⟨b, 8, none⟩) (by show n ≠ b; omega) _, Bk.off h.dr (p := ⟨b, 8, none⟩) (by show n + 1 ≠ b; omega) _, Bk.off h.de (p := ⟨b, 8, none⟩) (by show n + 1 + 1 ≠ b; omega) _, Bk.put h.dc 8 (.int .i64 v), hl⟩
/-- The two results laid. -/
theorem DoI.end_ {w y : World} {b : Nat} {xs0 : List Int} {pc PC : Int} {i : Ins} (hI : DoI y w.heap.size b xs0 pc i) {s0 s1 s2 s3 s4 s5 s6 s7 : Int} {v0 v1 v2 v3 v4 v5 : Value} :
    Cb (put6 (put9 y (w.heap.size + 1) (.int .u32 s0) (.int .u32 s1) (.int .u32 s2) (.int .u32 s3) (.int .u32 s4) (.int .u32 s5) (.int .u32 s6) (.int .u32 s7) (.int .i64 PC)) (w.heap.size + 1 + 1) v0 v1 v2 v3 v4 v5) (w.heap.size + 1) [s0, s1, s2, s3, s4, s5, s6, s7] PC ∧
    Bk (put6 (put9 y (w.heap.size + 1) (.int .u32 s0) (.int .u32 s1) (.int .u32 s2) (.int .u32 s3) (.int .u32 s4) (.int .u32 s5) (.int .u32 s6) (.int .u32 s7) (.int .i64 PC)) (w.heap.size + 1 + 1) v0 v1 v2 v3 v4 v5) (w.heap.size + 1 + 1) 51 #[v0, v1, v2, v3, v4, v5] ∧
    Within y (put6 (put9 y (w.heap.size + 1) (.int .u32 s0) (.int .u32 s1) (.int .u32 s2) (.int .u32 s3) (.int .u32 s4) (.int .u32 s5) (.int .u32 s6) (.int .u32 s7) (.int .i64 PC)) (w.heap.size + 1 + 1) v0 v1 v2 v3 v4 v5) (fun i => w.heap.size ≤ i ∧ i ≤ b) := by
  have hbl := hI.lt
  have hW1 := put9_within (y := y) (g := w.heap.size + 1) (.int .u32 s0) (.int .u32 s1) (.int .u32 s2) (.int .u32 s3) (.int .u32 s4) (.int .u32 s5) (.int .u32 s6) (.int .u32 s7) (.int .i64 PC)
  have h9 : Cb (put9 y (w.heap.size + 1) (.int .u32 s0) (.int .u32 s1) (.int .u32 s2) (.int .u32 s3) (.int .u32 s4) (.int .u32 s5) (.int .u32 s6) (.int .u32 s7) (.int .i64 PC)) (w.heap.size + 1) [s0, s1, s2, s3, s4, s5, s6, s7] PC := put9_bk hI.dr (.int .u32 s0) (.int .u32 s1) (.int .u32 s2) (.int .u32 s3) (.int .u32 s4) (.int .u32 s5) (.int .u32 s6) (.int .u32 s7) (.int .i64 PC)
  have h9' : Bk (put9 y (w.heap.size + 1) (.int .u32 s0) (.int .u32 s1) (.int .u32 s2) (.int .u32 s3) (.int .u32 s4) (.int .u32 s5) (.int .u32 s6) (.int .u32 s7) (.int .i64 PC)) (w.heap.size + 1 + 1) _ _ := put9_off hI.de (by omega) (.int .u32 s0) (.int .u32 s1) (.int .u32 s2) (.int .u32 s3) (.int .u32 s4) (.int .u32 s5) (.int .u32 s6) (.int .u32 s7) (.int .i64 PC)
  generalize put9 y (w.heap.size + 1) (.int .u32 s0) (.int .u32 s1) (.int .u32 s2) (.int .u32 s3) (.int .u32 s4) (.int .u32 s5) (.int .u32 s6) (.int .u32 s7) (.int .i64 PC) = z1 at *
  have hW2 := put6_within (y := z1) (g := w.heap.size + 1 + 1) v0 v1 v2 v3 v4 v5
  have r1 : Cb (put6 z1 (w.heap.size + 1 + 1) v0 v1 v2 v3 v4 v5) _ _ _ := put6_off h9 (by omega) v0 v1 v2 v3 v4 v5
  have r2 := put6_bk h9' v0 v1 v2 v3 v4 v5
  generalize put6 z1 (w.heap.size + 1 + 1) v0 v1 v2 v3 v4 v5 = z2 at *
  exact ⟨r1, r2, (hW1.wide (fun i e _ => by omega)).then_ (hW2.wide (fun i e _ => (by omega : w.heap.size ≤ i ∧ i ≤ b))) (fun i e => .inl e)⟩
section
variable {w w' : World} {X : XP} {k : Lk} {m : Mc}
theorem isN_isO {n each c : Nat} {free : Nat → List Nat} {gen out : List Int} {fr : Nat → List Int} {os : Int → Bool} (h : Same n each free gen out fr os c) (x : Int) : isN gen out x = isO (n * each) gen out x := by
  unfold isN isO
  rw [h.lenO]
  rfl
theorem hdl_word {n each c : Nat} {free : Nat → List Nat} {gen out : List Int} {fr : Nat → List Int} {os : Int → Bool} (h : Same n each free gen out fr os c) {q : Nat} (hq : q < n * each) : 0 ≤ hdl gen q ∧ hdl gen q < 4294967296 := by
  have := h.le
  obtain ⟨f1, f2, _⟩ := hdl_facts h.gens (q := q) (by omega)
  omega
/-- A node is taken. -/
theorem xTake (h : Ex w X k m) (t : Nat) (ht : t < k.n) :
    Calls Tryz.prog 52 #[.pointer (some ⟨X.pp, 0, none⟩), .int .i64 t] w fun e w' => e = .returned (.tuple #[.int .u32 (takeN m.pn t).2, .int .i64 0]) ∧ ∃ M', Ex w' { X with M := M' } k { m with pn := (takeN m.pn t).1 } ∧ XStays w k.n X w' { X with M := M' } := by
  obtain ⟨fr, os, c, hp, hs⟩ := h.pool
  unfold takeN
  cases he : m.pn.free t with
  | nil =>
    have hfr := hs.frs t ht
    rw [he] at hfr
    refine (plTakeNone hp t ht hfr).mono ?_
    rintro e w' ⟨rfl, rfl⟩
    exact ⟨rfl, X.M, h, XStays.refl _ _ _⟩
  | cons q rest =>
    obtain ⟨hq, ho, hfr, hos, hs2⟩ := hs.take ht he
    have hw := hdl_word hs hq
    have hc : c < 1000000 := by
      have h1 := (sumTo_le hs.outs (k.n * k.each)).2
      have h2 := hs.cnt
      have h3 := hs.le
      omega
    refine (plTake hp hc t ht hfr hw.1 hw.2 hos).mono ?_
    rintro e w' ⟨M', rfl, hp2, hst⟩
    exact ⟨rfl, M', h.nodes hp hp2 hs2 hst, XStays.nodes hst⟩
/-- A node comes back, or it doesn't. -/
theorem xFree (h : Ex w X k m) (x : Int) (h0 : 0 ≤ x) (h1 : x < 4294967296) :
    Calls Tryz.prog 53 #[.pointer (some ⟨X.pp, 0, none⟩), .int .u32 x] w fun e w' => match backN k.each m.pn x with
      | none => e = .returned (.int .i64 10) ∧ Below w.heap.size w w'
      | some p => e = .returned (.int .i64 0) ∧ ∃ M', Ex w' { X with M := M' } k { m with pn := p } ∧ XStays w k.n X w' { X with M := M' } := by
  obtain ⟨fr, os, c, hp, hs⟩ := h.pool
  unfold backN
  by_cases hz : x = 0
  · subst hz
    rw [if_pos rfl]
    refine plFree0.mono ?_
    rintro e w' ⟨rfl, rfl⟩
    exact ⟨rfl, X.M, h, XStays.refl _ _ _⟩
  · rw [if_neg hz, isN_isO hs, ← hs.oss x h0 h1]
    cases hos : os x with
    | false =>
      refine (plFreeNo hp x h0 h1 hos hz).mono ?_
      rintro e w' ⟨rfl, j, rfl⟩
      exact ⟨rfl, below_drewN (Below.refl _ _) j⟩
    | true =>
      obtain ⟨t, i, ht, hi, hn, hl, hc, hs2⟩ := hs.back h0 h1 hos
      refine (plFree hp x h0 h1 hos hi ht hn hl).mono ?_
      rintro e w' ⟨M', rfl, hp2, hst⟩
      have e1 : (x % 4096 - 1).toNat = t * k.each + i := by omega
      have e2 : (t * k.each + i) / k.each = t := by rw [Nat.mul_comm, Nat.mul_add_div (by omega), Nat.div_eq_of_lt hi, Nat.add_zero]
      simp only [if_true, e1, e2]
      exact ⟨trivial, M', h.nodes hp hp2 hs2 hst, XStays.nodes hst⟩
/-- What lies between n and b is none of it. -/
theorem Ex.far {n b : Nat} (h : Ex w X k m) (hw : Within w w' (fun i => n ≤ i ∧ i ≤ b)) (hn : ∀ i, X.Own k.n i → i < n ∨ b < i) : Ex w' X k m := h.kept hw fun i hi e => by have := hn i hi; omega
theorem XStays.far {n N b : Nat} {v : World} {X' : XP} (h : XStays v N X w X') (hw : Within w w' (fun i => n ≤ i ∧ i ≤ b)) (hn : v.heap.size ≤ n) : XStays v N X w' X' :=
  ⟨h.1.then_ hw (fun i e => .inr (by omega)), h.2.1, h.2.2⟩

/-- Ahead of the two results' stores; behind the first one; behind both. -/
def DoW (w : World) (b : Nat) (xs : List Int) (pc : Int) (i : Ins) (cs : List Value) : Nat → World → Prop
  | 0, W => DoI W w.heap.size b xs pc i ∧ Below w.heap.size w W
  | 1, W => Bk W (w.heap.size + 1) 66 cs.toArray ∧ Bk W (w.heap.size + 1 + 1) 51 #[.slice none 0 0, .int .i64 0, .int .i64 0, .bool false, .bool false, .int .i64 0] ∧ Below w.heap.size w W
  | _, W => Bk W (w.heap.size + 1) 66 cs.toArray ∧ Bk W (w.heap.size + 1 + 1) 51 #[.slice none 0 0, .int .i64 (-1), .int .i64 (-1), .bool false, .bool false, .int .i64 11] ∧ Below w.heap.size w W
theorem doW_below {w W W' : World} {b : Nat} {xs : List Int} {pc : Int} {i : Ins} {cs : List Value} {k : Nat} (h : DoW w b xs pc i cs k W) (hb : Below W.heap.size W W') : DoW w b xs pc i cs k W' := by
  match k, h with
  | 0, h => exact ⟨h.1.within (within_of_below hb) (by simp), h.2.trans (hb.mono h.2.size)⟩
  | 1, h => exact ⟨(hb.block _ h.1.lt).trans h.1, (hb.block _ h.2.1.lt).trans h.2.1, h.2.2.trans (hb.mono h.2.2.size)⟩
  | _ + 2, h => exact ⟨(hb.block _ (Bk.lt h.1)).trans h.1, (hb.block _ (Bk.lt h.2.1)).trans h.2.1, h.2.2.trans (hb.mono h.2.2.size)⟩
theorem doW_1 {w W : World} {b : Nat} {xs : List Int} {pc : Int} {i : Ins} (h : DoI W w.heap.size b xs pc i ∧ Below w.heap.size w W) (v0 v1 v2 v3 v4 v5 v6 v7 v8 : Value) :
    Bk (put9 W (w.heap.size + 1) v0 v1 v2 v3 v4 v5 v6 v7 v8) (w.heap.size + 1) 66 #[v0, v1, v2, v3, v4, v5, v6, v7, v8] ∧ Bk (put9 W (w.heap.size + 1) v0 v1 v2 v3 v4 v5 v6 v7 v8) (w.heap.size + 1 + 1) 51 #[.slice none 0 0, .int .i64 0, .int .i64 0, .bool false, .bool false, .int .i64 0] ∧ Below w.heap.size w (put9 W (w.heap.size + 1) v0 v1 v2 v3 v4 v5 v6 v7 v8) :=
  ⟨put9_bk h.1.dr v0 v1 v2 v3 v4 v5 v6 v7 v8, put9_off h.1.de (by omega) v0 v1 v2 v3 v4 v5 v6 v7 v8, put9_below h.2 (by omega) v0 v1 v2 v3 v4 v5 v6 v7 v8⟩
theorem doW_2 {w W : World} {cs : Array Value} {x0 x1 x2 x3 x4 x5 : Value} (h : Bk W (w.heap.size + 1) 66 cs ∧ Bk W (w.heap.size + 1 + 1) 51 #[x0, x1, x2, x3, x4, x5] ∧ Below w.heap.size w W) (v0 v1 v2 v3 v4 v5 : Value) :
    Bk (put6 W (w.heap.size + 1 + 1) v0 v1 v2 v3 v4 v5) (w.heap.size + 1) 66 cs ∧ Bk (put6 W (w.heap.size + 1 + 1) v0 v1 v2 v3 v4 v5) (w.heap.size + 1 + 1) 51 #[v0, v1, v2, v3, v4, v5] ∧ Below w.heap.size w (put6 W (w.heap.size + 1 + 1) v0 v1 v2 v3 v4 v5) :=
  ⟨put6_off h.1 (by omega) v0 v1 v2 v3 v4 v5, put6_bk h.2.1 v0 v1 v2 v3 v4 v5, put6_below h.2.2 (by omega) v0 v1 v2 v3 v4 v5⟩
/-- Where the ways of 'do' meet again. -/
def DoM (w : World) (X : XP) (k : Lk) (b : Nat) (pc : Int) (i : Ins) (R : Option Dn) (y : World) : Prop :=
  ∃ M' m' xs', xs'.length = 8 ∧ DoI y w.heap.size b xs' pc i ∧ Ex y { X with M := M' } k m' ∧ XStays w k.n X y { X with M := M' } ∧ (∀ j, XP.Own { X with M := M' } k.n j → j < w.heap.size ∨ b < j) ∧ Hid (R = some ⟨m', ⟨xs', pc + 1⟩, -1, false, false⟩)

set_option maxHeartbeats 4000000 in
theorem xDo (h : Ex w X k m) (t : Nat) (ht : t < k.n) (i : Ins) (late : Bool) (hm : memI k (m.cs t).pc = some i) :
    Calls Tryz.prog 30 #[.pointer (some ⟨X.x, 0, none⟩), .int .i64 t, iv i, .bool late] w (Dond w X k m (m.cs t) (doM k m t (m.cs t) late i)) := by
  have hf := h.lk.n64
  have hi := h.lk.okM hm
  obtain ⟨hp0, hp1, -, -⟩ := memI_is hm
  have hl := h.lk.parts.2.1
  have hx := h.mc.cs t ht
  have HE8 := Lib.hid hx
  obtain ⟨r0, r1, r2, r3, r4, r5, r6, r7, pc, ec⟩ := h.core_cons ht
  rw [ec] at hp0 hp1 hx ⊢
  simp only at hp0 hp1 hx
  have hd := hi.d
  have hs := hi.s
  obtain ⟨op, d, s, t', u, a', k', pl⟩ := i
  simp only at hd hs
  obtain ⟨dn, rfl⟩ : ∃ n : Nat, d = n := ⟨d.toNat, by omega⟩
  obtain ⟨sn, rfl⟩ : ∃ n : Nat, s = n := ⟨s.toNat, by omega⟩
  have hd8 : dn < 8 := by omega
  have hs8 : sn < 8 := by omega
  have hS32 := hx.2.at_ sn
  have hHI := Lib.hid hi
  obtain ⟨R, hR⟩ : ∃ R, R = doM k m t ⟨[r0, r1, r2, r3, r4, r5, r6, r7], pc⟩ late ⟨op, dn, sn, t', u, a', k', pl⟩ := ⟨_, rfl⟩
  rw [← hR]
  have HR := Lib.hid hR
  clear hR
  have q0 := Ib.made w op dn sn t' u a' k' pl
  have q1 := Cb.made (w.alloc (.cells #[.int .i64 op, .int .i64 dn, .int .i64 sn, .int .i64 t', .int .i64 u, .int .i64 a', .int .u32 k', .int .i64 pl] 45)) [0, 0, 0, 0, 0, 0, 0, 0] 0
  have q2 := Bk.made ((w.alloc (.cells #[.int .i64 op, .int .i64 dn, .int .i64 sn, .int .i64 t', .int .i64 u, .int .i64 a', .int .u32 k', .int .i64 pl] 45)).alloc (.cells (corC [0, 0, 0, 0, 0, 0, 0, 0] 0).toArray 66)) 51 #[.slice none 0 0, .int .i64 0, .int .i64 0, .bool false, .bool false, .int .i64 0]
  simp only [World.size_alloc] at q1 q2
  have b0 : Below w.heap.size w (((w.alloc (.cells #[.int .i64 op, .int .i64 dn, .int .i64 sn, .int .i64 t', .int .i64 u, .int .i64 a', .int .u32 k', .int .i64 pl] 45)).alloc (.cells (corC [0, 0, 0, 0, 0, 0, 0, 0] 0).toArray 66)).alloc (.cells #[.slice none 0 0, .int .i64 0, .int .i64 0, .bool false, .bool false, .int .i64 0] 51)) := (((Below.refl _ _).alloc (Nat.le_refl _) _).alloc (by simp) _).alloc (by simp; omega) _
  replace q0 := Bk.alloc (Bk.alloc q0 (.cells (corC [0, 0, 0, 0, 0, 0, 0, 0] 0).toArray 66)) (.cells #[.slice none 0 0, .int .i64 0, .int .i64 0, .bool false, .bool false, .int .i64 0] 51)
  replace q1 := Bk.alloc q1 (.cells #[.slice none 0 0, .int .i64 0, .int .i64 0, .bool false, .bool false, .int .i64 0] 51)
  unfold iv
  simp only [corC, List.map_cons, List.map_nil, List.cons_append, List.nil_append] at q0 q1 q2 b0 ⊢
  go_enter Tryz.func30, Tryz.ntmps30
  go_upto_region 1 with fail
  generalize (((w.alloc (.cells #[.int .i64 op, .int .i64 dn, .int .i64 sn, .int .i64 t', .int .i64 u, .int .i64 a', .int .u32 k', .int .i64 pl] 45)).alloc (.cells #[.int .u32 0, .int .u32 0, .int .u32 0, .int .u32 0, .int .u32 0, .int .u32 0, .int .u32 0, .int .u32 0, .int .i64 0] 66)).alloc (.cells #[.slice none 0 0, .int .i64 0, .int .i64 0, .bool false, .bool false, .int .i64 0] 51)) = x at *
  have h2 := h.below b0
  have c5 := h2.c5
  obtain ⟨c0, c1, c2, c3, c4, c5', c6, c7, c8⟩ := h2.core ht ec
  go_upto_region 2 with fail
  have hI : DoI (x.alloc (.cells #[.int .u32 r0, .int .u32 r1, .int .u32 r2, .int .u32 r3, .int .u32 r4, .int .u32 r5, .int .u32 r6, .int .u32 r7, .int .i64 pc] 66)) w.heap.size x.heap.size [r0, r1, r2, r3, r4, r5, r6, r7] pc ⟨op, dn, sn, t', u, a', k', pl⟩ :=
    ⟨Bk.alloc q0 _, Bk.alloc q1 _, Bk.alloc q2 _, Cb.made x [r0, r1, r2, r3, r4, r5, r6, r7] pc, q2.lt⟩
  replace b0 := b0.alloc (o := .cells #[.int .u32 r0, .int .u32 r1, .int .u32 r2, .int .u32 r3, .int .u32 r4, .int .u32 r5, .int .u32 r6, .int .u32 r7, .int .i64 pc] 66) b0.size
  clear q0 q1 q2 h2 c0 c1 c2 c3 c4 c5 c5' c6 c7 c8
  generalize x.heap.size = b at *
  generalize x.alloc (.cells #[.int .u32 r0, .int .u32 r1, .int .u32 r2, .int .u32 r3, .int .u32 r4, .int .u32 r5, .int .u32 r6, .int .u32 r7, .int .i64 pc] 66) = y at *
  have h2 := h.below b0
  obtain ⟨e0, e1, e2, e3, e4, e5, e6, e7⟩ := hI.di.cells
  simp only at e0 e1 e2 e3 e4 e5 e6 e7
  have cS := hI.dc.at_ rfl hs8
  have x3 := h2.c3
  have x4 := h2.c4
  generalize hSe : nth [r0, r1, r2, r3, r4, r5, r6, r7] sn = S at *
  have ES := Lib.hid hSe
  clear hSe
  have hHas : ∀ j, w.heap.size ≤ j → ¬ X.Has k.n j := fun j hj e => by have := h.lt (XP.has_own e); omega
  have hOwn : ∀ j, X.Own k.n j → j < w.heap.size := fun j e => h.lt e
  have hby : b < y.heap.size := Bk.lt hI.dc
  have hbl := hI.lt
  have HX := Lib.hid h
  have HX2 := Lib.hid h2
  have hdi0 : (0 : Int) ≤ dn := by omega
  have hdi1 : (dn : Int) < 8 := by omega
  have hsi0 : (0 : Int) ≤ sn := by omega
  have hsi1 : (sn : Int) < 8 := by omega
  have kx : ∀ (W : World) (u : Value) (i j : Nat), (W.setCell ⟨b, i, none⟩ u).cell? ⟨X.x, j, none⟩ = W.cell? ⟨X.x, j, none⟩ := fun W u i j => cell_off (by have := h.ptr.lt; omega)
  have kn : ∀ (W : World) (u : Value) (i j : Nat), (W.setCell ⟨b, i, none⟩ u).cell? ⟨w.heap.size, j, none⟩ = W.cell? ⟨w.heap.size, j, none⟩ := fun W u i j => cell_off (by omega)
  have hw1 : Hid (wrap64 (pc + 1) = pc + 1) := Lib.hid (IntWalk.wrap64_in _ (by omega))
  have hpp : Hid (0 ≤ pc ∧ pc < 1000) := Lib.hid (by omega)
  have hBB := Lib.hid b0
  have hII := Lib.hid hI
  have hLL := Lib.hid (And.intro hby hbl)
  clear h h2 hp0 hp1 hl hd hs b0 hby hbl hx
  go_upto_block 0 with fail
  go_cut [10] (fun v wx => v = .pointer (some ⟨b, 0, none⟩) ∧ DoM w X k b pc ⟨op, dn, sn, t', u, a', k', pl⟩ R wx)
  case first =>
    by_cases h22 : op = 22
    · subst h22
      have hT := Lib.hid (xTake (HX2.out.below (below_drewN (Below.refl _ _) 1)) t ht)
      have cD := hI.dc.at_ rfl hd8
      have zf := Bk.free hI.dc
      go_upto_region 8 with fail
      clear hI
      generalize nth [r0, r1, r2, r3, r4, r5, r6, r7] dn = VD at *
      go_region_held3 (fun W => W.cell? ⟨X.x, 4, none⟩ = some (.pointer (some ⟨X.pp, 0, none⟩)) ∧ W.cell? ⟨w.heap.size, 1, none⟩ = some (.int .i64 dn)) (first | (exact ⟨x4, e1⟩) | (exact ⟨f1, f2⟩) | go_keep)
        (first | (go_at_call 52; refine hT.out.mono ?_; rintro e w4 ⟨rfl, M', hX4, hS4⟩; have hI4 : DoI w4 w.heap.size b _ _ _ := (hII.out.within ((Within.refl y (fun _ => False)).draws 1) (by simp)).within hS4.1 (fun j hj _ => hHas j hj); have f1 : w4.cell? ⟨X.x, 4, none⟩ = some (.pointer (some ⟨X.pp, 0, none⟩)) := hX4.c4; have f2 : w4.cell? ⟨w.heap.size, 1, none⟩ = some (.int .i64 dn) := (hI4.di.cells).2.1; have f4 := hI4.dc.at_ rfl hd8; have f5 := Bk.free hI4.dc))
      all_goals (
        have GM : Hid (DoM w X k b pc ⟨22, dn, sn, t', u, a', k', pl⟩ R (w4.setCell ⟨b, dn, none⟩ (.int .u32 (takeN m.pn t).2))) := Lib.hid (by
          have hfar : Within w4 (w4.setCell ⟨b, dn, none⟩ (.int .u32 (takeN m.pn t).2)) (fun i => w.heap.size ≤ i ∧ i ≤ b) := (Within.refl _ _).put _ _ _ (.inl ⟨by have := hLL.out.2; omega, Nat.le_refl _⟩)
          have hown : ∀ j, XP.Own { X with M := M' } k.n j → j < w.heap.size ∨ b < j := fun j hj => by
            rcases hS4.2.1 j hj with e | e
            · exact .inl (hOwn j e)
            · have := hLL.out.1; exact .inr (Nat.lt_of_lt_of_le this e)
          refine ⟨M', _, _, by simp, hI4.reg rfl hd8 _, hX4.far hfar hown, ((XStays.of_grown (hBB.out.trans ((below_drewN (Below.refl _ _) 1).mono hBB.out.size))).then_ hS4).far hfar (Nat.le_refl _), hown, Lib.hid ?_⟩
          rw [HR.out]
          simp only [doM]
          simp)
        clear f1 f2 f4 f5 hX4 hS4 hI4 x3 x4 e0 e1 e2 e3 e4 e5 e6 e7 cS kx kn
        go_wp2
        go_meet
        case rel => exact ⟨rfl, GM.out⟩)
    · by_cases h23 : op = 23
      · subst h23
        have hFr := Lib.hid (xFree (HX2.out.below (below_drewN (Below.refl _ _) 1)) S hS32.1 hS32.2)
        go_upto_region 10 with fail
        clear hI
        cases hbk : backN k.each m.pn S with
        | none =>
          rw [hbk] at hFr
          simp only at hFr
          have HNo : Hid (R = none) := Lib.hid (by rw [HR.out]; simp only [doM]; simp [ES.out, hbk])
          go_region_held3 (fun W => W.cell? ⟨X.x, 4, none⟩ = some (.pointer (some ⟨X.pp, 0, none⟩)) ∧ W.cell? ⟨w.heap.size, 2, none⟩ = some (.int .i64 sn) ∧ W.cell? ⟨b, sn, none⟩ = some (.int .u32 S)) (first | (exact ⟨x4, e2, cS⟩) | (exact ⟨f1, f2, f3⟩) | go_keep)
            (first | (go_at_call 53; refine hFr.out.mono ?_; rintro e w5 ⟨rfl, hb5⟩; have hI9 : DoI w5 w.heap.size b _ _ _ := hII.out.within (within_of_below (below_of_drew hb5)) (by simp); have f1 : w5.cell? ⟨X.x, 4, none⟩ = some (.pointer (some ⟨X.pp, 0, none⟩)) := (HX2.out.below (below_of_drew hb5)).c4; have f2 : w5.cell? ⟨w.heap.size, 2, none⟩ = some (.int .i64 sn) := (hI9.di.cells).2.2.1; have f3 : w5.cell? ⟨b, sn, none⟩ = some (.int .u32 S) := by rw [← ES.out]; exact hI9.dc.at_ rfl hs8))
          all_goals (
            have hB9 : Below w.heap.size w w5 := hBB.out.trans ((below_of_drew hb5).mono hBB.out.size)
            clear f1 f2 f3 hb5 hbk hFr
            go_upto_region 12 with fail
            have hTr := Lib.hid (fun W => xTrap W)
            unfold otV trapO at hTr
            simp only at hTr
            have hD0 : DoI w5 w.heap.size b [r0, r1, r2, r3, r4, r5, r6, r7] pc ⟨23, dn, sn, t', u, a', k', pl⟩ ∧ Below w.heap.size w w5 := ⟨hI9, hB9⟩
            clear hI9 hB9
            refine wp_region_flow [2, 3] (DoW w b [r0, r1, r2, r3, r4, r5, r6, r7] pc ⟨23, dn, sn, t', u, a', k', pl⟩ [.int .u32 r0, .int .u32 r1, .int .u32 r2, .int .u32 r3, .int .u32 r4, .int .u32 r5, .int .u32 r6, .int .u32 r7, .int .i64 pc]) (fun _ _ _ => True) (fun vs => { tmps := #[.pointer (some ⟨X.x, 0, none⟩), .int .i64 (t : Int), .agg #[.int .i64 23, .int .i64 (dn : Int), .int .i64 (sn : Int), .int .i64 t', .int .i64 u, .int .i64 a', .int .u32 k', .int .i64 pl], .bool late, undef, undef, .pointer (some ⟨w.heap.size, 0, none⟩), undef, .pointer (some ⟨w.heap.size + 1, 0, none⟩), .pointer (some ⟨w.heap.size + 1 + 1, 0, none⟩), .pointer (some ⟨b, 0, none⟩), .int .i64 10, undef, undef, .pointer (some ⟨X.x, 0, none⟩), .pointer (some ⟨X.x, 0, none⟩), .pointer (some ⟨X.x, 5, none⟩), .slice (some ⟨X.kb, 0, none⟩) k.n k.n, .int .i64 (t : Int), .pointer (some ⟨X.kb, t * 9, none⟩), .agg #[.int .u32 r0, .int .u32 r1, .int .u32 r2, .int .u32 r3, .int .u32 r4, .int .u32 r5, .int .u32 r6, .int .u32 r7, .int .i64 pc], .pointer (some ⟨w.heap.size, 0, none⟩), .int .i64 23, undef, undef, undef, undef, undef, undef, undef, undef, undef, undef, undef, undef, undef, undef, undef, undef, undef, undef, undef, undef, undef, undef, undef, undef, undef, undef, undef, .bool false, .bool false, undef, undef, undef, undef, undef, undef, undef, undef, undef, undef, undef, undef, undef, .bool true, .bool true, .pointer (some ⟨X.x, 0, none⟩), .pointer (some ⟨X.x, 0, none⟩), .pointer (some ⟨X.x, 4, none⟩), .pointer (some ⟨X.pp, 0, none⟩), .pointer (some ⟨w.heap.size, 2, none⟩), .int .i64 (sn : Int), .pointer (some ⟨b, 0, none⟩), .pointer (some ⟨b, sn, none⟩), .int .u32 S, .int .i64 10, .int .i64 10, .bool true, vs 0, vs 1, undef, undef, undef, undef, undef, undef], defers := [] }) (valT [.agg #[.int .u32 r0, .int .u32 r1, .int .u32 r2, .int .u32 r3, .int .u32 r4, .int .u32 r5, .int .u32 r6, .int .u32 r7, .int .i64 pc], .agg #[.slice none 0 0, .int .i64 (-1), .int .i64 (-1), .bool false, .bool false, .int .i64 11], undef, undef]) ?ghm ?ghr ?ghc ?ghnd ?ghlit ?gh0 ?ghW ?ghF ?ghS ?gops ?gdone
            case ghm => kernel_rfl
            case ghr => kernel_rfl
            case ghc => kernel_rfl
            case ghnd => decide
            case ghlit => intro vs; rfl
            case gh0 => exact hD0
            case ghW => exact fun k W W2 h hb => doW_below h hb
            case ghF => exact valT_stable
            case ghS => exact fun k W W2 _ _ i v h => h
            case gops =>
              refine ⟨?_, ?_, ?_, ?_, trivial⟩
              · intro vs W k h1 h2 hW hd
                obtain rfl : k = 0 := Nat.le_zero.1 h2
                refine leaves_free rfl ?_
                obtain ⟨j1, -⟩ : DoI W w.heap.size b [r0, r1, r2, r3, r4, r5, r6, r7] pc ⟨23, dn, sn, t', u, a', k', pl⟩ ∧ Below w.heap.size w W := id hW; obtain ⟨c0, c1, c2, c3, c4, c5, c6, c7, c8⟩ := j1.dc.cells; obtain ⟨z0, z1, z2, z3, z4, z5, z6, z7, z8⟩ := j1.dr.cells; have zf := Bk.free j1.dr; clear j1
                clear hd
                go_simp
                exact ⟨rfl, Below.refl _ _⟩
              · intro vs W k h1 h2 hW hd
                obtain rfl : k = 0 := Nat.le_zero.1 h2
                refine leaves_free rfl ?_
                clear hd
                go_simp
                refine (hTr.out _).mono ?_
                rintro e z ⟨rfl, hz⟩
                exact ⟨_, rfl, rfl, hz⟩
              · intro vs W hW hd
                have e0 : vs 0 = .agg #[.int .u32 r0, .int .u32 r1, .int .u32 r2, .int .u32 r3, .int .u32 r4, .int .u32 r5, .int .u32 r6, .int .u32 r7, .int .i64 pc] := hd 0 (by decide)
                obtain ⟨j1, -⟩ : DoI W w.heap.size b [r0, r1, r2, r3, r4, r5, r6, r7] pc ⟨23, dn, sn, t', u, a', k', pl⟩ ∧ Below w.heap.size w W := id hW; obtain ⟨c0, c1, c2, c3, c4, c5, c6, c7, c8⟩ := j1.dc.cells; obtain ⟨z0, z1, z2, z3, z4, z5, z6, z7, z8⟩ := j1.dr.cells; have zf := Bk.free j1.dr; clear j1
                refine leavesIf_free rfl ?_
                clear hd
                go_simp
                exact ⟨rfl, doW_1 hW (.int .u32 r0) (.int .u32 r1) (.int .u32 r2) (.int .u32 r3) (.int .u32 r4) (.int .u32 r5) (.int .u32 r6) (.int .u32 r7) (.int .i64 pc)⟩
              · intro vs W hW hd
                have e1 : vs 1 = .agg #[.slice none 0 0, .int .i64 (-1), .int .i64 (-1), .bool false, .bool false, .int .i64 11] := hd 1 (by decide)
                obtain ⟨-, j2, -⟩ : Bk W (w.heap.size + 1) 66 #[.int .u32 r0, .int .u32 r1, .int .u32 r2, .int .u32 r3, .int .u32 r4, .int .u32 r5, .int .u32 r6, .int .u32 r7, .int .i64 pc] ∧ Bk W (w.heap.size + 1 + 1) 51 #[.slice none 0 0, .int .i64 0, .int .i64 0, .bool false, .bool false, .int .i64 0] ∧ Below w.heap.size w W := id hW; obtain ⟨z0, z1, z2, z3, z4, z5⟩ : W.cell? ⟨w.heap.size + 1 + 1, 0, none⟩ = some (.slice none 0 0) ∧ W.cell? ⟨w.heap.size + 1 + 1, 1, none⟩ = some (.int .i64 0) ∧ W.cell? ⟨w.heap.size + 1 + 1, 2, none⟩ = some (.int .i64 0) ∧ W.cell? ⟨w.heap.size + 1 + 1, 3, none⟩ = some (.bool false) ∧ W.cell? ⟨w.heap.size + 1 + 1, 4, none⟩ = some (.bool false) ∧ W.cell? ⟨w.heap.size + 1 + 1, 5, none⟩ = some (.int .i64 0) := ⟨j2.cell 0, j2.cell 1, j2.cell 2, j2.cell 3, j2.cell 4, j2.cell 5⟩; have zf := Bk.free j2; clear j2
                refine leavesIf_free rfl ?_
                clear hd
                go_simp
                exact ⟨rfl, doW_2 hW _ _ _ _ _ _⟩
            case gdone =>
              intro vs W hW hf
              have f0 : vs 0 = .agg #[.int .u32 r0, .int .u32 r1, .int .u32 r2, .int .u32 r3, .int .u32 r4, .int .u32 r5, .int .u32 r6, .int .u32 r7, .int .i64 pc] := hf 0 (by decide)
              have f1 : vs 1 = .agg #[.slice none 0 0, .int .i64 (-1), .int .i64 (-1), .bool false, .bool false, .int .i64 11] := hf 1 (by decide)
              simp only [f0, f1]
              clear f0 f1 hf
              obtain ⟨p1, p2, p3⟩ : Bk W (w.heap.size + 1) 66 #[.int .u32 r0, .int .u32 r1, .int .u32 r2, .int .u32 r3, .int .u32 r4, .int .u32 r5, .int .u32 r6, .int .u32 r7, .int .i64 pc] ∧ Bk W (w.heap.size + 1 + 1) 51 #[(.slice none 0 0), .int .i64 (-1), .int .i64 (-1), .bool false, .bool false, .int .i64 11] ∧ Below w.heap.size w W := id hW
              have HBE := Lib.hid p3
              clear hW p3 hD0 hTr
              obtain ⟨c0, c1, c2, c3, c4, c5, c6, c7, c8⟩ := Cb.cells (r0 := r0) (r1 := r1) (r2 := r2) (r3 := r3) (r4 := r4) (r5 := r5) (r6 := r6) (r7 := r7) (pc := pc) p1
              obtain ⟨o0, o1, o2, o3, o4, o5⟩ : W.cell? ⟨w.heap.size + 1 + 1, 0, none⟩ = some (.slice none 0 0) ∧ W.cell? ⟨w.heap.size + 1 + 1, 1, none⟩ = some (.int .i64 (-1)) ∧ W.cell? ⟨w.heap.size + 1 + 1, 2, none⟩ = some (.int .i64 (-1)) ∧ W.cell? ⟨w.heap.size + 1 + 1, 3, none⟩ = some (.bool false) ∧ W.cell? ⟨w.heap.size + 1 + 1, 4, none⟩ = some (.bool false) ∧ W.cell? ⟨w.heap.size + 1 + 1, 5, none⟩ = some (.int .i64 11) := ⟨p2.cell 0, p2.cell 1, p2.cell 2, p2.cell 3, p2.cell 4, p2.cell 5⟩
              go_wp
              exact bodyPost_ret (v := .tuple #[.agg #[.int .u32 r0, .int .u32 r1, .int .u32 r2, .int .u32 r3, .int .u32 r4, .int .u32 r5, .int .u32 r6, .int .u32 r7, .int .i64 pc], .agg #[(.slice none 0 0), .int .i64 (-1), .int .i64 (-1), .bool false, .bool false, .int .i64 11]]) (by simp [results, Tryz.results30, go_sem, c0, c1, c2, c3, c4, c5, c6, c7, c8, o0, o1, o2, o3, o4, o5]) rfl (by rw [HNo.out]; exact ⟨rfl, HBE.out⟩))
        | some pn' =>
          rw [hbk] at hFr
          simp only at hFr
          go_region_held3 (fun W => W.cell? ⟨X.x, 4, none⟩ = some (.pointer (some ⟨X.pp, 0, none⟩)) ∧ W.cell? ⟨w.heap.size, 2, none⟩ = some (.int .i64 sn) ∧ W.cell? ⟨b, sn, none⟩ = some (.int .u32 S)) (first | (exact ⟨x4, e2, cS⟩) | (exact ⟨f1, f2, f3⟩) | go_keep)
            (first | (go_at_call 53; refine hFr.out.mono ?_; rintro e w4 ⟨rfl, M', hX4, hS4⟩; have hI4 : DoI w4 w.heap.size b _ _ _ := (hII.out.within ((Within.refl y (fun _ => False)).draws 1) (by simp)).within hS4.1 (fun j hj _ => hHas j hj); have f1 : w4.cell? ⟨X.x, 4, none⟩ = some (.pointer (some ⟨X.pp, 0, none⟩)) := hX4.c4; have f2 : w4.cell? ⟨w.heap.size, 2, none⟩ = some (.int .i64 sn) := (hI4.di.cells).2.2.1; have f3 : w4.cell? ⟨b, sn, none⟩ = some (.int .u32 S) := by rw [← ES.out]; exact hI4.dc.at_ rfl hs8))
          all_goals (
            have GM : Hid (DoM w X k b pc ⟨23, dn, sn, t', u, a', k', pl⟩ R w4) := Lib.hid (by
              have hown : ∀ j, XP.Own { X with M := M' } k.n j → j < w.heap.size ∨ b < j := fun j hj => by
                rcases hS4.2.1 j hj with e | e
                · exact .inl (hOwn j e)
                · have := hLL.out.1; exact .inr (Nat.lt_of_lt_of_le this e)
              refine ⟨M', _, [r0, r1, r2, r3, r4, r5, r6, r7], rfl, hI4, hX4, (XStays.of_grown (hBB.out.trans ((below_drewN (Below.refl _ _) 1).mono hBB.out.size))).then_ hS4, hown, Lib.hid ?_⟩
              rw [HR.out]
              simp only [doM]
              simp [ES.out, hbk])
            clear f1 f2 f3 hX4 hS4 hI4 x3 x4 e0 e1 e2 e3 e4 e5 e6 e7 cS kx kn hbk hFr
            go_wp2
            go_meet
            case rel => exact ⟨rfl, GM.out⟩)
      · have hn22 : (op == 22) = false := by simpa using h22
        have hn23 : (op == 23) = false := by simpa using h23
        have HN := Lib.hid (And.intro h22 h23)
        clear h22 h23 hI
        cases hfm : findM k.zs a' S with
        | none =>
          have HNo : Hid (R = none) := Lib.hid (by
            rw [HR.out]
            simp only [doM, if_neg HN.out.1, if_neg HN.out.2]
            simp [ES.out, hfm])
          have hAd : Hid (∀ W, Mm W X.p X.q X.g X.s k.zs m.ws → Calls Tryz.prog 54 #[.pointer (some ⟨X.p, 0, none⟩), .int .i64 a', .int .u32 S] W fun e w' => e = .returned (.tuple #[.int .i64 0, .bool false]) ∧ w' = W) := Lib.hid fun W hW => (cAddressNo hW a' S hS32.1 hS32.2 (by
            unfold findM at hfm
            split at hfm
            · cases hfm
            · omega)).mono fun _ _ ⟨q1, q2⟩ => ⟨q1, q2.symm⟩
          have hMm := Lib.hid HX2.out.mem
          clear hfm
          go_upto_region 3 with fail
          go_quiet ((go_at_call 54; exact Calls.quiet_of_same (hAd.out _ (hMm.out.drewN _))))
          have hI9 := hII.out.within ((Within.refl y (fun _ => False)).draws nq) (by simp)
          have hB9 := below_drewN hBB.out nq
          clear x3 x4 e0 e1 e2 e3 e4 e5 e6 e7 cS kx hAd hMm
          generalize y.drewN nq = y5 at *
          go_upto_region 5 with fail
          have hTr := Lib.hid (fun W => xTrap W)
          unfold otV trapO at hTr
          simp only at hTr
          have hD0 : DoI y5 w.heap.size b [r0, r1, r2, r3, r4, r5, r6, r7] pc ⟨op, dn, sn, t', u, a', k', pl⟩ ∧ Below w.heap.size w y5 := ⟨hI9, hB9⟩
          clear hI9 hB9
          refine wp_region_flow [2, 3] (DoW w b [r0, r1, r2, r3, r4, r5, r6, r7] pc ⟨op, dn, sn, t', u, a', k', pl⟩ [.int .u32 r0, .int .u32 r1, .int .u32 r2, .int .u32 r3, .int .u32 r4, .int .u32 r5, .int .u32 r6, .int .u32 r7, .int .i64 pc]) (fun _ _ _ => True) (fun vs => { tmps := #[.pointer (some ⟨X.x, 0, none⟩), .int .i64 (t : Int), .agg #[.int .i64 op, .int .i64 (dn : Int), .int .i64 (sn : Int), .int .i64 t', .int .i64 u, .int .i64 a', .int .u32 k', .int .i64 pl], .bool late, undef, undef, .pointer (some ⟨w.heap.size, 0, none⟩), undef, .pointer (some ⟨w.heap.size + 1, 0, none⟩), .pointer (some ⟨w.heap.size + 1 + 1, 0, none⟩), .pointer (some ⟨b, 0, none⟩), undef, .int .i64 0, .bool false, .pointer (some ⟨X.x, 0, none⟩), .pointer (some ⟨X.x, 0, none⟩), .pointer (some ⟨X.x, 5, none⟩), .slice (some ⟨X.kb, 0, none⟩) k.n k.n, .int .i64 (t : Int), .pointer (some ⟨X.kb, t * 9, none⟩), .agg #[.int .u32 r0, .int .u32 r1, .int .u32 r2, .int .u32 r3, .int .u32 r4, .int .u32 r5, .int .u32 r6, .int .u32 r7, .int .i64 pc], .pointer (some ⟨w.heap.size, 0, none⟩), .int .i64 op, .tuple #[.int .i64 0, .bool false], .pointer (some ⟨X.x, 0, none⟩), .pointer (some ⟨X.x, 0, none⟩), .pointer (some ⟨X.x, 3, none⟩), .pointer (some ⟨X.p, 0, none⟩), .pointer (some ⟨w.heap.size, 5, none⟩), .int .i64 a', .pointer (some ⟨w.heap.size, 2, none⟩), .int .i64 (sn : Int), .pointer (some ⟨b, 0, none⟩), .pointer (some ⟨b, sn, none⟩), .int .u32 S, .tuple #[.int .i64 0, .bool false], .int .i64 0, .bool false, .bool false, .bool true, vs 0, vs 1, undef, undef, undef, undef, undef, undef, undef, undef, .bool false, .bool false, undef, undef, undef, undef, undef, undef, undef, undef, undef, undef, undef, undef, undef, .bool false, .bool false, undef, undef, undef, undef, undef, undef, undef, undef, undef, undef, undef, undef, undef, undef, undef, undef, undef, undef, undef, undef], defers := [] }) (valT [.agg #[.int .u32 r0, .int .u32 r1, .int .u32 r2, .int .u32 r3, .int .u32 r4, .int .u32 r5, .int .u32 r6, .int .u32 r7, .int .i64 pc], .agg #[.slice none 0 0, .int .i64 (-1), .int .i64 (-1), .bool false, .bool false, .int .i64 11], undef, undef]) ?ghm ?ghr ?ghc ?ghnd ?ghlit ?gh0 ?ghW ?ghF ?ghS ?gops ?gdone
          case ghm => kernel_rfl
          case ghr => kernel_rfl
          case ghc => kernel_rfl
          case ghnd => decide
          case ghlit => intro vs; rfl
          case gh0 => exact hD0
          case ghW => exact fun k W W2 h hb => doW_below h hb
          case ghF => exact valT_stable
          case ghS => exact fun k W W2 _ _ i v h => h
          case gops =>
            refine ⟨?_, ?_, ?_, ?_, trivial⟩
            · intro vs W k h1 h2 hW hd
              obtain rfl : k = 0 := Nat.le_zero.1 h2
              refine leaves_free rfl ?_
              obtain ⟨j1, -⟩ : DoI W w.heap.size b [r0, r1, r2, r3, r4, r5, r6, r7] pc ⟨op, dn, sn, t', u, a', k', pl⟩ ∧ Below w.heap.size w W := id hW; obtain ⟨c0, c1, c2, c3, c4, c5, c6, c7, c8⟩ := j1.dc.cells; obtain ⟨z0, z1, z2, z3, z4, z5, z6, z7, z8⟩ := j1.dr.cells; have zf := Bk.free j1.dr; clear j1
              clear hd
              go_simp
              exact ⟨rfl, Below.refl _ _⟩
            · intro vs W k h1 h2 hW hd
              obtain rfl : k = 0 := Nat.le_zero.1 h2
              refine leaves_free rfl ?_
              clear hd
              go_simp
              refine (hTr.out _).mono ?_
              rintro e z ⟨rfl, hz⟩
              exact ⟨_, rfl, rfl, hz⟩
            · intro vs W hW hd
              have e0 : vs 0 = .agg #[.int .u32 r0, .int .u32 r1, .int .u32 r2, .int .u32 r3, .int .u32 r4, .int .u32 r5, .int .u32 r6, .int .u32 r7, .int .i64 pc] := hd 0 (by decide)
              obtain ⟨j1, -⟩ : DoI W w.heap.size b [r0, r1, r2, r3, r4, r5, r6, r7] pc ⟨op, dn, sn, t', u, a', k', pl⟩ ∧ Below w.heap.size w W := id hW; obtain ⟨c0, c1, c2, c3, c4, c5, c6, c7, c8⟩ := j1.dc.cells; obtain ⟨z0, z1, z2, z3, z4, z5, z6, z7, z8⟩ := j1.dr.cells; have zf := Bk.free j1.dr; clear j1
              refine leavesIf_free rfl ?_
              clear hd
              go_simp
              exact ⟨rfl, doW_1 hW (.int .u32 r0) (.int .u32 r1) (.int .u32 r2) (.int .u32 r3) (.int .u32 r4) (.int .u32 r5) (.int .u32 r6) (.int .u32 r7) (.int .i64 pc)⟩
            · intro vs W hW hd
              have e1 : vs 1 = .agg #[.slice none 0 0, .int .i64 (-1), .int .i64 (-1), .bool false, .bool false, .int .i64 11] := hd 1 (by decide)
              obtain ⟨-, j2, -⟩ : Bk W (w.heap.size + 1) 66 #[.int .u32 r0, .int .u32 r1, .int .u32 r2, .int .u32 r3, .int .u32 r4, .int .u32 r5, .int .u32 r6, .int .u32 r7, .int .i64 pc] ∧ Bk W (w.heap.size + 1 + 1) 51 #[.slice none 0 0, .int .i64 0, .int .i64 0, .bool false, .bool false, .int .i64 0] ∧ Below w.heap.size w W := id hW; obtain ⟨z0, z1, z2, z3, z4, z5⟩ : W.cell? ⟨w.heap.size + 1 + 1, 0, none⟩ = some (.slice none 0 0) ∧ W.cell? ⟨w.heap.size + 1 + 1, 1, none⟩ = some (.int .i64 0) ∧ W.cell? ⟨w.heap.size + 1 + 1, 2, none⟩ = some (.int .i64 0) ∧ W.cell? ⟨w.heap.size + 1 + 1, 3, none⟩ = some (.bool false) ∧ W.cell? ⟨w.heap.size + 1 + 1, 4, none⟩ = some (.bool false) ∧ W.cell? ⟨w.heap.size + 1 + 1, 5, none⟩ = some (.int .i64 0) := ⟨j2.cell 0, j2.cell 1, j2.cell 2, j2.cell 3, j2.cell 4, j2.cell 5⟩; have zf := Bk.free j2; clear j2
              refine leavesIf_free rfl ?_
              clear hd
              go_simp
              exact ⟨rfl, doW_2 hW _ _ _ _ _ _⟩
          case gdone =>
            intro vs W hW hf
            have f0 : vs 0 = .agg #[.int .u32 r0, .int .u32 r1, .int .u32 r2, .int .u32 r3, .int .u32 r4, .int .u32 r5, .int .u32 r6, .int .u32 r7, .int .i64 pc] := hf 0 (by decide)
            have f1 : vs 1 = .agg #[.slice none 0 0, .int .i64 (-1), .int .i64 (-1), .bool false, .bool false, .int .i64 11] := hf 1 (by decide)
            simp only [f0, f1]
            clear f0 f1 hf
            obtain ⟨p1, p2, p3⟩ : Bk W (w.heap.size + 1) 66 #[.int .u32 r0, .int .u32 r1, .int .u32 r2, .int .u32 r3, .int .u32 r4, .int .u32 r5, .int .u32 r6, .int .u32 r7, .int .i64 pc] ∧ Bk W (w.heap.size + 1 + 1) 51 #[(.slice none 0 0), .int .i64 (-1), .int .i64 (-1), .bool false, .bool false, .int .i64 11] ∧ Below w.heap.size w W := id hW
            have HBE := Lib.hid p3
            clear hW p3 hD0 hTr
            obtain ⟨c0, c1, c2, c3, c4, c5, c6, c7, c8⟩ := Cb.cells (r0 := r0) (r1 := r1) (r2 := r2) (r3 := r3) (r4 := r4) (r5 := r5) (r6 := r6) (r7 := r7) (pc := pc) p1
            obtain ⟨o0, o1, o2, o3, o4, o5⟩ : W.cell? ⟨w.heap.size + 1 + 1, 0, none⟩ = some (.slice none 0 0) ∧ W.cell? ⟨w.heap.size + 1 + 1, 1, none⟩ = some (.int .i64 (-1)) ∧ W.cell? ⟨w.heap.size + 1 + 1, 2, none⟩ = some (.int .i64 (-1)) ∧ W.cell? ⟨w.heap.size + 1 + 1, 3, none⟩ = some (.bool false) ∧ W.cell? ⟨w.heap.size + 1 + 1, 4, none⟩ = some (.bool false) ∧ W.cell? ⟨w.heap.size + 1 + 1, 5, none⟩ = some (.int .i64 11) := ⟨p2.cell 0, p2.cell 1, p2.cell 2, p2.cell 3, p2.cell 4, p2.cell 5⟩
            go_wp
            exact bodyPost_ret (v := .tuple #[.agg #[.int .u32 r0, .int .u32 r1, .int .u32 r2, .int .u32 r3, .int .u32 r4, .int .u32 r5, .int .u32 r6, .int .u32 r7, .int .i64 pc], .agg #[(.slice none 0 0), .int .i64 (-1), .int .i64 (-1), .bool false, .bool false, .int .i64 11]]) (by simp [results, Tryz.results30, go_sem, c0, c1, c2, c3, c4, c5, c6, c7, c8, o0, o1, o2, o3, o4, o5]) rfl (by rw [HNo.out]; exact ⟨rfl, HBE.out⟩)
        | some a =>
          obtain ⟨AA, hAA⟩ : ∃ q, q = accW m.ws ⟨[r0, r1, r2, r3, r4, r5, r6, r7], pc⟩ late ⟨op, dn, sn, t', u, a', k', pl⟩ a := ⟨_, rfl⟩
          have hE8 : Eight [r0, r1, r2, r3, r4, r5, r6, r7] := by
            have := HE8.out
            rw [ec] at this
            exact this
          have hWu : U32s AA.ws := by rw [hAA]; exact accW_u32 HX.out.mc.ws hE8
          have hWl : AA.ws.length = m.ws.length := by rw [hAA]; exact accW_len
          have hE : Eight AA.c.xs := by rw [hAA]; exact accW_eight HX.out.mc.ws hE8
          have hal : a < m.ws.length := by
            unfold findM at hfm
            split at hfm
            · rename_i hc
              injection hfm with hfm
              have h3 := sz_eq HX.out.mem.right (k := a'.toNat) (by omega)
              have h4 := pre_lt (zs := k.zs) (a := a'.toNat) (p := (S % 4096).toNat) (by omega) (by omega)
              have h5 := HX.out.mc.len
              omega
            · cases hfm
          have HAcc0 := fun W (hW : Ex W X k m) => xAccess hW ⟨[r0, r1, r2, r3, r4, r5, r6, r7], pc⟩ ⟨op, dn, sn, t', u, a', k', pl⟩ k.l.length a late hE8 hHI.out HN.out.1 HN.out.2 hal hpp.out.1 hpp.out.2
          rw [← hAA] at HAcc0
          have HRs : Hid (R = some ⟨{ m with ws := AA.ws }, AA.c, a, AA.wrote, AA.stay⟩) := Lib.hid (by
            rw [HR.out]
            simp only [doM, if_neg HN.out.1, if_neg HN.out.2]
            simp [ES.out, hfm, ← hAA])
          have hAd : Hid (∀ W, Mm W X.p X.q X.g X.s k.zs m.ws → Calls Tryz.prog 54 #[.pointer (some ⟨X.p, 0, none⟩), .int .i64 a', .int .u32 S] W fun e w' => e = .returned (.tuple #[.int .i64 (a : Int), .bool true]) ∧ w' = W) := Lib.hid fun W hW => by
            unfold findM at hfm
            split at hfm
            · rename_i hc
              injection hfm with hfm
              obtain ⟨A0, rfl⟩ := Int.eq_ofNat_of_zero_le hc.1
              have h6 := cAddress hW A0 (by omega) S hS32.1 hS32.2 (by have := hc.2.2; rwa [Int.toNat_natCast] at this)
              refine h6.mono fun e w' hq => ⟨?_, hq.2.symm⟩
              rw [hq.1, ← hfm, Int.toNat_natCast]
            · cases hfm
          have hMm := Lib.hid HX2.out.mem
          clear hfm
          obtain ⟨WS, ⟨cxs, PC⟩, WR, ST⟩ := AA
          simp only at hWu hWl hE HRs HAcc0
          obtain ⟨s0, s1, s2, s3, s4, s5, s6, s7, rfl⟩ := eight_cons hE.1
          have HAcc : Hid (∀ W, Ex W X k m → Calls Tryz.prog 55 #[.pointer (some ⟨X.x, 0, none⟩), .agg #[.int .u32 r0, .int .u32 r1, .int .u32 r2, .int .u32 r3, .int .u32 r4, .int .u32 r5, .int .u32 r6, .int .u32 r7, .int .i64 pc], .agg #[.int .i64 op, .int .i64 dn, .int .i64 sn, .int .i64 t', .int .i64 u, .int .i64 a', .int .u32 k', .int .i64 pl], .int .i64 (a : Int), .bool late] W fun e w' => e = .returned (.tuple #[.agg #[.int .u32 s0, .int .u32 s1, .int .u32 s2, .int .u32 s3, .int .u32 s4, .int .u32 s5, .int .u32 s6, .int .u32 s7, .int .i64 PC], .agg #[(.slice none 0 0), .int .i64 (-1), .int .i64 a, .bool WR, .bool ST, .int .i64 0]]) ∧ Mm w' X.p X.q X.g X.s k.zs WS ∧ Only W w' X.g) := Lib.hid fun W hW => HAcc0 W hW
          have HWW := Lib.hid (And.intro hWu hWl)
          clear HAcc0 hWu hWl hE hAA hE8
          go_upto_region 3 with fail
          go_quiet ((go_at_call 54; exact Calls.quiet_of_same (hAd.out _ (hMm.out.drewN _))))
          have hI9 := hII.out.within ((Within.refl y (fun _ => False)).draws nq) (by simp)
          have hB9 := below_drewN hBB.out nq
          have hX9 := HX2.out.below (below_drewN (Below.refl _ _) nq)
          clear x3 x4 e0 e1 e2 e3 e4 e5 e6 e7 cS kx kn hAd hMm
          have hyn : Hid (b < (y.drewN nq).heap.size) := Lib.hid hLL.out.1
          generalize y.drewN nq = y5 at *
          obtain ⟨c0, c1, c2, c3, c4, c5, c6, c7, c8⟩ := hI9.dc.cells
          obtain ⟨e0, e1, e2, e3, e4, e5, e6, e7⟩ := hI9.di.cells
          simp only at e0 e1 e2 e3 e4 e5 e6 e7
          go_wp2_with fail
          refine (HAcc.out _ hX9).mono ?_
          rintro e y6 ⟨rfl, hM6, hO6⟩
          have hW6 : Within y5 y6 (fun i => i = X.g) := .of_grown hO6 (by rintro i e; injection e with e; exact .inl e.symm)
          have hg6 : X.g < w.heap.size := hOwn _ (.inr (.inr (.inr (.inr (.inr (.inl rfl))))))
          have hI6 := hI9.within hW6 (fun j hj _ e => by omega)
          have hX6 : Ex y6 { X with M := X.M } k { m with ws := WS } := hX9.words hM6 hO6 HWW.out.1 HWW.out.2
          have hS6 : XStays w k.n X y6 { X with M := X.M } := (XStays.of_grown hB9).then_ (XStays.words hO6)
          have hO7 : ∀ j, XP.Own { X with M := X.M } k.n j → j < w.heap.size ∨ b < j := fun j hj => .inl (hOwn j hj)
          clear hI9 hB9 hX9 c0 c1 c2 c3 c4 c5 c6 c7 c8 e0 e1 e2 e3 e4 e5 e6 e7 hM6 hO6 hW6 hg6 HAcc HWW
          obtain ⟨p1, p2, p3⟩ := DoI.end_ (s0 := s0) (s1 := s1) (s2 := s2) (s3 := s3) (s4 := s4) (s5 := s5) (s6 := s6) (s7 := s7) (PC := PC) (v0 := .slice none 0 0) (v1 := .int .i64 (-1)) (v2 := .int .i64 a) (v3 := .bool WR) (v4 := .bool ST) (v5 := .int .i64 0) hI6
          obtain ⟨c0, c1, c2, c3, c4, c5, c6, c7, c8⟩ := Cb.cells hI6.dc
          obtain ⟨z0, z1, z2, z3, z4, z5, z6, z7, z8⟩ := Cb.cells hI6.dr
          obtain ⟨x0, x1, x2, x3, x4, x5⟩ : y6.cell? ⟨w.heap.size + 1 + 1, 0, none⟩ = some (.slice none 0 0) ∧ y6.cell? ⟨w.heap.size + 1 + 1, 1, none⟩ = some (.int .i64 0) ∧ y6.cell? ⟨w.heap.size + 1 + 1, 2, none⟩ = some (.int .i64 0) ∧ y6.cell? ⟨w.heap.size + 1 + 1, 3, none⟩ = some (.bool false) ∧ y6.cell? ⟨w.heap.size + 1 + 1, 4, none⟩ = some (.bool false) ∧ y6.cell? ⟨w.heap.size + 1 + 1, 5, none⟩ = some (.int .i64 0) := ⟨hI6.de.cell 0, hI6.de.cell 1, hI6.de.cell 2, hI6.de.cell 3, hI6.de.cell 4, hI6.de.cell 5⟩
          have zf1 := Bk.free hI6.dr
          have zf2 := Bk.free hI6.de
          have HFI : Hid (∀ v, Within y6 v (fun i => w.heap.size ≤ i ∧ i ≤ b) → ∃ M', Ex v { X with M := M' } k { m with ws := WS } ∧ XStays w k.n X v { X with M := M' }) := Lib.hid fun v hv => ⟨X.M, hX6.far hv hO7, hS6.far hv (Nat.le_refl _)⟩
          clear hI6 hX6 hS6 hO7
          go_wp2
          generalize hv9 : ((((((((((((((((y6.setCell ⟨(w.heap.size + 1), 0, none⟩ (.int .u32 s0)).setCell ⟨(w.heap.size + 1), 1, none⟩ (.int .u32 s1)).setCell ⟨(w.heap.size + 1), 2, none⟩ (.int .u32 s2)).setCell ⟨(w.heap.size + 1), 3, none⟩ (.int .u32 s3)).setCell ⟨(w.heap.size + 1), 4, none⟩ (.int .u32 s4)).setCell ⟨(w.heap.size + 1), 5, none⟩ (.int .u32 s5)).setCell ⟨(w.heap.size + 1), 6, none⟩ (.int .u32 s6)).setCell ⟨(w.heap.size + 1), 7, none⟩ (.int .u32 s7)).setCell ⟨(w.heap.size + 1), 8, none⟩ (.int .i64 PC))).setCell ⟨(w.heap.size + 1 + 1), 0, none⟩ ((.slice none 0 0))).setCell ⟨(w.heap.size + 1 + 1), 1, none⟩ (.int .i64 (-1))).setCell ⟨(w.heap.size + 1 + 1), 2, none⟩ (.int .i64 a)).setCell ⟨(w.heap.size + 1 + 1), 3, none⟩ (.bool WR)).setCell ⟨(w.heap.size + 1 + 1), 4, none⟩ (.bool ST)).setCell ⟨(w.heap.size + 1 + 1), 5, none⟩ (.int .i64 0)) = v9
          replace hv9 : put6 (put9 y6 (w.heap.size + 1) (.int .u32 s0) (.int .u32 s1) (.int .u32 s2) (.int .u32 s3) (.int .u32 s4) (.int .u32 s5) (.int .u32 s6) (.int .u32 s7) (.int .i64 PC)) (w.heap.size + 1 + 1) (.slice none 0 0) (.int .i64 (-1)) (.int .i64 a) (.bool WR) (.bool ST) (.int .i64 0) = v9 := hv9
          rw [hv9] at p1 p2 p3
          have HFE := Lib.hid (HFI.out v9 p3)
          clear hv9 p3 HFI c0 c1 c2 c3 c4 c5 c6 c7 c8 z0 z1 z2 z3 z4 z5 z6 z7 z8 x0 x1 x2 x3 x4 x5 zf1 zf2
          obtain ⟨c0, c1, c2, c3, c4, c5, c6, c7, c8⟩ := p1.cells
          obtain ⟨o0, o1, o2, o3, o4, o5⟩ : v9.cell? ⟨w.heap.size + 1 + 1, 0, none⟩ = some (.slice none 0 0) ∧ v9.cell? ⟨w.heap.size + 1 + 1, 1, none⟩ = some (.int .i64 (-1)) ∧ v9.cell? ⟨w.heap.size + 1 + 1, 2, none⟩ = some (.int .i64 a) ∧ v9.cell? ⟨w.heap.size + 1 + 1, 3, none⟩ = some (.bool WR) ∧ v9.cell? ⟨w.heap.size + 1 + 1, 4, none⟩ = some (.bool ST) ∧ v9.cell? ⟨w.heap.size + 1 + 1, 5, none⟩ = some (.int .i64 0) := ⟨p2.cell 0, p2.cell 1, p2.cell 2, p2.cell 3, p2.cell 4, p2.cell 5⟩
          exact bodyPost_ret (v := .tuple #[.agg #[.int .u32 s0, .int .u32 s1, .int .u32 s2, .int .u32 s3, .int .u32 s4, .int .u32 s5, .int .u32 s6, .int .u32 s7, .int .i64 PC], .agg #[(.slice none 0 0), .int .i64 (-1), .int .i64 a, .bool WR, .bool ST, .int .i64 0]]) (by simp [results, Tryz.results30, go_sem, c0, c1, c2, c3, c4, c5, c6, c7, c8, o0, o1, o2, o3, o4, o5]) rfl (by rw [HRs.out]; exact ⟨rfl, HFE.out⟩)
  case rest =>
    obtain ⟨rfl, M', m', xs', h8, hI', hX', hS', hO', hRR⟩ := hcut
    clear hI e0 e1 e2 e3 e4 e5 e6 e7 x3 x4 cS kx kn
    obtain ⟨s0, s1, s2, s3, s4, s5, s6, s7, rfl⟩ := eight_cons h8
    obtain ⟨c0, c1, c2, c3, c4, c5, c6, c7, c8⟩ := hI'.dc.cells
    have zf := Bk.free hI'.dc
    replace hw1 := hw1.out
    have g3 := hI'.place (pc + 1)
    have hfar : Within wc (wc.setCell ⟨b, 8, none⟩ (.int .i64 (pc + 1))) (fun i => w.heap.size ≤ i ∧ i ≤ b) := (Within.refl _ _).put _ _ _ (.inl ⟨by have := hLL.out.2; omega, Nat.le_refl _⟩)
    have g1 := hX'.far hfar hO'
    have g2 := hS'.far hfar (Nat.le_refl _)
    go_upto_region 14 with fail
    clear hI' hX' hS' c0 c1 c2 c3 c4 c5 c6 c7 c8 zf hw1 hfar
    generalize wc.setCell ⟨b, 8, none⟩ (.int .i64 (pc + 1)) = y6 at *
    obtain ⟨p1, p2, p3⟩ := DoI.end_ (s0 := s0) (s1 := s1) (s2 := s2) (s3 := s3) (s4 := s4) (s5 := s5) (s6 := s6) (s7 := s7) (PC := (pc + 1)) (v0 := .slice none 0 0) (v1 := .int .i64 (-1)) (v2 := .int .i64 (-1)) (v3 := .bool false) (v4 := .bool false) (v5 := .int .i64 0) g3
    obtain ⟨c0, c1, c2, c3, c4, c5, c6, c7, c8⟩ := Cb.cells g3.dc
    obtain ⟨z0, z1, z2, z3, z4, z5, z6, z7, z8⟩ := Cb.cells g3.dr
    obtain ⟨x0, x1, x2, x3, x4, x5⟩ : y6.cell? ⟨w.heap.size + 1 + 1, 0, none⟩ = some (.slice none 0 0) ∧ y6.cell? ⟨w.heap.size + 1 + 1, 1, none⟩ = some (.int .i64 0) ∧ y6.cell? ⟨w.heap.size + 1 + 1, 2, none⟩ = some (.int .i64 0) ∧ y6.cell? ⟨w.heap.size + 1 + 1, 3, none⟩ = some (.bool false) ∧ y6.cell? ⟨w.heap.size + 1 + 1, 4, none⟩ = some (.bool false) ∧ y6.cell? ⟨w.heap.size + 1 + 1, 5, none⟩ = some (.int .i64 0) := ⟨g3.de.cell 0, g3.de.cell 1, g3.de.cell 2, g3.de.cell 3, g3.de.cell 4, g3.de.cell 5⟩
    have zf1 := Bk.free g3.dr
    have zf2 := Bk.free g3.de
    have HFI : Hid (∀ v, Within y6 v (fun i => w.heap.size ≤ i ∧ i ≤ b) → ∃ M', Ex v { X with M := M' } k m' ∧ XStays w k.n X v { X with M := M' }) := Lib.hid fun v hv => ⟨M', g1.far hv hO', g2.far hv (Nat.le_refl _)⟩
    clear g1 g2 g3 hO'
    go_wp
    generalize hv9 : ((((((((((((((((y6.setCell ⟨(w.heap.size + 1), 0, none⟩ (.int .u32 s0)).setCell ⟨(w.heap.size + 1), 1, none⟩ (.int .u32 s1)).setCell ⟨(w.heap.size + 1), 2, none⟩ (.int .u32 s2)).setCell ⟨(w.heap.size + 1), 3, none⟩ (.int .u32 s3)).setCell ⟨(w.heap.size + 1), 4, none⟩ (.int .u32 s4)).setCell ⟨(w.heap.size + 1), 5, none⟩ (.int .u32 s5)).setCell ⟨(w.heap.size + 1), 6, none⟩ (.int .u32 s6)).setCell ⟨(w.heap.size + 1), 7, none⟩ (.int .u32 s7)).setCell ⟨(w.heap.size + 1), 8, none⟩ (.int .i64 (pc + 1)))).setCell ⟨(w.heap.size + 1 + 1), 0, none⟩ ((.slice none 0 0))).setCell ⟨(w.heap.size + 1 + 1), 1, none⟩ (.int .i64 (-1))).setCell ⟨(w.heap.size + 1 + 1), 2, none⟩ (.int .i64 (-1))).setCell ⟨(w.heap.size + 1 + 1), 3, none⟩ (.bool false)).setCell ⟨(w.heap.size + 1 + 1), 4, none⟩ (.bool false)).setCell ⟨(w.heap.size + 1 + 1), 5, none⟩ (.int .i64 0)) = v9
    replace hv9 : put6 (put9 y6 (w.heap.size + 1) (.int .u32 s0) (.int .u32 s1) (.int .u32 s2) (.int .u32 s3) (.int .u32 s4) (.int .u32 s5) (.int .u32 s6) (.int .u32 s7) (.int .i64 (pc + 1))) (w.heap.size + 1 + 1) (.slice none 0 0) (.int .i64 (-1)) (.int .i64 (-1)) (.bool false) (.bool false) (.int .i64 0) = v9 := hv9
    rw [hv9] at p1 p2 p3
    have HFE := Lib.hid (HFI.out v9 p3)
    clear hv9 p3 HFI c0 c1 c2 c3 c4 c5 c6 c7 c8 z0 z1 z2 z3 z4 z5 z6 z7 z8 x0 x1 x2 x3 x4 x5 zf1 zf2
    obtain ⟨c0, c1, c2, c3, c4, c5, c6, c7, c8⟩ := p1.cells
    obtain ⟨o0, o1, o2, o3, o4, o5⟩ : v9.cell? ⟨w.heap.size + 1 + 1, 0, none⟩ = some (.slice none 0 0) ∧ v9.cell? ⟨w.heap.size + 1 + 1, 1, none⟩ = some (.int .i64 (-1)) ∧ v9.cell? ⟨w.heap.size + 1 + 1, 2, none⟩ = some (.int .i64 (-1)) ∧ v9.cell? ⟨w.heap.size + 1 + 1, 3, none⟩ = some (.bool false) ∧ v9.cell? ⟨w.heap.size + 1 + 1, 4, none⟩ = some (.bool false) ∧ v9.cell? ⟨w.heap.size + 1 + 1, 5, none⟩ = some (.int .i64 0) := ⟨p2.cell 0, p2.cell 1, p2.cell 2, p2.cell 3, p2.cell 4, p2.cell 5⟩
    exact bodyPost_ret (v := .tuple #[.agg #[.int .u32 s0, .int .u32 s1, .int .u32 s2, .int .u32 s3, .int .u32 s4, .int .u32 s5, .int .u32 s6, .int .u32 s7, .int .i64 (pc + 1)], .agg #[(.slice none 0 0), .int .i64 (-1), .int .i64 (-1), .bool false, .bool false, .int .i64 0]]) (by simp [results, Tryz.results30, go_sem, c0, c1, c2, c3, c4, c5, c6, c7, c8, o0, o1, o2, o3, o4, o5]) rfl (by rw [hRR.out]; exact ⟨rfl, HFE.out⟩)
end
end Go.Proofs.YtpinpipjlongaaaGreat
