/- Layer 12: Parse. -/
import Derived.Test.YtjhdpolaapbihaaDoorTrE
import Derived.Test.YtjhdpolaapbihaaDoorTrC
import Derived.Maps.OwnIn
import Derived.BigRegionIn
namespace Go.Proofs.YtjhdpolaapbihaaDoor
open Go.ChangeShapes Go.WideShapes Go.ChangeAt Go.RowKit Go.Shelf
attribute [local go_sem] Oper.semAt_some
set_option linter.unusedVariables false

/-- What Parse reads. -/
def readL (s : List UInt8) : List En × Nat × Int := readT (linesL s) []
theorem read_nil (acc : List En) : readT (linesL []) acc = (acc, acc.length, 0) := rfl
theorem read_last {t : List UInt8} (hn : Nl t) (ht : t ≠ []) (acc : List En) : readT (linesL t) acc = ([], acc.length, 8) := by
  rw [lines_last t hn ht, readT]
  split
  · rw [if_neg]
    intro e
    exact hn 10 (List.mem_of_getLast? e) rfl
  · rfl
theorem read_more {s : List UInt8} (r : List UInt8) (hn : Nl s) (acc : List En) : readT (linesL (s ++ 10 :: r)) acc = match docT s with
    | some x => readT (linesL r) (acc ++ [x])
    | none => ([], acc.length, 8) := by
  rw [lines_more s r hn, readT]
  have e1 : (s ++ [10]).dropLast = s := by simp
  have e2 : (s ++ [10]).getLast? = some 10 := by simp
  rw [e1, e2]
  cases docT s <;> simp

section
variable {P : Program} {F : Fence} {nF : Nat} {ops : Array Oper} {rest : List Oper} {o : Oper} {a : Act} {w : World} {Q : Exit → Act → World → Prop} {base : Nat} {t : TypeId} {size : Nat} {v : Value} {n : Nat} {xs : List Value}
/-- As wpOwn, inside a fence. -/
theorem wpOwnIn (hgd : o.guard = none) (s x : Operand) (ts : TypeId) (ho : o.op = Op.call { callee := Callee.builtin Builtin.append, args := #[s, x], argTypes := #[ts, ts] })
    (z : Value) (bytes : Nat) (ht : P.underlying ts = some (.slice t)) (hi : (P.info? t).map (fun i => (i.zero, i.size, i.bytes)) = some (some z, size, bytes)) (hz : z.cells.size = size) (hsz : 0 < size) (hby : bytes ≤ 200)
    (h : w.ownsRow base t size v n xs) (hs : a.eval s = v) (news : List Value) (hnl : news.length = size) (hone : ∀ u ∈ news, u.oneCell' = true) (B : Nat) (hx : a.eval x = .slice (some ⟨B, 0, none⟩) 1 1)
    (hB : ∀ j u, news[j]? = some u → w.cell? ((⟨B, 0, none⟩ : Addr).add j) = some u) (hl : n < 100000) (hbase : base ≤ w.heap.size)
    (hK : ∀ v' w', w'.ownsRow base t size v' (n + 1) (xs ++ news) → w.grownBy w' v.ownBlock → (v'.ownBlock = v.ownBlock ∨ v'.ownBlock = some w.heap.size) → wpListIn F nF P ops Q rest (a.put o.dst v') w') :
    wpListIn F nF P ops Q (o :: rest) a w := by
  obtain ⟨i0, hi0, hz0, hz1, hz2⟩ := info_parts hi
  refine wpListIn_append_own_at w hgd s x ts ho base t i0 _ size bytes ht hi0 hz0 hz1 hz2 hz hsz v n xs hs h ⟨B, 0, none⟩ 1 1 news hx (by omega) hB hone (by simp only [maxLen]; omega)
    (by have : (n + 1) * bytes ≤ 100001 * 200 := Nat.mul_le_mul (by omega) hby
        omega) hbase fun v' w' h2 h3 _ h5 => hK v' w' h2 h3 h5
end

/-- Three results, each in a block of its own. -/
def putR (W : World) (g : Nat) (a b c : Value) : World := ((W.setCell ⟨g, 0, none⟩ a).setCell ⟨g + 1, 0, none⟩ b).setCell ⟨g + 2, 0, none⟩ c
structure Rs (W : World) (h : Nat) (a b c : Value) : Prop where
  q0 : Bk W h 22 #[a]
  q1 : Bk W (h + 1) 3 #[b]
  q2 : Bk W (h + 2) 24 #[c]
theorem Rs.within {W W' : World} {h : Nat} {a b c : Value} {S : Nat → Prop} (r : Rs W h a b c) (k : Within W W' S) (hn : ∀ x, S x → h + 2 < x) : Rs W' h a b c :=
  ⟨r.q0.within k (fun e => by have := hn _ e; omega), r.q1.within k (fun e => by have := hn _ e; omega), r.q2.within k (fun e => by have := hn _ e; omega)⟩
theorem Rs.below {W W' : World} {h : Nat} {a b c : Value} (r : Rs W h a b c) (k : Below W.heap.size W W') : Rs W' h a b c :=
  ⟨(k.block _ r.q0.lt).trans r.q0, (k.block _ r.q1.lt).trans r.q1, (k.block _ r.q2.lt).trans r.q2⟩
theorem Rs.put {W : World} {h : Nat} {a b c : Value} (r : Rs W h a b c) (a' b' c' : Value) : Rs (putR W h a' b' c') h a' b' c' ∧ Within W (putR W h a' b' c') (fun x => x = h ∨ x = h + 1 ∨ x = h + 2) := by
  refine ⟨⟨?_, ?_, ?_⟩, ?_⟩
  · exact ((r.q0.put 0 a').off (by show h ≠ h + 1; omega) _).off (by show h ≠ h + 2; omega) _
  · exact ((r.q1.off (by show h + 1 ≠ h; omega) _).put 0 b').off (by show h + 1 ≠ h + 2; omega) _
  · exact ((r.q2.off (by show h + 2 ≠ h; omega) _).off (by show h + 2 ≠ h + 1; omega) _).put 0 c'
  · exact (((Within.refl W _).put h 0 a' (.inl (.inl rfl))).put (h + 1) 0 b' (.inl (.inr (.inl rfl)))).put (h + 2) 0 c' (.inl (.inr (.inr rfl)))
theorem below_of_withinB {B : Nat} {A W : World} {S : Nat → Prop} (h : Within A W S) (hs : ∀ b, S b → B ≤ b) (hB : B ≤ A.heap.size) : Below B A W := ⟨h.os, h.tape, h.output, h.size, fun i hi => h.block i (by omega) (fun e => by have := hs i e; omega)⟩

/-- Between two lines. -/
def parI (w : World) (text : List UInt8) (k : Nat) (W : World) : Prop :=
  ∃ (acc : List En) (t : List UInt8) (v : Value), Below w.heap.size w W ∧ Rs W w.heap.size (.slice none 0 0) (.int .i64 0) (.int .i64 0) ∧ Bk W (w.heap.size + 3) 22 #[v] ∧ EnO (w.heap.size + 7) 33 W v acc ∧
    acc.length ≤ k ∧ (linesL text).drop k = linesL t ∧ t.length ≤ text.length ∧ readL text = readT (linesL t) acc
/-- A line isn't right. -/
def parX (w : World) (text : List UInt8) (c : Code) (W : World) : Prop :=
  c = .ret ∧ ∃ n : Nat, Below w.heap.size w W ∧ Rs W w.heap.size (.slice none 0 0) (.int .i64 n) (.int .i64 8) ∧ readL text = ([], n, 8)
theorem par_calm {w : World} {text : List UInt8} : ∀ k, Calm (fun b => b = w.heap.size + 5 ∨ b = w.heap.size + 5 + 1 ∨ b = w.heap.size + 4) (parI w text k) := by
  rintro k A B ⟨acc, t, v, b2, q, q3, hO, h1, h2, h3, h4⟩ hw
  exact ⟨acc, t, v, b2.trans (below_of_withinB hw (B := w.heap.size) (by rintro b (rfl | rfl | rfl) <;> omega) b2.size), q.within hw (by rintro b (rfl | rfl | rfl) <;> omega), q3.within hw (by omega),
    hO.within hw (fun g e => by have := (hO.own_lt g e).1; omega), h1, h2, h3, h4⟩
theorem par_calmx {w : World} {text : List UInt8} : ∀ c, Calm (fun b => b = w.heap.size + 5 ∨ b = w.heap.size + 5 + 1 ∨ b = w.heap.size + 4) (parX w text c) := by
  rintro c A B ⟨rfl, n, b2, q, h⟩ hw
  exact ⟨rfl, n, b2.trans (below_of_withinB hw (B := w.heap.size) (by rintro b (rfl | rfl | rfl) <;> omega) b2.size), q.within hw (by rintro b (rfl | rfl | rfl) <;> omega), h⟩
/-- What Parse answers. -/
def Prs (w : World) (text : List UInt8) (e : Ending) (w' : World) : Prop :=
  ∃ v, e = .returned (.tuple #[v, .int .i64 ((readL text).2.1 : Nat), .int .i64 (readL text).2.2]) ∧ EnO w.heap.size 33 w' v (readL text).1 ∧ Below w.heap.size w w'
theorem par_start (w W : World) (hW : W = ((((w.alloc (.cells #[.slice none 0 0] 22)).alloc (.cells #[.int .i64 0] 3)).alloc (.cells #[.int .i64 0] 24)).alloc (.cells #[.slice none 0 0] 22))) :
    Below w.heap.size w W ∧ W.heap.size = w.heap.size + 4 ∧ Rs W w.heap.size (.slice none 0 0) (.int .i64 0) (.int .i64 0) ∧ Bk W (w.heap.size + 3) 22 #[.slice none 0 0] := by
  have h1 := Bk.made w 22 #[.slice none 0 0]
  have k0 : Within w (w.alloc (.cells #[.slice none 0 0] 22)) (fun _ => False) := (Within.refl _ _).alloc _
  generalize e1 : w.alloc (.cells #[.slice none 0 0] 22) = w1 at *
  have z1 : w1.heap.size = w.heap.size + 1 := by rw [← e1]; simp
  have h2 := Bk.made w1 3 #[.int .i64 0]
  have k1 : Within w1 (w1.alloc (.cells #[.int .i64 0] 3)) (fun _ => False) := (Within.refl _ _).alloc _
  generalize e2 : w1.alloc (.cells #[.int .i64 0] 3) = w2 at *
  have z2 : w2.heap.size = w.heap.size + 2 := by rw [← e2]; simp [z1]
  have h3 := Bk.made w2 24 #[.int .i64 0]
  have k2 : Within w2 (w2.alloc (.cells #[.int .i64 0] 24)) (fun _ => False) := (Within.refl _ _).alloc _
  generalize e3 : w2.alloc (.cells #[.int .i64 0] 24) = w3 at *
  have z3 : w3.heap.size = w.heap.size + 3 := by rw [← e3]; simp [z2]
  have h4 := Bk.made w3 22 #[.slice none 0 0]
  have k3 : Within w3 W (fun _ => False) := by rw [hW]; exact (Within.refl _ _).alloc _
  rw [← hW] at h4
  rw [z1] at h2
  rw [z2] at h3
  rw [z3] at h4
  have k13 := (k1.then_ k2 (by simp)).then_ k3 (by simp)
  have k23 := k2.then_ k3 (by simp)
  exact ⟨(k0.then_ k13 (by simp)).below (by simp), by rw [hW]; simp [z3], ⟨h1.within k13 (by simp), h2.within k23 (by simp), h3.within k3 (by simp)⟩, h4⟩
theorem par_fail {w W V : World} {text : List UInt8} {T : Nat → Prop} {n : Nat} {a b c : Value} (b2 : Below w.heap.size w W) (bV : Below W.heap.size W V) (q : Rs V w.heap.size a b c) (hT : ∀ b, T b → b < W.heap.size ∧ w.heap.size + 2 < b) (hres : readL text = ([], n, 8)) :
    Held T W (putR V w.heap.size (.slice none 0 0) (.int .i64 n) (.int .i64 8)).drew ∧ parX w text .ret (putR V w.heap.size (.slice none 0 0) (.int .i64 n) (.int .i64 8)).drew := by
  obtain ⟨R, kW⟩ := q.put (.slice none 0 0) (.int .i64 n) (.int .i64 8)
  have hz := bV.size
  have hz2 := b2.size
  generalize putR V w.heap.size (.slice none 0 0) (.int .i64 n) (.int .i64 8) = U at *
  have hU : Held T W U := ⟨Nat.le_trans hz kW.size, fun x hx => by
    have h1 := (hT x hx).1
    have h2 := (hT x hx).2
    exact (kW.block x (by omega) (by omega)).trans (bV.block x h1)⟩
  have bU : Below w.heap.size w U := (b2.trans (bV.mono hz2)).trans (below_of_withinB kW (B := w.heap.size) (by omega) (by omega))
  exact ⟨⟨hU.1, hU.2⟩, rfl, n, ⟨bU.os, bU.tape, bU.output, bU.size, bU.block⟩, ⟨R.q0, R.q1, R.q2⟩, hres⟩
theorem par_step {w W V : World} {text r : List UInt8} {acc : List En} {k capv : Nat} {av : Option Addr} {pk pt pn : Int} (b2 : Below w.heap.size w W) (bV : Below W.heap.size W V) (qV : Rs V w.heap.size (.slice none 0 0) (.int .i64 0) (.int .i64 0))
    (q4 : Bk V (w.heap.size + 3) 22 #[.slice av acc.length capv]) (hO : EnO (w.heap.size + 7) 33 V (.slice av acc.length capv) acc) (hsz : w.heap.size + 7 ≤ W.heap.size) (hak : acc.length ≤ k)
    (hdr : (linesL text).drop (k + 1) = linesL r) (hle : r.length ≤ text.length) (hG : readL text = readT (linesL r) (acc ++ [⟨pk, pt, pn⟩])) (w' : World) (v' : Value)
    (hown : w'.ownsRow (w.heap.size + 7) 33 3 v' (acc.length + 1) (ensC acc ++ enC ⟨pk, pt, pn⟩)) (hgr : (V.alloc (.cells #[.int .i64 pk, .int .i64 pt, .int .i64 pn] 33)).grownBy w' (Value.slice av acc.length capv).ownBlock) :
    w'.cell? ⟨w.heap.size + 3, 0, none⟩ = some (.slice av acc.length capv) ∧ w'.frozen? ⟨w.heap.size + 3, 0, none⟩ = false ∧ Held (fun b => b = w.heap.size + 5 ∨ b = w.heap.size + 5 + 1 ∨ b = w.heap.size + 4) W (w'.setCell ⟨w.heap.size + 3, 0, none⟩ v') ∧
      parI w text (k + 1) (w'.setCell ⟨w.heap.size + 3, 0, none⟩ v') := by
  have hz := bV.size
  have hz2 := b2.size
  have k1 : Within V (V.alloc (.cells #[.int .i64 pk, .int .i64 pt, .int .i64 pn] 33)) (fun x => w.heap.size + 7 ≤ x) := (Within.refl _ _).alloc _
  have hz3 := hgr.size
  rw [World.size_alloc] at hz3
  have k2 : Within V w' (fun x => w.heap.size + 7 ≤ x) := ⟨hgr.os.trans k1.os, hgr.tape.trans k1.tape, hgr.output.trans k1.output, by omega, fun x hx hn => by
    have h1 : some x ≠ (Value.slice av acc.length capv).ownBlock := fun e => hn (hO.own_lt x e.symm).1
    exact (hgr.block x (by rw [World.size_alloc]; omega) h1).trans (k1.block x hx hn)⟩
  have q4' := q4.within k2 (by omega)
  have qV' := qV.within k2 (fun x hx => by omega)
  have hU : Within w' (w'.setCell ⟨w.heap.size + 3, 0, none⟩ v') (fun x => x = w.heap.size + 3) := (Within.refl _ _).put _ 0 _ (.inl rfl)
  refine ⟨q4'.cell 0, q4'.free 0, ⟨Nat.le_trans hz (Nat.le_trans k2.size hU.size), fun x hx => ?_⟩, acc ++ [⟨pk, pt, pn⟩], r, v', ?_, ⟨qV'.q0.within hU (by omega), qV'.q1.within hU (by omega), qV'.q2.within hU (by omega)⟩, q4'.put 0 v', ?_, ?_, hdr, hle, hG⟩
  · have h1 : x < w.heap.size + 7 ∧ x ≠ w.heap.size + 3 := by rcases hx with rfl | rfl | rfl <;> omega
    exact (hU.block x (by have := k2.size; omega) (by omega)).trans ((k2.block x (by omega) (by omega)).trans (bV.block x (by omega)))
  · have h1 := below_of_withinB k2 (B := w.heap.size) (by omega) (by omega)
    have h2 := below_of_withinB hU (B := w.heap.size) (by omega) (by have := k2.size; omega)
    exact ((b2.trans (bV.mono hz2)).trans h1).trans h2
  · have h3 : EnO (w.heap.size + 7) 33 w' v' (acc ++ [⟨pk, pt, pn⟩]) := by
      unfold EnO
      rw [ensC_snoc, List.length_append]
      exact hown
    exact h3.within hU (fun g e => by have := (h3.own_lt g e).1; omega)
  · simp; omega
theorem eno_mono {base base' : Nat} {t : TypeId} {w : World} {v : Value} {l : List En} (h : EnO base t w v l) (hb : base' ≤ base) : EnO base' t w v l := by
  rcases h with ⟨h1, ⟨h2, h3⟩ | ⟨g, cap, cur, h2, h3, h4⟩⟩
  · exact ⟨h1, .inl ⟨h2, h3⟩⟩
  · exact ⟨h1, .inr ⟨g, cap, cur, h2, Nat.le_trans hb h3, h4⟩⟩
theorem par_two (s : List UInt8) : ∃ k t n b, parV s = .tuple #[.agg #[.int .i64 k, .int .i64 t, .int .i64 n], .bool b] ∧ docT s = if b = true then some ⟨k, t, n⟩ else none := by
  unfold parV
  cases docT s with
  | none => exact ⟨0, 0, 0, false, rfl, by simp⟩
  | some x => exact ⟨x.kind, x.th, x.now, true, rfl, by simp⟩

set_option maxHeartbeats 4000000 in
set_option maxRecDepth 100000 in
theorem cParseL (text : List UInt8) (hl : text.length < 20000) (w : World) (L : Lt w) : Calls Tryd.prog 13 #[bs text] w (Prs w text) := by
  refine (callsIn_wide (n := 0)).1 ?_
  refine callsIn_of_wp_marks Tryd.func13 rfl trivial ?_ rfl
  unfold bs
  simp only [Tryd.ntmps13, List.size_toArray, List.length_cons, List.length_nil, Nat.reduceAdd, Nat.reduceSub, Array.replicate_succ, Array.replicate_zero, List.push_toArray, List.append_toArray, List.nil_append, List.cons_append]
  have HLs := Lib.hid (fun W => (callsIn_wide (n := 0)).2 (lLines text W))
  obtain ⟨b0, s0, r0, r3⟩ := par_start w _ rfl
  gi_wp2
  refine ⟨trivial, rfl, ?_⟩
  generalize ((((w.alloc (.cells #[.slice none 0 0] 22)).alloc (.cells #[.int .i64 0] 3)).alloc (.cells #[.int .i64 0] 24)).alloc (.cells #[.slice none 0 0] 22)) = W0 at *
  refine (HLs.out _).mono ?_
  rintro e W1 ⟨rfl, rfl⟩
  have t1 := Bk.made W0 9 #[bs text]
  have h1 : Within W0 (W0.alloc (.cells #[bs text] 9)) (fun _ => False) := (Within.refl _ _).alloc _
  have s1 : (W0.alloc (.cells #[bs text] 9)).heap.size = w.heap.size + 5 := by simp [s0]
  rw [s0] at t1 ⊢
  replace b0 := b0.trans (below_of_withinB h1 (B := w.heap.size) (by simp) (by omega))
  replace r0 := r0.within h1 (by simp)
  replace r3 := r3.within h1 (by simp)
  generalize W0.alloc (.cells #[bs text] 9) = W1 at *
  clear h1 s0 HLs W0
  gi_wp2
  simp only [Nat.add_assoc, Nat.reduceAdd]
  have HI := Lib.hid (par_calm (w := w) (text := text))
  have HX := Lib.hid (par_calmx (w := w) (text := text))
  have t3 : ∀ W4, Below W1.heap.size W1 W4 → Bk W4 (w.heap.size + 4) 9 #[bs text] := fun W4 hb => (hb.block _ (by omega)).trans t1
  refine wpIn_range (gf := 34) (lb := #[.pointer (some ⟨w.heap.size + 4, 0, none⟩)]) rfl (enters_of Tryd.func34 (by kernel_rfl) rfl)
    (encs := fun k => #[bs (lineAt text k)]) (N := (linesL text).length) (T := fun x => x = w.heap.size + 4) (fun _ => rfl) (by omega) (by omega)
    (fun W4 hb4 hz4 => it_lines text _ _ W4 (t3 W4 hb4) (by omega)) (parI w text) (parX w text) (by rw [s1]; exact HI.out) (by rw [s1]; exact HX.out) ⟨[], text, _, b0, r0, r3, EnO.nil _ _ _, Nat.le_refl _, rfl, Nat.le_refl _, rfl⟩
    (fun k => { tmps := #[.string ⟨text.toArray⟩, undef, .pointer (some ⟨w.heap.size, 0, none⟩), .pointer (some ⟨w.heap.size + 1, 0, none⟩), .pointer (some ⟨w.heap.size + 2, 0, none⟩), .pointer (some ⟨w.heap.size + 3, 0, none⟩), .string ⟨(lineAt text k).toArray⟩, undef, undef, undef, undef, .string ⟨text.toArray⟩,
      .func (.func 34) #[] #[.pointer (some ⟨w.heap.size + 4, 0, none⟩)], .string ⟨(lineAt text k).toArray⟩, undef, undef, undef, undef, undef, undef, undef, undef, undef, undef, undef, undef, undef, undef, undef, undef, undef, undef, undef, undef, undef, undef, undef, undef, undef], defers := [] }) ?assign ?body ?done ?stop
  case assign =>
    intro l2 k W K hK
    unfold bs
    gi_wp2
    exact hK
  case body =>
    rintro l2 k W hk ⟨acc, t, v, b2, q, q3, hO, hak, hdr, htl, hgo⟩ hT
    simp only [s1] at hT ⊢
    have hsz : w.heap.size + 7 ≤ W.heap.size := hT (w.heap.size + 6) (.inr (.inl rfl))
    have hne : t ≠ [] := by
      rintro rfl
      have := congrArg List.length hdr
      simp [linesL] at this
      omega
    have hkl : k < 20000 := Nat.lt_of_lt_of_le hk (Nat.le_trans (lines_len text) (by omega))
    rcases first_nl t with hn | ⟨s, r, hn, rfl⟩
    · have hline : lineAt text k = t := by
        have := congrArg List.head? hdr
        rw [lines_last t hn hne] at this
        simp [List.head?_drop] at this
        simp [lineAt, List.getD_eq_getElem?_getD, this]
      have hres := hgo
      rw [read_last hn hne] at hres
      rw [hline]
      have hcut := lCut t [10] (by omega)
      obtain ⟨h1, h2⟩ := suf_no (s := t) (c := 10) (fun u e => hn 10 (by rw [e]; simp) rfl)
      rw [h1, h2] at hcut
      have HC := Lib.hid (fun W => CallsIn.inRound l2 ((callsIn_wide (n := 0)).2 (hcut W)))
      have HP := Lib.hid (fun W LW => CallsIn.inRound l2 ((callsIn_wide (n := 0)).2 (cParseLine t (by omega) W LW)))
      obtain ⟨pk, pt, pn, pb, hpv, _⟩ := par_two t
      rw [hpv] at HP
      have LW := L.below b2
      clear hgo hdr HI HX h1 h2 hcut hpv hline
      unfold bs at HC HP
      gi_wp2
      refine ⟨trivial, rfl, (HC.out W).mono ?_⟩
      rintro e W5 ⟨rfl, rfl⟩
      gi_wp2
      refine ⟨trivial, rfl, (HP.out W LW).mono ?_⟩
      rintro e W5 ⟨rfl, hW5⟩
      have bV := hW5.alloc (o := .cells #[.int .i64 pk, .int .i64 pt, .int .i64 pn] 33) hW5.size
      obtain ⟨av, capv, rfl, hc1, hc2, _⟩ := hO.is
      have qV := q.below bV
      have q4 : Bk (W5.alloc (.cells #[.int .i64 pk, .int .i64 pt, .int .i64 pn] 33)) (w.heap.size + 3) 22 #[.slice av acc.length capv] := (bV.block _ q3.lt).trans q3
      generalize hV : W5.alloc (.cells #[.int .i64 pk, .int .i64 pt, .int .i64 pn] 33) = V at *
      have HF := Lib.hid (par_fail b2 bV qV (T := fun b => b = w.heap.size + 5 ∨ b = w.heap.size + 5 + 1 ∨ b = w.heap.size + 4) (fun b hb => ⟨hT b hb, by rcases hb with rfl | rfl | rfl <;> omega⟩) hres)
      obtain ⟨q0, q1, q2⟩ := qV
      obtain ⟨v0, v1, v2, v3⟩ : V.cell? ⟨w.heap.size, 0, none⟩ = some (.slice none 0 0) ∧ V.cell? ⟨w.heap.size + 1, 0, none⟩ = some (.int .i64 0) ∧ V.cell? ⟨w.heap.size + 2, 0, none⟩ = some (.int .i64 0) ∧ V.cell? ⟨w.heap.size + 3, 0, none⟩ = some (.slice av acc.length capv) := ⟨q0.cell 0, q1.cell 0, q2.cell 0, q4.cell 0⟩
      have g0 := q0.free 0
      have g1 := q1.free 0
      have g2 := q2.free 0
      clear hres q q3 q4 bV hW5 hT
      gi_wp2
      clear hV
      gi_region
      all_goals
        gi_wp2
        exact HF.out
    · have hline : lineAt text k = s ++ [10] := by
        have := congrArg List.head? hdr
        rw [lines_more s r hn] at this
        simp [List.head?_drop] at this
        simp [lineAt, List.getD_eq_getElem?_getD, this]
      have hdr2 : (linesL text).drop (k + 1) = linesL r := by
        have := congrArg List.tail hdr
        rw [lines_more s r hn] at this
        simpa [List.tail_drop] using this
      have hle : s.length + (r.length + 1) ≤ text.length := by simpa using htl
      rw [read_more r hn] at hgo
      rw [hline]
      have hcut := lCut (s ++ [10]) [10] (by simp; omega)
      obtain ⟨h1, h2⟩ := suf_yes s 10
      rw [h1, h2] at hcut
      have HC := Lib.hid (fun W => CallsIn.inRound l2 ((callsIn_wide (n := 0)).2 (hcut W)))
      have HP := Lib.hid (fun W LW => CallsIn.inRound l2 ((callsIn_wide (n := 0)).2 (cParseLine s (by omega) W LW)))
      obtain ⟨pk, pt, pn, pb, hpv, hdoc⟩ := par_two s
      rw [hpv] at HP
      rw [hdoc] at hgo
      have LW := L.below b2
      clear hdr HI HX h1 h2 hcut hpv hline hdoc
      unfold bs at HC HP
      generalize s ++ [10] = sn at *
      gi_wp2
      refine ⟨trivial, rfl, (HC.out W).mono ?_⟩
      rintro e W5 ⟨rfl, rfl⟩
      gi_wp2
      refine ⟨trivial, rfl, (HP.out W LW).mono ?_⟩
      rintro e W5 ⟨rfl, hW5⟩
      have bV := hW5.alloc (o := .cells #[.int .i64 pk, .int .i64 pt, .int .i64 pn] 33) hW5.size
      have nV := Nb.made 33 W5 pk pt pn
      obtain ⟨av, capv, rfl, hc1, hc2, _⟩ := hO.is
      have qV := q.below bV
      have q4 : Bk (W5.alloc (.cells #[.int .i64 pk, .int .i64 pt, .int .i64 pn] 33)) (w.heap.size + 3) 22 #[.slice av acc.length capv] := (bV.block _ q3.lt).trans q3
      have hO2 := hO.below bV
      generalize hV : W5.alloc (.cells #[.int .i64 pk, .int .i64 pt, .int .i64 pn] 33) = V at *
      cases pb with
      | false =>
        have hres : readL text = ([], acc.length, 8) := by rw [hgo]; simp
        have HF := Lib.hid (par_fail b2 bV qV (T := fun b => b = w.heap.size + 5 ∨ b = w.heap.size + 5 + 1 ∨ b = w.heap.size + 4) (fun b hb => ⟨hT b hb, by rcases hb with rfl | rfl | rfl <;> omega⟩) hres)
        obtain ⟨q0, q1, q2⟩ := qV
        obtain ⟨v0, v1, v2, v3⟩ : V.cell? ⟨w.heap.size, 0, none⟩ = some (.slice none 0 0) ∧ V.cell? ⟨w.heap.size + 1, 0, none⟩ = some (.int .i64 0) ∧ V.cell? ⟨w.heap.size + 2, 0, none⟩ = some (.int .i64 0) ∧ V.cell? ⟨w.heap.size + 3, 0, none⟩ = some (.slice av acc.length capv) := ⟨q0.cell 0, q1.cell 0, q2.cell 0, q4.cell 0⟩
        have g0 := q0.free 0
        have g1 := q1.free 0
        have g2 := q2.free 0
        clear hres q q3 q4 bV hW5 hT hgo hO hO2 nV
        gi_wp2
        clear hV
        gi_region
        all_goals
          gi_wp2
          exact HF.out
      | true =>
        have HG : Hid (readL text = readT (linesL r) (acc ++ [⟨pk, pt, pn⟩])) := Lib.hid (by rw [hgo]; simp)
        obtain ⟨n0, n1, n2⟩ := nV.cells
        simp only at n0 n1 n2
        have v3 : V.cell? ⟨w.heap.size + 3, 0, none⟩ = some (.slice av acc.length capv) := q4.cell 0
        have hzV := bV.size
        have HO := Lib.hid (World.ownsRow.alloc hO2 (.cells #[.int .i64 pk, .int .i64 pt, .int .i64 pn] 33))
        have HN2 := Lib.hid (news_bk (Nb.made 33 V pk pt pn))
        have HBS : Hid (w.heap.size + 7 ≤ (V.alloc (.cells #[.int .i64 pk, .int .i64 pt, .int .i64 pn] 33)).heap.size) := Lib.hid (by rw [World.size_alloc]; omega)
        have HLn : Hid (acc.length < 100000) := Lib.hid (by omega)
        have HEND := Lib.hid (fun w' v' => par_step b2 bV qV q4 hO2 hsz hak hdr2 (show r.length ≤ text.length by omega) HG.out w' v')
        clear q q3 bV hW5 hT hgo hO hO2 nV q4 qV
        gi_wp2_with (gi_at_builtin; have h9 := HO.out; have h8 := HN2.out; have h7 := HLn.out; have h6 := HBS.out; refine wpOwnIn (base := w.heap.size + 7) (t := 33) (size := 3) rfl (.tmp 32) (.tmp 34) 22 ?h1 _ 24 ?h2 entInfo ?h3 ?h4 ?h5 h9 ?h10 (enC ⟨pk, pt, pn⟩) ?h11 (enC_one _) V.heap.size ?h12 h8 h7 h6 ?_; (case h1 => rfl); (case h2 => exact Tryd.underlying22); (case h3 => rfl); (case h4 => decide); (case h5 => decide); (case h10 => rfl); (case h11 => rfl); (case h12 => rfl); clear h6 h7 h8 h9; intro v' w' hown hgr hloc; obtain ⟨z3, f3, hend⟩ := HEND.out w' v' hown hgr; have HQ := Lib.hid hend; clear hend; obtain ⟨a3, cap3, rfl, _, _, _⟩ := own_is hown)
        exact HQ.out
  case done =>
    rintro W ⟨acc, t, v, b2, q, q3, hO, hak, hdr, htl, hgo⟩ hd
    have ht : t = [] := by
      rw [List.drop_of_length_le (Nat.le_refl _)] at hdr
      cases t with
      | nil => rfl
      | cons c u =>
        exfalso
        rcases first_nl (c :: u) with hn | ⟨s, r, hn, e⟩
        · rw [lines_last _ hn (by simp)] at hdr; cases hdr
        · rw [e, lines_more s r hn] at hdr; cases hdr
    subst ht
    rw [read_nil] at hgo
    have HG := Lib.hid hgo
    obtain ⟨av, capv, rfl, hc1, hc2, _⟩ := hO.is
    obtain ⟨q0, q1, q2⟩ := q
    obtain ⟨v0, v1, v2, v3⟩ : W.cell? ⟨w.heap.size, 0, none⟩ = some (.slice none 0 0) ∧ W.cell? ⟨w.heap.size + 1, 0, none⟩ = some (.int .i64 0) ∧ W.cell? ⟨w.heap.size + 2, 0, none⟩ = some (.int .i64 0) ∧ W.cell? ⟨w.heap.size + 3, 0, none⟩ = some (.slice av acc.length capv) := ⟨q0.cell 0, q1.cell 0, q2.cell 0, q3.cell 0⟩
    have g0 := q0.free 0
    have g1 := q1.free 0
    have g2 := q2.free 0
    have hzW := b2.size
    obtain ⟨R, kW⟩ := Rs.put ⟨q0, q1, q2⟩ (.slice av acc.length capv) (.int .i64 acc.length) (.int .i64 0)
    rw [s1] at hd
    have hdl := (Array.getElem?_eq_some_iff.1 hd).1
    have HEnd : Hid (∀ U : World, U = (putR W w.heap.size (.slice av acc.length capv) (.int .i64 acc.length) (.int .i64 0)).drew → U.heap[w.heap.size + 5]? = some (.deferred (some [])) ∧ Rs (U.putObj (w.heap.size + 5) (.deferred none)) w.heap.size (.slice av acc.length capv) (.int .i64 acc.length) (.int .i64 0) ∧ EnO w.heap.size 33 (U.putObj (w.heap.size + 5) (.deferred none)) (.slice av acc.length capv) acc ∧ Below w.heap.size w (U.putObj (w.heap.size + 5) (.deferred none))) := Lib.hid (by
      rintro U rfl
      have hO2 := hO.within kW (fun g e => by have := (hO.own_lt g e).1; omega)
      have hd2 := (kW.block _ hdl (by omega)).trans hd
      have bU := b2.trans (below_of_withinB kW (B := w.heap.size) (by omega) (by omega))
      generalize putR W w.heap.size (.slice av acc.length capv) (.int .i64 acc.length) (.int .i64 0) = U0 at *
      replace hO2 : EnO (w.heap.size + 7) 33 U0.drew _ _ := hO2
      replace hd2 : U0.drew.heap[w.heap.size + 5]? = _ := hd2
      replace R : Rs U0.drew _ _ _ _ := ⟨R.q0, R.q1, R.q2⟩
      replace bU : Below w.heap.size w U0.drew := ⟨bU.os, bU.tape, bU.output, bU.size, bU.block⟩
      generalize U0.drew = U at *
      have hpo := within_putObj U (w.heap.size + 5) (.deferred none) (fun b => b = w.heap.size + 5) rfl
      refine ⟨hd2, R.within hpo (by omega), ?_, bU.trans (below_of_withinB hpo (B := w.heap.size) (by omega) bU.size)⟩
      exact eno_mono (hO2.within hpo (fun g e => by have := (hO2.own_lt g e).1; omega)) (by omega))
    clear hO hdr htl q3 R kW hd hgo
    gi_wp2
    gi_region
    all_goals
      gi_wp2
      obtain ⟨hd2, R, hO, bl⟩ := HEnd.out ((((W.setCell ⟨w.heap.size, 0, none⟩ (.slice av acc.length capv)).setCell ⟨w.heap.size + 1, 0, none⟩ (.int .i64 acc.length)).setCell ⟨w.heap.size + 2, 0, none⟩ (.int .i64 0)).drew) rfl
      generalize (((W.setCell ⟨w.heap.size, 0, none⟩ (.slice av acc.length capv)).setCell ⟨w.heap.size + 1, 0, none⟩ (.int .i64 acc.length)).setCell ⟨w.heap.size + 2, 0, none⟩ (.int .i64 0)).drew = U at *
      rw [s1]
      refine ⟨by simp, .inl ⟨_, _, rfl, run_takeDeferred hd2, ?_⟩⟩
      generalize U.putObj (w.heap.size + 5) (.deferred none) = V2 at *
      obtain ⟨y0, y1, y2⟩ : V2.cell? ⟨w.heap.size, 0, none⟩ = some (.slice av acc.length capv) ∧ V2.cell? ⟨w.heap.size + 1, 0, none⟩ = some (.int .i64 acc.length) ∧ V2.cell? ⟨w.heap.size + 2, 0, none⟩ = some (.int .i64 0) := ⟨R.q0.cell 0, R.q1.cell 0, R.q2.cell 0⟩
      refine ⟨.tuple #[.slice av acc.length capv, .int .i64 acc.length, .int .i64 0], by simp [results, Tryd.results13, go_sem, y0, y1, y2], ?_⟩
      unfold Prs
      rw [HG.out]
      exact ⟨_, rfl, hO, bl⟩
  case stop =>
    rintro c W ⟨rfl, n, b2, q, hgo⟩ hd
    gi_wp2
    refine ⟨by simp, .inl ⟨_, _, rfl, run_takeDeferred hd, ?_⟩⟩
    have hpo := within_putObj W W1.heap.size (.deferred none) (fun b => b = W1.heap.size) rfl
    have q' := q.within hpo (by omega)
    have p0 := b2.trans (below_of_withinB hpo (B := w.heap.size) (by rintro b rfl; omega) b2.size)
    generalize W.putObj W1.heap.size (.deferred none) = V2 at *
    obtain ⟨y0, y1, y2⟩ : V2.cell? ⟨w.heap.size, 0, none⟩ = some (.slice none 0 0) ∧ V2.cell? ⟨w.heap.size + 1, 0, none⟩ = some (.int .i64 n) ∧ V2.cell? ⟨w.heap.size + 2, 0, none⟩ = some (.int .i64 8) := ⟨q'.q0.cell 0, q'.q1.cell 0, q'.q2.cell 0⟩
    refine ⟨.tuple #[.slice none 0 0, .int .i64 n, .int .i64 8], by simp [results, Tryd.results13, go_sem, y0, y1, y2], ?_⟩
    unfold Prs
    rw [hgo]
    exact ⟨_, rfl, EnO.nil _ _ _, p0⟩
end Go.Proofs.YtjhdpolaapbihaaDoor
