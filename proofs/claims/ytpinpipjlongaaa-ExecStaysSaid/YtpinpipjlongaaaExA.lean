/- A lock at work in memory; what the small functions of layer 10 (exec) return. -/
import Derived.Test.YtpinpipjlongaaaCoreM
import Derived.Test.YtpinpipjlongaaaArB
import Derived.Test.YtpinpipjlongaaaPool
import Derived.Test.YtpinpipjlongaaaCoreW
namespace Go.Proofs.Ytpinpipjlongaaa
set_option maxRecDepth 100000
open Go.ChangeShapes Go.WideShapes Go.ChangeAt Go.RowKit
set_option linter.unusedVariables false

/-- A list's elements from o on are others. -/
def putL : List Value → Nat → List Value → List Value
  | xs, _, [] => xs
  | xs, o, v :: vs => putL (xs.set o v) (o + 1) vs
/-- A block's cells from o on are others. -/
def putW (y : World) (g : Nat) : Nat → List Value → World
  | _, [] => y
  | o, v :: vs => putW (y.setCell ⟨g, o, none⟩ v) g (o + 1) vs
theorem putL_len : ∀ (vs xs : List Value) (o : Nat), (putL xs o vs).length = xs.length
  | [], xs, o => rfl
  | v :: vs, xs, o => by rw [putL, putL_len, List.length_set]
theorem putL_at : ∀ (vs xs : List Value) (o i : Nat), o + vs.length ≤ xs.length → (putL xs o vs)[i]? = if o ≤ i ∧ i < o + vs.length then vs[i - o]? else xs[i]?
  | [], xs, o, i, _ => by rw [putL, if_neg (by simp)]
  | v :: vs, xs, o, i, h => by
    simp only [List.length_cons] at h
    rw [putL, putL_at vs _ _ _ (by rw [List.length_set]; omega), List.length_cons]
    by_cases e : i = o
    · subst e
      rw [if_neg (by omega), if_pos (by omega), List.getElem?_set_self (by omega), Nat.sub_self]
      rfl
    · rw [List.getElem?_set_ne (fun e' => e e'.symm)]
      by_cases hi : o ≤ i ∧ i < o + (vs.length + 1)
      · rw [if_pos (by omega), if_pos hi, show i - o = (i - (o + 1)) + 1 by omega]
        rfl
      · rw [if_neg (by omega), if_neg hi]
theorem putW_bk {g : Nat} {t : TypeId} : ∀ (vs cs : List Value) (o : Nat) (y : World), Bk y g t cs.toArray → Bk (putW y g o vs) g t (putL cs o vs).toArray
  | [], cs, o, y, h => h
  | v :: vs, cs, o, y, h => by
    have h2 := h.put o v
    rw [List.setIfInBounds_toArray] at h2
    exact putW_bk vs _ (o + 1) _ h2
theorem putW_only {g : Nat} : ∀ (vs : List Value) (o : Nat) (y : World), Only y (putW y g o vs) g
  | [], o, y => grown_refl y _
  | v :: vs, o, y => grown_then (only_put y g o v) (putW_only vs (o + 1) _) (.inl rfl)
theorem putW_below {B : Nat} {w : World} {g : Nat} : ∀ (vs : List Value) (o : Nat) (y : World), Below B w y → B ≤ g → Below B w (putW y g o vs)
  | [], _, _, h, _ => h
  | v :: vs, o, y, h, hg => putW_below vs (o + 1) _ (h.setCell (p := ⟨g, o, none⟩) hg v) hg

theorem corC_len {xs : List Int} {pc : Int} (h : xs.length = 8) : (corC xs pc).length = 9 := by simp [corC, h]
/-- The cores of n threads, one behind the other. -/
def coresC (cs : Nat → Cor) (n : Nat) : List Value := (List.range n).flatMap fun t => corC (cs t).xs (cs t).pc
theorem flat_len {α : Type} (f : α → List Value) (n : Nat) : ∀ (l : List α), (∀ x ∈ l, (f x).length = n) → (l.flatMap f).length = l.length * n
  | [], _ => by simp
  | x :: l, h => by
    rw [List.flatMap_cons, List.length_append, h x (by simp), flat_len f n l (fun y hy => h y (by simp [hy])), List.length_cons, Nat.add_mul]
    omega
theorem flat_at' {α : Type} (f : α → List Value) (n : Nat) : ∀ (l : List α), (∀ x ∈ l, (f x).length = n) → ∀ (k j : Nat) (x : α), l[k]? = some x → j < n → (l.flatMap f)[k * n + j]? = (f x)[j]?
  | [], _, k, j, x, h, _ => by simp at h
  | y :: l, hf, 0, j, x, h, hj => by
    simp at h
    subst h
    simp [List.getElem?_append, hf, hj]
  | y :: l, hf, k + 1, j, x, h, hj => by
    have ih := flat_at' f n l (fun z hz => hf z (by simp [hz])) k j x (by simpa using h) hj
    rw [← ih, List.flatMap_cons, show (k + 1) * n + j = n + (k * n + j) by rw [Nat.add_mul]; omega, List.getElem?_append_right (by rw [hf y (by simp)]; omega), hf y (by simp)]
    congr 1
    omega
section
variable {cs : Nat → Cor} {n : Nat}
theorem coresC_len (h : ∀ t, t < n → Eight (cs t).xs) : (coresC cs n).length = n * 9 := by
  unfold coresC
  rw [flat_len _ 9 _ (fun t ht => corC_len (h t (List.mem_range.1 ht)).1), List.length_range]
theorem coresC_at (h : ∀ t, t < n → Eight (cs t).xs) {t j : Nat} (ht : t < n) (hj : j < 9) : (coresC cs n)[t * 9 + j]? = (corC (cs t).xs (cs t).pc)[j]? :=
  flat_at' _ 9 _ (fun t ht => corC_len (h t (List.mem_range.1 ht)).1) t j t (by simp [ht]) hj
theorem coresC_put (h : ∀ t, t < n → Eight (cs t).xs) {t : Nat} (ht : t < n) {c : Cor} (hc : Eight c.xs) : putL (coresC cs n) (t * 9) (corC c.xs c.pc) = coresC (updN cs t c) n := by
  have h2 := updN_eight (n := n) h hc t
  apply List.ext_getElem?
  intro i
  have hl := coresC_len h
  have hl2 := coresC_len h2
  have hcl := corC_len (pc := c.pc) hc.1
  have hle : t * 9 + 9 ≤ n * 9 := by omega
  rw [putL_at _ _ _ _ (by rw [hcl, hl]; exact hle), hcl]
  by_cases hi : i < n * 9
  · obtain ⟨s, j, hs, hj, rfl⟩ : ∃ s j, s < n ∧ j < 9 ∧ i = s * 9 + j := ⟨i / 9, i % 9, by omega, by omega, by omega⟩
    rw [coresC_at h2 hs hj, coresC_at h hs hj]
    by_cases e : s = t
    · subst e
      rw [if_pos (by omega), updN_same, show s * 9 + j - s * 9 = j by omega]
    · rw [if_neg (by omega), updN_other e]
  · rw [if_neg (by omega), List.getElem?_eq_none (by omega), List.getElem?_eq_none (by omega)]
end

theorem Mm.within {w w' : World} {p q g s : Nat} {zs xs : List Int} {S : Nat → Prop} (h : Mm w p q g s zs xs) (k : Within w w' S) (h1 : ¬ S p) (h2 : ¬ S q) (h3 : ¬ S g) (h4 : ¬ S s) : Mm w' p q g s zs xs :=
  ⟨h.ptr.within k h1, ⟨h.cel.ptr.within k h2, h.cel.row.within k h3, h.cel.rng, h.cel.few⟩, h.row.within k h4, h.right, h.len⟩
/-- Nodes, wherever they lie. -/
def PoolAt (w : World) (p n each : Nat) (M : PM) (pn : Pn) : Prop := ∃ fr os c, Pl w p n each M fr os c ∧ Same n each pn.free pn.gen pn.out fr os c

/-- Where a lock at work lies. -/
structure XP where
  x : Nat
  cv : Value
  kb : Nat
  p : Nat
  q : Nat
  g : Nat
  s : Nat
  pp : Nat
  M : PM
/-- All its blocks; those that calls may change. -/
def XP.Own (X : XP) (n i : Nat) : Prop := i = X.x ∨ X.cv.ownBlock = some i ∨ i = X.kb ∨ i = X.p ∨ i = X.q ∨ i = X.g ∨ i = X.s ∨ i = X.pp ∨ i = X.M.g ∨ X.M.Has n i
def XP.Has (X : XP) (n i : Nat) : Prop := i = X.kb ∨ i = X.g ∨ X.M.Has n i
theorem XP.has_own {X : XP} {n i : Nat} (h : X.Has n i) : X.Own n i := by
  rcases h with h | h | h
  · exact .inr (.inr (.inl h))
  · exact .inr (.inr (.inr (.inr (.inr (.inl h)))))
  · exact .inr (.inr (.inr (.inr (.inr (.inr (.inr (.inr (.inr h))))))))
/-- A lock at work. -/
structure Ex (w : World) (X : XP) (k : Lk) (m : Mc) : Prop where
  ptr : Bk w X.x 72 #[X.cv, .int .i64 k.lo, .int .i64 k.un, .pointer (some ⟨X.p, 0, none⟩), .pointer (some ⟨X.pp, 0, none⟩), .slice (some ⟨X.kb, 0, none⟩) k.n k.n]
  code : w.ownsRow 0 55 8 X.cv k.l.length (progC k.l)
  cores : Bk w X.kb 52 (coresC m.cs k.n).toArray
  mem : Mm w X.p X.q X.g X.s k.zs m.ws
  pool : PoolAt w X.pp k.n k.each X.M m.pn
  lk : OkLk k
  mc : OkMc k m

section
variable {w w' : World} {X : XP} {k : Lk} {m : Mc}
theorem Ex.kept {S : Nat → Prop} (h : Ex w X k m) (hw : Within w w' S) (hn : ∀ i, X.Own k.n i → ¬ S i) : Ex w' X k m := by
  obtain ⟨fr, os, c, hp, hs⟩ := h.pool
  unfold XP.Own at hn
  exact ⟨h.ptr.within hw (hn _ (.inl rfl)), own_within h.code hw (fun g e => hn g (.inr (.inl e))), h.cores.within hw (hn _ (.inr (.inr (.inl rfl)))),
    h.mem.within hw (hn _ (.inr (.inr (.inr (.inl rfl))))) (hn _ (.inr (.inr (.inr (.inr (.inl rfl)))))) (hn _ (.inr (.inr (.inr (.inr (.inr (.inl rfl))))))) (hn _ (.inr (.inr (.inr (.inr (.inr (.inr (.inl rfl)))))))),
    ⟨fr, os, c, hp.kept hw (hn _ (.inr (.inr (.inr (.inr (.inr (.inr (.inr (.inl rfl))))))))) (hn _ (.inr (.inr (.inr (.inr (.inr (.inr (.inr (.inr (.inl rfl)))))))))) (fun i hi => hn i (.inr (.inr (.inr (.inr (.inr (.inr (.inr (.inr (.inr hi)))))))))), hs⟩, h.lk, h.mc⟩
theorem Ex.below (h : Ex w X k m) (hb : Below w.heap.size w w') : Ex w' X k m := h.kept (within_of_below hb) (by simp)
theorem Ex.lt (h : Ex w X k m) {i : Nat} (hi : X.Own k.n i) : i < w.heap.size := by
  obtain ⟨fr, os, c, hp, hs⟩ := h.pool
  rcases hi with rfl | e | rfl | rfl | rfl | rfl | rfl | rfl | rfl | e
  · exact h.ptr.lt
  · exact (World.ownsRow.lt h.code i e).2
  · exact h.cores.lt
  · exact h.mem.ptr.lt
  · exact h.mem.cel.ptr.lt
  · exact h.mem.cel.row.lt
  · exact h.mem.row.lt
  · exact hp.p_lt
  · exact hp.g_lt
  · exact hp.lt e
theorem Ex.c0 (h : Ex w X k m) : w.cell? ⟨X.x, 0, none⟩ = some X.cv := by rw [h.ptr.cell]; rfl
theorem Ex.c1 (h : Ex w X k m) : w.cell? ⟨X.x, 1, none⟩ = some (.int .i64 k.lo) := by rw [h.ptr.cell]; rfl
theorem Ex.c2 (h : Ex w X k m) : w.cell? ⟨X.x, 2, none⟩ = some (.int .i64 k.un) := by rw [h.ptr.cell]; rfl
theorem Ex.c3 (h : Ex w X k m) : w.cell? ⟨X.x, 3, none⟩ = some (.pointer (some ⟨X.p, 0, none⟩)) := by rw [h.ptr.cell]; rfl
theorem Ex.c4 (h : Ex w X k m) : w.cell? ⟨X.x, 4, none⟩ = some (.pointer (some ⟨X.pp, 0, none⟩)) := by rw [h.ptr.cell]; rfl
theorem Ex.c5 (h : Ex w X k m) : w.cell? ⟨X.x, 5, none⟩ = some (.slice (some ⟨X.kb, 0, none⟩) k.n k.n) := by rw [h.ptr.cell]; rfl
/-- Its program, as a value. -/
theorem Ex.pv (h : Ex w X k m) : Pv w (.agg #[X.cv, .int .i64 k.lo, .int .i64 k.un]) ⟨k.l, k.lo, k.un⟩ ∧ ∃ a cap, X.cv = .slice a k.l.length cap := by
  obtain ⟨a, cap, e, h1, h2, _⟩ := own_is h.code
  have ho := h.code
  rw [e] at ho ⊢
  exact ⟨⟨a, cap, rfl, h1, h2, own_nil ho, sli_own ho⟩, a, cap, rfl⟩
/-- Thread t's core. -/
theorem Ex.core_at (h : Ex w X k m) {t : Nat} (ht : t < k.n) {j : Nat} (hj : j < 9) : w.cell? ⟨X.kb, t * 9 + j, none⟩ = (corC (m.cs t).xs (m.cs t).pc)[j]? := by
  rw [h.cores.cell, List.getElem?_toArray, coresC_at h.mc.cs ht hj]
theorem Ex.core (h : Ex w X k m) {t : Nat} (ht : t < k.n) {r0 r1 r2 r3 r4 r5 r6 r7 pc : Int} (e : m.cs t = ⟨[r0, r1, r2, r3, r4, r5, r6, r7], pc⟩) :
    w.cell? ⟨X.kb, t * 9, none⟩ = some (.int .u32 r0) ∧ w.cell? ⟨X.kb, t * 9 + 1, none⟩ = some (.int .u32 r1) ∧ w.cell? ⟨X.kb, t * 9 + 2, none⟩ = some (.int .u32 r2) ∧ w.cell? ⟨X.kb, t * 9 + 3, none⟩ = some (.int .u32 r3) ∧
    w.cell? ⟨X.kb, t * 9 + 4, none⟩ = some (.int .u32 r4) ∧ w.cell? ⟨X.kb, t * 9 + 5, none⟩ = some (.int .u32 r5) ∧ w.cell? ⟨X.kb, t * 9 + 6, none⟩ = some (.int .u32 r6) ∧ w.cell? ⟨X.kb, t * 9 + 7, none⟩ = some (.int .u32 r7) ∧ w.cell? ⟨X.kb, t * 9 + 8, none⟩ = some (.int .i64 pc) := by
  have H := fun j (hj : j < 9) => h.core_at ht hj
  rw [e] at H
  exact ⟨H 0 (by omega), H 1 (by omega), H 2 (by omega), H 3 (by omega), H 4 (by omega), H 5 (by omega), H 6 (by omega), H 7 (by omega), H 8 (by omega)⟩
theorem Ex.core_cons (h : Ex w X k m) {t : Nat} (ht : t < k.n) : ∃ r0 r1 r2 r3 r4 r5 r6 r7 pc, m.cs t = ⟨[r0, r1, r2, r3, r4, r5, r6, r7], pc⟩ := by
  obtain ⟨r0, r1, r2, r3, r4, r5, r6, r7, e⟩ := eight_cons (h.mc.cs t ht).1
  exact ⟨r0, r1, r2, r3, r4, r5, r6, r7, (m.cs t).pc, by rw [← e]⟩
theorem Ex.free (h : Ex w X k m) (i : Nat) : w.frozen? ⟨X.kb, i, none⟩ = false := h.cores.free i

/-- Thread t's core is another. -/
theorem Ex.put (h : Ex w X k m) {t : Nat} (ht : t < k.n) {c : Cor} (hc : Eight c.xs) : Ex (putW w X.kb (t * 9) (corC c.xs c.pc)) X k { m with cs := updN m.cs t c } := by
  have hW : Within w (putW w X.kb (t * 9) (corC c.xs c.pc)) (fun i => i = X.kb) := .of_grown (putW_only _ _ _) (by rintro i e; injection e with e; exact .inl e.symm)
  obtain ⟨fr, os, cn, hp, hs⟩ := h.pool
  have hb := putW_bk (corC c.xs c.pc) _ (t * 9) _ h.cores
  rw [coresC_put h.mc.cs ht hc] at hb
  refine ⟨h.ptr.within hW (Bk.unlike h.ptr h.cores (by decide)), own_within h.code hW (fun g e e2 => ?_), hb, h.mem.within hW (Bk.unlike h.mem.ptr h.cores (by decide)) (Bk.unlike h.mem.cel.ptr h.cores (by decide)) (Bk.unlike h.mem.cel.row h.cores (by decide)) (Bk.unlike h.mem.row h.cores (by decide)),
    ⟨fr, os, cn, hp.kept hW (Bk.unlike hp.ptr h.cores (by decide)) (Bk.unlike hp.row h.cores (by decide)) (fun i hi e => hp.not_has h.cores (by decide) (by decide) (e ▸ hi)), hs⟩, h.lk, ⟨h.mc.ws, h.mc.len, updN_eight h.mc.cs hc t⟩⟩
  obtain ⟨cs', hcs⟩ := own_bk h.code e
  exact Bk.unlike hcs h.cores (by decide) e2
/-- Its words are others. -/
theorem Ex.words (h : Ex w X k m) {ys : List Int} (hm : Mm w' X.p X.q X.g X.s k.zs ys) (ho : Only w w' X.g) (hu : U32s ys) (hl : ys.length = m.ws.length) : Ex w' X k { m with ws := ys } := by
  have hW : Within w w' (fun i => i = X.g) := .of_grown ho (by rintro i e; injection e with e; exact .inl e.symm)
  obtain ⟨fr, os, cn, hp, hs⟩ := h.pool
  have hr := h.mem.cel.row
  refine ⟨h.ptr.within hW (Bk.unlike h.ptr hr (by decide)), own_within h.code hW (fun g e e2 => ?_), h.cores.within hW (Bk.unlike h.cores hr (by decide)), hm,
    ⟨fr, os, cn, hp.kept hW (Bk.unlike hp.ptr hr (by decide)) (Bk.unlike hp.row hr (by decide)) (fun i hi e => hp.not_has hr (by decide) (by decide) (e ▸ hi)), hs⟩, h.lk, ⟨hu, hl.trans h.mc.len, h.mc.cs⟩⟩
  obtain ⟨cs', hcs⟩ := own_bk h.code e
  exact Bk.unlike hcs hr (by decide) e2
/-- Its nodes are others. -/
theorem Ex.nodes (h : Ex w X k m) {fr fr' : Nat → List Int} {os os' : Int → Bool} {c c' : Nat} {M' : PM} {pn' : Pn} (hp : Pl w X.pp k.n k.each X.M fr os c) (hp' : Pl w' X.pp k.n k.each M' fr' os' c') (hs : Same k.n k.each pn'.free pn'.gen pn'.out fr' os' c') (hst : Stays w k.n X.M w' M') : Ex w' { X with M := M' } k { m with pn := pn' } := by
  have hW := hst.2.1
  have nh : ∀ {q : Nat} {t : TypeId} {cs : Array Value}, Bk w q t cs → t ≠ 152 → t ≠ 49 → ¬ X.M.Has k.n q := fun hb h1 h2 => hp.not_has hb h1 h2
  refine ⟨h.ptr.within hW (nh h.ptr (by decide) (by decide)), own_within h.code hW (fun g e e2 => ?_), h.cores.within hW (nh h.cores (by decide) (by decide)), h.mem.within hW (nh h.mem.ptr (by decide) (by decide)) (nh h.mem.cel.ptr (by decide) (by decide)) (nh h.mem.cel.row (by decide) (by decide)) (nh h.mem.row (by decide) (by decide)),
    ⟨fr', os', c', hp', hs⟩, h.lk, ⟨h.mc.ws, h.mc.len, h.mc.cs⟩⟩
  obtain ⟨cs', hcs⟩ := own_bk h.code e
  exact nh hcs (by decide) (by decide) e2

/-- Behind a call: only what may change has changed; what is the lock's now was so, or is new. -/
def XStays (w : World) (n : Nat) (X : XP) (w' : World) (X' : XP) : Prop := Within w w' (X.Has n) ∧ (∀ i, X'.Own n i → X.Own n i ∨ w.heap.size ≤ i) ∧ (∀ i, X'.Has n i → X.Has n i ∨ w.heap.size ≤ i)
theorem XStays.refl (w : World) (n : Nat) (X : XP) : XStays w n X w X := ⟨Within.refl _ _, fun _ h => .inl h, fun _ h => .inl h⟩
theorem XStays.then_ {n : Nat} {w'' : World} {X' X'' : XP} (h : XStays w n X w' X') (k : XStays w' n X' w'' X'') : XStays w n X w'' X'' :=
  ⟨h.1.then_ k.1 h.2.2, fun i hi => by
    rcases k.2.1 i hi with e | e
    · exact h.2.1 i e
    · exact .inr (Nat.le_trans h.1.size e), fun i hi => by
    rcases k.2.2 i hi with e | e
    · exact h.2.2 i e
    · exact .inr (Nat.le_trans h.1.size e)⟩
theorem XStays.grown {n : Nat} {X' : XP} {w'' : World} (h : XStays w n X w' X') (k : Below w'.heap.size w' w'') : XStays w n X w'' X' :=
  h.then_ ⟨(within_of_below k).wide (by simp), fun _ h => .inl h, fun _ h => .inl h⟩
theorem XStays.of_grown {n : Nat} (k : Below w.heap.size w w') : XStays w n X w' X := (XStays.refl w n X).grown k
theorem XStays.put {n t : Nat} {vs : List Value} : XStays w n X (putW w X.kb t vs) X := ⟨.of_grown (putW_only _ _ _) (by rintro i e; injection e with e; exact .inl (.inl e.symm)), fun _ h => .inl h, fun _ h => .inl h⟩
theorem XStays.words {n : Nat} (ho : Only w w' X.g) : XStays w n X w' X := ⟨.of_grown ho (by rintro i e; injection e with e; exact .inl (.inr (.inl e.symm))), fun _ h => .inl h, fun _ h => .inl h⟩
theorem XStays.nodes {n : Nat} {M' : PM} (hs : Stays w n X.M w' M') : XStays w n X w' { X with M := M' } := by
  refine ⟨hs.2.1.wide (fun i e _ => .inr (.inr e)), fun i hi => ?_, fun i hi => ?_⟩
  · rcases hi with e | e | e | e | e | e | e | e | e | e
    · exact .inl (.inl e)
    · exact .inl (.inr (.inl e))
    · exact .inl (.inr (.inr (.inl e)))
    · exact .inl (.inr (.inr (.inr (.inl e))))
    · exact .inl (.inr (.inr (.inr (.inr (.inl e)))))
    · exact .inl (.inr (.inr (.inr (.inr (.inr (.inl e))))))
    · exact .inl (.inr (.inr (.inr (.inr (.inr (.inr (.inl e)))))))
    · exact .inl (.inr (.inr (.inr (.inr (.inr (.inr (.inr (.inl e))))))))
    · exact .inl (.inr (.inr (.inr (.inr (.inr (.inr (.inr (.inr (.inl (e.trans hs.1))))))))))
    · rcases hs.2.2 i e with e | e
      · exact .inl (.inr (.inr (.inr (.inr (.inr (.inr (.inr (.inr (.inr e)))))))))
      · exact .inr e
  · rcases hi with e | e | e
    · exact .inl (.inl e)
    · exact .inl (.inr (.inl e))
    · rcases hs.2.2 i e with e | e
      · exact .inl (.inr (.inr e))
      · exact .inr e

/-- What a step comes to, as a value. -/
def otV (v : Value) (o : Ot) : Value := .agg #[v, .int .i64 o.done, .int .i64 o.addr, .bool o.wrote, .bool o.stay, .int .i64 o.e]

theorem xThread (h : Ex w X k m) (t : Nat) (ht : t < k.n) :
    Calls Try.prog 20 #[.pointer (some ⟨X.x, 0, none⟩), .int .i64 t] w fun e w' => e = .returned (.bool true) ∧ w = w' := by
  have c5 := h.c5
  have hf := h.lk.n64
  go_enter Try.func20, Try.ntmps20
  go_wp2
  go_ret
  exact ⟨rfl, rfl⟩

theorem xTrap (w : World) :
    Calls Try.prog 21 #[] w fun e w' => e = .returned (otV (.slice none 0 0) trapO) ∧ Below w.heap.size w w' := by
  unfold otV trapO
  go_enter Try.func21, Try.ntmps21
  go_wp2
  refine bodyPost_ret (v := .agg #[.slice none 0 0, .int .i64 (-1), .int .i64 (-1), .bool false, .bool false, .int .i64 11]) (by simp [results, Try.results21, go_sem]) rfl ⟨rfl, (Below.refl _ _).alloc (Nat.le_refl _) _⟩

theorem xWords (h : Ex w X k m) :
    Calls Try.prog 10 #[.pointer (some ⟨X.x, 0, none⟩)] w (Told w X.q X.g m.ws) := by
  have c3 := h.c3
  have d0 := h.mem.c0
  have hc := h.mem.cel
  go_enter Try.func10, Try.ntmps10
  go_wp2_with fail
  refine (cWords hc).mono ?_
  rintro e w' ⟨q, rfl, h1, h2, h3, h4⟩
  go_wp2
  go_ret
  exact ⟨q, rfl, h1, h2, h3, h4⟩
end
end Go.Proofs.Ytpinpipjlongaaa
