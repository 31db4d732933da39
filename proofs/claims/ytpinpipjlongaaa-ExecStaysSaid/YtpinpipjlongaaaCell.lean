/- What each function of layer 2 (cell) returns, and what cells are then: one contract a function, for every list of words of 32 bits, every address that there is, every word. -/
import Derived.Test.YtpinpipjlongaaaMem
import Derived.Laws.LoneSync
import Derived.Laws.Pointers
namespace Go.Proofs.Ytpinpipjlongaaa
set_option maxRecDepth 100000
open Go.ChangeShapes Go.WideShapes Go.ChangeAt Go.RowKit

/-- What SwapUint32 does where a number is. -/
theorem run_call_swap {P : Program} {f : FuncId} {fn : Func} (hf : P.funcs[f]? = some fn) (hname : (fn.name == "runtime.NumGoroutine") = false) (hb : fn.body.isNone = true) (hn : Extern.findNext fn = none) (k : IntKind)
    (he : Extern.find fn = some (Extern.Atomic.swapT (.int k))) {a : Addr} {x y : Int} {w : World} (hc : w.cell? a = some (.int k x)) (hz : w.frozen? a = false) :
    (callFunc f #[.pointer (some a), .int k y]).run P w = .ok (.value (.int k x)) (w.setCell a (.int k y)) := by
  rw [run_callFunc_extern hf hname hb hn he]
  change (Sem.run P (asAddr (.pointer (some a)) >>= fun b => Extern.Atomic.read (.int k) b >>= fun old => store b (.int k y) .atomic >>= fun _ => pure old) w).andThen _ = _
  simp [Extern.Atomic.read, asAddr, hc, hz, run_store P w a (.int k y) .atomic rfl, Result.andThen]

/-- Cells of the words xs: the struct is block p, the words are block g. -/
structure Cel (w : World) (p g : Nat) (xs : List Int) : Prop where
  ptr : Bk w p 106 #[.slice (some ⟨g, 0, none⟩) xs.length xs.length]
  row : Bk w g 110 (words xs)
  rng : U32s xs
  few : xs.length ≤ 8192

theorem Cel.ne {w : World} {p g : Nat} {xs : List Int} (h : Cel w p g xs) : p ≠ g := h.ptr.unlike h.row (by decide)
theorem Cel.alloc {w : World} {p g : Nat} {xs : List Int} (h : Cel w p g xs) (o : Obj) : Cel (w.alloc o) p g xs := ⟨h.ptr.alloc o, h.row.alloc o, h.rng, h.few⟩
theorem Cel.drewN {w : World} {p g : Nat} {xs : List Int} (h : Cel w p g xs) (n : Nat) : Cel (w.drewN n) p g xs := ⟨h.ptr, h.row, h.rng, h.few⟩
theorem Cel.kept {w w' : World} {p g : Nat} {xs : List Int} (h : Cel w p g xs) {r : Option Nat} (hg : w.grownBy w' r) (h1 : some p ≠ r) (h2 : some g ≠ r) : Cel w' p g xs :=
  ⟨h.ptr.grown hg h1, h.row.grown hg h2, h.rng, h.few⟩
theorem Cel.put {w : World} {p g : Nat} {xs : List Int} (h : Cel w p g xs) (i : Nat) (v : Int) (hv : 0 ≤ v ∧ v < 4294967296) :
    Cel (w.setCell ⟨g, i, none⟩ (.int .u32 v)) p g (xs.set i v) := by
  refine ⟨?_, ?_, h.rng.set i v hv, by simpa using h.few⟩
  · simpa using h.ptr.off (p := ⟨g, i, none⟩) h.ne (.int .u32 v)
  · simpa [words_set] using h.row.put i (.int .u32 v)

section
variable {w : World} {p g : Nat} {xs : List Int}
theorem Cel.c0 (h : Cel w p g xs) : w.cell? ⟨p, 0, none⟩ = some (.slice (some ⟨g, 0, none⟩) xs.length xs.length) := by rw [h.ptr.cell]; rfl
theorem Cel.at_ (h : Cel w p g xs) {i : Nat} (hi : i < xs.length) : w.cell? ⟨g, i, none⟩ = some (.int .u32 (nth xs i)) := by rw [h.row.cell, words_at xs i hi]

theorem cHas (h : Cel w p g xs) (a : Nat) (ha : a < xs.length) :
    Calls Try.prog 51 #[.pointer (some ⟨p, 0, none⟩), .int .i64 a] w fun e w' => e = .returned (.bool true) ∧ w = w' := by
  have h0 := h.c0
  have hf := h.few
  go_enter Try.func51, Try.ntmps51
  go_wp2
  go_ret
  exact ⟨rfl, rfl⟩

theorem aLoad (b i : Nat) (x : Int) (w : World) (hc : w.cell? ⟨b, i, none⟩ = some (.int .u32 x)) :
    Calls Try.prog 37 #[.pointer (some ⟨b, i, none⟩)] w fun e w' => e = .returned (.int .u32 x) ∧ w = w' := by
  have hl := run_call_load (P := Try.prog) Try.func56 (by kernel_rfl) (by kernel_rfl) (by kernel_rfl) .u32 (by kernel_rfl) hc
  go_enter Try.func37, Try.ntmps37
  go_wp2
  go_ret
  exact ⟨rfl, rfl⟩

theorem aStore (b i : Nat) (x y : Int) (w : World) (hc : w.cell? ⟨b, i, none⟩ = some (.int .u32 x)) (hz : w.frozen? ⟨b, i, none⟩ = false) :
    Calls Try.prog 52 #[.pointer (some ⟨b, i, none⟩), .int .u32 y] w fun e w' => e = .returned (.tuple #[]) ∧ w' = w.setCell ⟨b, i, none⟩ (.int .u32 y) := by
  have hl := run_call_store (P := Try.prog) Try.func73 (by kernel_rfl) (by kernel_rfl) (by kernel_rfl) (by kernel_rfl) (k := .u32) (y := y) hc hz
  go_enter Try.func52, Try.ntmps52
  go_wp2
  go_end0
  exact ⟨rfl, rfl⟩

theorem aSwap (b i : Nat) (x y : Int) (w : World) (hc : w.cell? ⟨b, i, none⟩ = some (.int .u32 x)) (hz : w.frozen? ⟨b, i, none⟩ = false) :
    Calls Try.prog 77 #[.pointer (some ⟨b, i, none⟩), .int .u32 y] w fun e w' => e = .returned (.int .u32 x) ∧ w' = w.setCell ⟨b, i, none⟩ (.int .u32 y) := by
  have hl := run_call_swap (P := Try.prog) Try.func81 (by kernel_rfl) (by kernel_rfl) (by kernel_rfl) .u32 (by kernel_rfl) (y := y) hc hz
  go_enter Try.func77, Try.ntmps77
  go_wp2
  go_ret
  exact ⟨rfl, rfl⟩

theorem aCasHit (b i : Nat) (x y : Int) (w : World) (hc : w.cell? ⟨b, i, none⟩ = some (.int .u32 x)) (hz : w.frozen? ⟨b, i, none⟩ = false) :
    Calls Try.prog 78 #[.pointer (some ⟨b, i, none⟩), .int .u32 x, .int .u32 y] w fun e w' => e = .returned (.bool true) ∧ w' = w.setCell ⟨b, i, none⟩ (.int .u32 y) := by
  have hl := run_call_cas_hit (P := Try.prog) Try.func82 (by kernel_rfl) (by kernel_rfl) (by kernel_rfl) .u32 (by kernel_rfl) (y := y) hc hz
  go_enter Try.func78, Try.ntmps78
  go_wp2
  go_ret
  exact ⟨rfl, rfl⟩

theorem aCasMiss (b i : Nat) (x o y : Int) (hne : ¬ x = o) (w : World) (hc : w.cell? ⟨b, i, none⟩ = some (.int .u32 x)) (hz : w.frozen? ⟨b, i, none⟩ = false) :
    Calls Try.prog 78 #[.pointer (some ⟨b, i, none⟩), .int .u32 o, .int .u32 y] w fun e w' => e = .returned (.bool false) ∧ w = w' := by
  have hl := run_call_cas_miss (P := Try.prog) Try.func82 (by kernel_rfl) (by kernel_rfl) (by kernel_rfl) .u32 (by kernel_rfl) (y := y) hc hz hne
  go_enter Try.func78, Try.ntmps78
  go_wp2
  go_ret
  exact ⟨rfl, rfl⟩

theorem add_u32 (x y : Int) (w : World) : (Op.intArith .add .u32 x y).run Try.prog w = .ok (.int .u32 ((x + y) % 4294967296)) w := by
  simp [Op.intArith, IntKind.wrap, IntKind.signed, IntKind.bits]

theorem aAdd (b i : Nat) (x y : Int) (w : World) (hc : w.cell? ⟨b, i, none⟩ = some (.int .u32 x)) (hz : w.frozen? ⟨b, i, none⟩ = false) :
    Calls Try.prog 79 #[.pointer (some ⟨b, i, none⟩), .int .u32 y] w fun e w' => e = .returned (.int .u32 ((x + y) % 4294967296)) ∧ w' = w.setCell ⟨b, i, none⟩ (.int .u32 ((x + y) % 4294967296)) := by
  have hl := run_call_add (P := Try.prog) Try.func83 (by kernel_rfl) (by kernel_rfl) (by kernel_rfl) .u32 (by kernel_rfl) (y := y) hc hz (add_u32 x y w)
  go_enter Try.func79, Try.ntmps79
  go_wp2
  go_ret
  exact ⟨rfl, rfl⟩

def two32 (n : Int) : Int := n % 4294967296
theorem two32_b (n : Int) : 0 ≤ two32 n ∧ two32 n < 4294967296 := by unfold two32; omega

theorem cLoad (h : Cel w p g xs) (a : Nat) (ha : a < xs.length) :
    Calls Try.prog 63 #[.pointer (some ⟨p, 0, none⟩), .int .i64 a] w fun e w' => e = .returned (.int .u32 (nth xs a)) ∧ w = w' := by
  have h0 := h.c0
  have h1 := h.at_ ha
  have hf := h.few
  go_enter Try.func63, Try.ntmps63
  go_wp2_with fail
  refine (cHas h a ha).mono ?_
  rintro e w' ⟨rfl, rfl⟩
  go_wp2_with fail
  refine (aLoad g a (nth xs a) w h1).mono ?_
  rintro e w' ⟨rfl, rfl⟩
  go_wp2
  go_ret
  exact ⟨rfl, rfl⟩

/-- Behind an access: what it tells, what the words are; nothing else has changed. -/
def Did (w : World) (p g : Nat) (v : Value) (ys : List Int) (e : Ending) (w' : World) : Prop := e = .returned v ∧ Cel w' p g ys ∧ Only w w' g

theorem cStore (h : Cel w p g xs) (a : Nat) (ha : a < xs.length) (v : Int) (hv : 0 ≤ v ∧ v < 4294967296) :
    Calls Try.prog 34 #[.pointer (some ⟨p, 0, none⟩), .int .i64 a, .int .u32 v] w (Did w p g (.tuple #[]) (xs.set a v)) := by
  have h0 := h.c0
  have h1 := h.at_ ha
  have hf := h.few
  go_enter Try.func34, Try.ntmps34
  go_wp2_with fail
  refine (cHas h a ha).mono ?_
  rintro e w' ⟨rfl, rfl⟩
  go_wp2_with fail
  refine (aStore g a (nth xs a) v w h1 (h.row.free _)).mono ?_
  rintro e w' ⟨rfl, rfl⟩
  go_wp2
  go_end0
  exact ⟨rfl, h.put a v hv, only_put _ _ _ _⟩

theorem cSwap (h : Cel w p g xs) (a : Nat) (ha : a < xs.length) (v : Int) (hv : 0 ≤ v ∧ v < 4294967296) :
    Calls Try.prog 64 #[.pointer (some ⟨p, 0, none⟩), .int .i64 a, .int .u32 v] w (Did w p g (.int .u32 (nth xs a)) (xs.set a v)) := by
  have h0 := h.c0
  have h1 := h.at_ ha
  have hf := h.few
  go_enter Try.func64, Try.ntmps64
  go_wp2_with fail
  refine (cHas h a ha).mono ?_
  rintro e w' ⟨rfl, rfl⟩
  go_wp2_with fail
  refine (aSwap g a (nth xs a) v w h1 (h.row.free _)).mono ?_
  rintro e w' ⟨rfl, rfl⟩
  go_wp2
  go_ret
  exact ⟨rfl, h.put a v hv, only_put _ _ _ _⟩

theorem cAdd (h : Cel w p g xs) (a : Nat) (ha : a < xs.length) (v : Int) (_ : 0 ≤ v ∧ v < 4294967296) :
    Calls Try.prog 66 #[.pointer (some ⟨p, 0, none⟩), .int .i64 a, .int .u32 v] w (Did w p g (.int .u32 (nth xs a)) (xs.set a (two32 (nth xs a + v)))) := by
  have h0 := h.c0
  have h1 := h.at_ ha
  have hf := h.few
  have hx := h.rng.at_ a
  have hp := h.put a (two32 (nth xs a + v)) (two32_b _)
  have ho := only_put w g a (.int .u32 (two32 (nth xs a + v)))
  go_enter Try.func66, Try.ntmps66
  go_wp2_with fail
  refine (cHas h a ha).mono ?_
  rintro e w' ⟨rfl, rfl⟩
  go_wp2_with fail
  refine (aAdd g a (nth xs a) v w h1 (h.row.free _)).mono ?_
  rintro e w' ⟨rfl, rfl⟩
  go_wp2
  go_ret
  exact ⟨ret_int (by omega), hp, ho⟩

theorem cCasHit (h : Cel w p g xs) (a : Nat) (ha : a < xs.length) (v : Int) (hv : 0 ≤ v ∧ v < 4294967296) :
    Calls Try.prog 65 #[.pointer (some ⟨p, 0, none⟩), .int .i64 a, .int .u32 (nth xs a), .int .u32 v] w (Did w p g (.bool true) (xs.set a v)) := by
  have h0 := h.c0
  have h1 := h.at_ ha
  have hf := h.few
  have hp := h.put a v hv
  go_enter Try.func65, Try.ntmps65
  go_wp2_with fail
  refine (cHas h a ha).mono ?_
  rintro e w' ⟨rfl, rfl⟩
  go_wp2_with fail
  refine (aCasHit g a (nth xs a) v w h1 (h.row.free _)).mono ?_
  rintro e w' ⟨rfl, rfl⟩
  go_wp2
  go_ret
  exact ⟨rfl, hp, only_put _ _ _ _⟩

theorem cCasMiss (h : Cel w p g xs) (a : Nat) (ha : a < xs.length) (o v : Int) (hne : ¬ nth xs a = o) :
    Calls Try.prog 65 #[.pointer (some ⟨p, 0, none⟩), .int .i64 a, .int .u32 o, .int .u32 v] w (Did w p g (.bool false) xs) := by
  have h0 := h.c0
  have h1 := h.at_ ha
  have hf := h.few
  go_enter Try.func65, Try.ntmps65
  go_wp2_with fail
  refine (cHas h a ha).mono ?_
  rintro e w' ⟨rfl, rfl⟩
  go_wp2_with fail
  refine (aCasMiss g a (nth xs a) o v hne w h1 (h.row.free _)).mono ?_
  rintro e w' ⟨rfl, rfl⟩
  go_wp2
  go_ret
  exact ⟨rfl, h, grown_refl _ _⟩
end

theorem a32info : (Try.prog.info? 110).map (fun i => (i.zero, i.size, i.bytes)) = some (some (.agg #[.int .u32 0]), 1, 4) := by kernel_rfl

/-- New cells: all 0, in memory of their own. -/
def Made (w : World) (n : Nat) (e : Ending) (w' : World) : Prop :=
  ∃ p g, e = .returned (.tuple #[.pointer (some ⟨p, 0, none⟩), .int .i64 0]) ∧ Cel w' p g (List.replicate n 0) ∧ w.heap.size ≤ p ∧ w.heap.size ≤ g ∧ w.grownBy w' none

theorem cNewBad (n : Int) (hn : n < 0 ∨ 8192 < n) (w : World) :
    Calls Try.prog 33 #[.int .i64 n] w fun e w' => e = .returned (.tuple #[.pointer none, .int .i64 1]) ∧ w = w' := by
  rcases hn with hn | hn
  · go_enter Try.func33, Try.ntmps33
    go_wp2
    go_ret2
    exact ⟨rfl, rfl⟩
  · have hn' : ¬ n < 0 := by omega
    go_enter Try.func33, Try.ntmps33
    go_wp2
    go_ret2
    exact ⟨rfl, rfl⟩

theorem cNew (n : Nat) (hn : n ≤ 8192) (w : World) : Calls Try.prog 33 #[.int .i64 n] w (Made w n) := by
  obtain ⟨i0, hi0, hz0, hz1, hz2⟩ := info_parts a32info
  have hmk := fun W : World => run_make (P := Try.prog) W 104 110 i0 _ Try.underlying104 hi0 hz0 .i64 .i64 n n (by omega) (by omega) (by rw [hz2]; omega) (by omega)
  rw [hz1] at hmk
  clear hi0 hz0 hz1 hz2
  go_enter Try.func33, Try.ntmps33
  go_wp2
  go_ret2
  refine ⟨w.heap.size + 1, w.heap.size, rfl, ?_, by omega, Nat.le_refl _, ?_⟩
  · rw [made_words]
    refine ⟨?_, (Bk.made _ _ _).alloc _, U32s.zeros n, by simpa using hn⟩
    have := Bk.made (w.alloc (.cells (words (List.replicate n 0)) 110)) 106 #[.slice (some ⟨w.heap.size, 0, none⟩) n n]
    simpa using this
  · exact grown_then (grown_made _ _ _) (grown_made _ _ none) (.inl rfl)

/-- What is told of all cells: a row of its own. -/
def Told (w : World) (p g : Nat) (xs : List Int) (e : Ending) (w' : World) : Prop :=
  ∃ q, e = .returned (.slice (some ⟨q, 0, none⟩) xs.length xs.length) ∧ Bk w' q 49 (words xs) ∧ Cel w' p g xs ∧ w.heap.size ≤ q ∧ w.grownBy w' none

def Part (xs : List Int) (k : Nat) : List Int := xs.take k ++ List.replicate (xs.length - k) 0
theorem part_len (xs : List Int) (k : Nat) (h : k ≤ xs.length) : (Part xs k).length = xs.length := by simp [Part]; omega
theorem part_0 (xs : List Int) : Part xs 0 = List.replicate xs.length 0 := by simp [Part]
theorem part_all (xs : List Int) : Part xs xs.length = xs := by simp [Part]
theorem part_set (xs : List Int) (k : Nat) (h : k < xs.length) : (Part xs k).set k (nth xs k) = Part xs (k + 1) := by
  apply List.ext_getElem?
  intro i
  simp only [Part, List.getElem?_set, List.getElem?_append, List.length_append, List.length_take, List.length_replicate, List.getElem?_replicate, List.getElem?_take]
  by_cases e : k = i
  · subst e
    have h1 : k < min (k + 1) xs.length := by omega
    simp [h, h1, nth]
    omega
  · by_cases h2 : i < k
    · have h3 : i < min k xs.length := by omega
      have h4 : i < min (k + 1) xs.length := by omega
      simp [e, h2, h3, h4]; omega
    · have h3 : ¬ i < min k xs.length := by omega
      have h4 : ¬ i < min (k + 1) xs.length := by omega
      have h5 : (i - min k xs.length < xs.length - k) ↔ (i - min (k + 1) xs.length < xs.length - (k + 1)) := by omega
      simp only [e, h3, h4, if_false, h5]

def WordsRel (w : World) (p g q : Nat) (xs : List Int) (k : Nat) (wr : World) : Prop :=
  Bk wr q 49 (words (Part xs k)) ∧ Cel wr p g xs ∧ w.grownBy wr none

theorem words_step {w wr : World} {p g q k : Nat} {xs : List Int} (hq : w.heap.size ≤ q) (hk : k < xs.length) (h : WordsRel w p g q xs k wr) :
    WordsRel w p g q xs (k + 1) (wr.setCell ⟨q, k, none⟩ (.int .u32 (nth xs k))) := by
  obtain ⟨h1, h2, h3⟩ := h
  refine ⟨?_, h2.kept (only_put wr q k _) (fun e => ?_) (fun e => ?_), grown_then h3 (only_put wr q k _) (.inr fun x e => by injection e with e; omega)⟩
  · have := h1.put k (.int .u32 (nth xs k))
    rwa [words_set, part_set xs k hk] at this
  · injection e with e; exact h2.ptr.unlike h1 (by decide) e
  · injection e with e; exact h2.row.unlike h1 (by decide) e

set_option maxHeartbeats 400000 in
theorem cWords {w : World} {p g : Nat} {xs : List Int} (h : Cel w p g xs) :
    Calls Try.prog 23 #[.pointer (some ⟨p, 0, none⟩)] w (Told w p g xs) := by
  obtain ⟨i0, hi0, hz0, hz1, hz2⟩ := info_parts u32info
  have hf := h.few
  have hmk := fun W : World => run_make (P := Try.prog) W 26 49 i0 _ Try.underlying26 hi0 hz0 .i64 .i64 xs.length xs.length (by omega) (by omega) (by rw [hz2]; omega) (by omega)
  rw [hz1] at hmk
  clear hi0 hz0 hz1 hz2
  have h0 := h.c0
  go_enter Try.func23, Try.ntmps23
  go_wp2
  clear hmk
  go_loopw [13] (fun i wr => ∃ k : Nat, k ≤ xs.length ∧ i = .int .i64 k ∧ WordsRel w p g w.heap.size xs k wr) (fun i _ => xs.length - (intOf i).toNat)
  case atStart =>
    refine ⟨0, Nat.zero_le _, rfl, ?_, h.alloc _, grown_made _ _ _⟩
    rw [made_words, part_0]
    exact Bk.made _ _ _
  case round =>
    obtain ⟨k, hk, rfl, hr⟩ := hrel
    by_cases hlt : k < xs.length
    · have hc := hr.2.1
      have h0' := hc.c0
      have hx := hc.at_ hlt
      have hq := hr.1.cell k
      rw [words_at _ _ (by rw [part_len xs k hk]; exact hlt)] at hq
      have hz := hr.1.free k
      have hs := words_step (Nat.le_refl _) hlt hr
      have HS := Lib.hid hs
      clear hs hr h0
      go_wp2_with fail
      refine (aLoad g k (nth xs k) _ hx).mono ?_
      rintro e w' ⟨rfl, rfl⟩
      go_wp2
      go_roundw
      case rel => exact ⟨k + 1, by omega, by go_num, HS.out⟩
      case measure => simp [intOf]; omega
    · obtain rfl : k = xs.length := by omega
      obtain ⟨h1, h2, h3⟩ := hr
      rw [part_all] at h1
      go_wp2
      go_ret
      exact ⟨w.heap.size, rfl, h1, h2, Nat.le_refl _, h3⟩
end Go.Proofs.Ytpinpipjlongaaa
