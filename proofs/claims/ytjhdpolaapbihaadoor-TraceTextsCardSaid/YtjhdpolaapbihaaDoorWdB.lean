/- Texts, their words, their digits. No walk stands here. -/
import Derived.Test.YtjhdpolaapbihaaDoorInstY
import Derived.Lib.AtoiAll
import Derived.Lib.IndexMore
namespace Go.Proofs.YtjhdpolaapbihaaDoor
set_option linter.unusedVariables false

def Nl (s : List UInt8) : Prop := ∀ c ∈ s, c ≠ 10
theorem Nl.app {a b : List UInt8} (ha : Nl a) (hb : Nl b) : Nl (a ++ b) := fun c hc => by
  rcases List.mem_append.1 hc with h | h
  · exact ha c h
  · exact hb c h
/-- No blank. -/
def Bf (l : List UInt8) : Prop := ∀ c ∈ l, c ≠ 32

theorem blank_or : ∀ s : List UInt8, Bf s ∨ ∃ t r, Bf t ∧ s = t ++ 32 :: r
  | [] => .inl (by intro c h; cases h)
  | c :: s => by
    by_cases h : c = 32
    · exact .inr ⟨[], s, (by intro c h; cases h), (by rw [h]; rfl)⟩
    · rcases blank_or s with h1 | ⟨t, r, h1, rfl⟩
      · exact .inl (by intro d hd; rcases List.mem_cons.1 hd with rfl | hd; exact h; exact h1 d hd)
      · exact .inr ⟨c :: t, r, (by intro d hd; rcases List.mem_cons.1 hd with rfl | hd; exact h; exact h1 d hd), rfl⟩
theorem index_bf : ∀ t : List UInt8, Bf t → Lib.index t [32] = -1
  | [], _ => by simp [Lib.index]
  | c :: t, h => by
    have h1 := index_bf t fun d hd => h d (List.mem_cons_of_mem _ hd)
    have h2 : c ≠ 32 := h c List.mem_cons_self
    unfold Lib.index
    rw [if_neg (by simp [List.isPrefixOf]; exact fun e => h2 e.symm), h1]
    rfl
theorem index_at : ∀ (t r : List UInt8), Bf t → Lib.index (t ++ 32 :: r) [32] = t.length
  | [], r, _ => by simp [Lib.index, List.isPrefixOf]
  | c :: t, r, h => by
    have h1 := index_at t r fun d hd => h d (List.mem_cons_of_mem _ hd)
    have h2 : c ≠ 32 := h c List.mem_cons_self
    show Lib.index (c :: (t ++ 32 :: r)) [32] = _
    unfold Lib.index
    rw [if_neg (by simp [List.isPrefixOf]; exact fun e => h2 e.symm), h1, if_neg (by simp <;> omega)]
    simp
/-- Words, with a blank ahead of each but the first. -/
def joinL (w0 : List UInt8) (ws : List (List UInt8)) : List UInt8 := w0 ++ ws.flatMap fun w => 32 :: w
theorem words_join : ∀ (ws : List (List UInt8)) (w0 : List UInt8), Bf w0 → (∀ w ∈ ws, Bf w) → wordsL (joinL w0 ws) = w0 :: ws
  | [], w0, h, _ => by unfold joinL; simp; exact wordsL_one w0 h
  | w :: ws, w0, h, hs => by
    have ih := words_join ws w (hs w List.mem_cons_self) fun v hv => hs v (List.mem_cons_of_mem _ hv)
    unfold joinL at *
    simp only [List.flatMap_cons, List.cons_append]
    rw [wordsL_more w0 _ h, ih]

theorem dec_digit : ∀ (n : Nat), ∀ c ∈ Lib.decDigits n, 48 ≤ c.toNat ∧ c.toNat ≤ 57 := by
  intro n
  induction n using Nat.strongRecOn with
  | _ n ih =>
    intro c hc
    rw [Lib.decDigits] at hc
    by_cases h : n < 10
    · rw [dif_pos h] at hc
      obtain rfl := List.mem_singleton.1 hc
      rw [UInt8.toNat_ofNat', Nat.mod_eq_of_lt (by omega)]
      omega
    · rw [dif_neg h] at hc
      rcases List.mem_append.1 hc with hc | hc
      · exact ih (n / 10) (by omega) c hc
      · obtain rfl := List.mem_singleton.1 hc
        rw [UInt8.toNat_ofNat', Nat.mod_eq_of_lt (by omega)]
        omega
theorem dec_bf (n : Nat) : Bf (Lib.decDigits n) := by
  intro c hc e
  have := dec_digit n c hc
  rw [e] at this
  exact absurd this (by decide)
theorem dec_cons (n : Nat) : ∃ c r, Lib.decDigits n = c :: r ∧ 48 ≤ c.toNat ∧ c.toNat ≤ 57 ∧ (10 ≤ n → 49 ≤ c.toNat) := by
  induction n using Nat.strongRecOn with
  | _ n ih =>
    rw [Lib.decDigits]
    by_cases h : n < 10
    · rw [dif_pos h]
      refine ⟨_, [], rfl, ?_⟩
      rw [UInt8.toNat_ofNat', Nat.mod_eq_of_lt (by omega)]
      omega
    · rw [dif_neg h]
      obtain ⟨c, r, e, h1, h2, h3⟩ := ih (n / 10) (by omega)
      rw [e]
      refine ⟨c, _, rfl, h1, h2, fun _ => ?_⟩
      by_cases h9 : 10 ≤ n / 10
      · exact h3 h9
      · rw [Lib.decDigits, dif_pos (by omega)] at e
        injection e with e1 _
        rw [← e1, UInt8.toNat_ofNat', Nat.mod_eq_of_lt (by omega)]
        omega
theorem parse_app : ∀ (a b : List UInt8) (acc u : Nat), Lib.parseUint10 acc a = .ok u → Lib.parseUint10 acc (a ++ b) = Lib.parseUint10 u b
  | [], b, acc, u, h => by simp [Lib.parseUint10] at h; subst h; rfl
  | c :: a, b, acc, u, h => by
    simp only [Lib.parseUint10, List.cons_append] at h ⊢
    split at h
    · split at h
      · cases h
      · split at h
        · cases h
        · rename_i h1 h2 h3
          rw [if_pos h1, if_neg h2, if_neg h3]
          exact parse_app a b _ u h
    · cases h
theorem parse_dec : ∀ (n : Nat), n < 18446744073709551616 → Lib.parseUint10 0 (Lib.decDigits n) = .ok n := by
  intro n
  induction n using Nat.strongRecOn with
  | _ n ih =>
    intro hn
    rw [Lib.decDigits]
    by_cases h : n < 10
    · rw [dif_pos h]
      have e : (UInt8.ofNat (48 + n)).toNat = 48 + n := by rw [UInt8.toNat_ofNat', Nat.mod_eq_of_lt (by omega)]
      simp only [Lib.parseUint10, e]
      rw [if_pos (by omega), if_neg (by omega), if_neg (by omega)]
      congr 1
      omega
    · rw [dif_neg h, parse_app _ _ _ _ (ih (n / 10) (by omega) (by omega))]
      have e : (UInt8.ofNat (48 + n % 10)).toNat = 48 + n % 10 := by rw [UInt8.toNat_ofNat', Nat.mod_eq_of_lt (by omega)]
      simp only [Lib.parseUint10, e]
      rw [if_pos (by omega), if_neg (by omega), if_neg (by omega)]
      congr 1
      omega
theorem atoi_dec (n : Nat) (h : n < 9223372036854775808) : Lib.atoiAll (Lib.decDigits n) = .ok n := by
  obtain ⟨c, r, e, h1, h2, -⟩ := dec_cons n
  have hp := parse_dec n (by omega)
  rw [e] at hp ⊢
  unfold Lib.atoiAll Lib.parseMag
  simp only
  rw [if_neg (show ¬ (c.toNat = 43 ∨ c.toNat = 45) by omega), if_neg (by simp), hp]
  simp only
  rw [if_neg (by omega), if_neg (by omega), if_neg (by omega)]

end Go.Proofs.YtjhdpolaapbihaaDoor
