/- Layer 12's lines: the line of an entry, the program's and the document's; the entry of a line. -/
import Derived.Test.YtjhdpolaapbihaaDoorTrA
import Derived.Test.YtjhdpolaapbihaaDoorLnA
import Derived.BigQuiet
namespace Go.Proofs.YtjhdpolaapbihaaDoor
open Go.ChangeShapes Go.WideShapes Go.ChangeAt Go.RowKit Go.Shelf
set_option linter.unusedVariables false

set_option maxRecDepth 100000 in
theorem rFits (x : En) (w : World) :
    Calls Tryd.prog 11 #[enV x] w fun e w' => e = .returned (.bool (fitsB x)) ∧ Below w.heap.size w w' := by
  have E := Lib.hid (show fitsB x = fitsB x from rfl)
  have HW := Lib.hid (fun W => rWord x.kind W)
  generalize hr : fitsB x = r at E ⊢
  obtain ⟨k, t, n⟩ := x
  unfold enV
  simp only at HW ⊢
  by_cases hk : 1 ≤ k ∧ k ≤ 10
  · have hne := word_ne hk.1 hk.2
    generalize wordT k = wd at *
    have q0 : (wd == []) = false := by simpa using hne
    have q1 : (wd != []) = true := by simpa using hne
    clear hne
    unfold bs at HW
    cases r with
    | true =>
      obtain ⟨a, b, c, d, e, f⟩ := fits_iff.1 hr
      simp only at a b c d e f
      clear hr hk a b
      go_enter Tryd.func11, Tryd.ntmps11
      go_wp2_with fail
      refine (HW.out _).mono ?_
      rintro e y ⟨rfl, rfl⟩
      obtain ⟨c0, c1, c2⟩ := (Nb.made 30 w k t n).cells
      simp only at c0 c1 c2
      go_wp2
      go_ret
      exact ⟨rfl, (Below.refl _ _).alloc (Nat.le_refl _) _⟩
    | false =>
      have hn := fits_not hr
      simp only at hn
      obtain ⟨hk1, hk2⟩ := hk
      by_cases c : 0 ≤ t
      · by_cases d : t ≤ 63
        · by_cases e : 0 ≤ n
          · have f : decide (n ≤ 1099511627776) = false := by simp; omega
            clear hn hr hk1 hk2
            go_enter Tryd.func11, Tryd.ntmps11
            go_wp2_with fail
            refine (HW.out _).mono ?_
            rintro e y ⟨rfl, rfl⟩
            go_wp2
            go_ret
            exact ⟨rfl, (Below.refl _ _).alloc (Nat.le_refl _) _⟩
          · have e2 : decide (n ≥ 0) = false := by simp; omega
            clear hn hr hk1 hk2 e
            go_enter Tryd.func11, Tryd.ntmps11
            go_wp2_with fail
            refine (HW.out _).mono ?_
            rintro e y ⟨rfl, rfl⟩
            go_wp2
            go_ret
            exact ⟨rfl, (Below.refl _ _).alloc (Nat.le_refl _) _⟩
        · have d2 : decide (t ≤ 63) = false := by simp; omega
          clear hn hr hk1 hk2 d
          go_enter Tryd.func11, Tryd.ntmps11
          go_wp2_with fail
          refine (HW.out _).mono ?_
          rintro e y ⟨rfl, rfl⟩
          go_wp2
          go_ret
          exact ⟨rfl, (Below.refl _ _).alloc (Nat.le_refl _) _⟩
      · have c2 : decide (t ≥ 0) = false := by simp; omega
        clear hn hr hk1 hk2 c
        go_enter Tryd.func11, Tryd.ntmps11
        go_wp2_with fail
        refine (HW.out _).mono ?_
        rintro e y ⟨rfl, rfl⟩
        go_wp2
        go_ret
        exact ⟨rfl, (Below.refl _ _).alloc (Nat.le_refl _) _⟩
  · obtain rfl : r = false := by
      cases r with
      | false => rfl
      | true =>
        have h := fits_iff.1 hr
        exact absurd ⟨h.k0, h.k1⟩ hk
    have hw0 : wordT k = [] := word_none (by omega)
    rw [hw0] at HW
    unfold bs at HW
    clear hr hk hw0
    go_enter Tryd.func11, Tryd.ntmps11
    go_wp2_with fail
    refine (HW.out _).mono ?_
    rintro e y ⟨rfl, rfl⟩
    go_wp2
    go_ret
    exact ⟨rfl, (Below.refl _ _).alloc (Nat.le_refl _) _⟩

/-- What Line answers. -/
def lineV (x : En) : Value := if fitsB x = true then .tuple #[bs (lineT x), .bool true] else .tuple #[bs [], .bool false]

/-- A line in its five parts. -/
theorem line_parts {x : En} (F : Fit x) : ∃ wd T N a1 a2 a3 : List UInt8, wordT x.kind = wd ∧ Lib.itoa x.th = T ∧ Lib.itoa x.now = N ∧
    ((⟨wd.toArray⟩ : ByteArray) ++ ⟨#[32]⟩ = ⟨a1.toArray⟩ ∧ ¬ 9223372036854775807 < wd.length + 1) ∧ ((⟨a1.toArray⟩ : ByteArray) ++ ⟨T.toArray⟩ = ⟨a2.toArray⟩ ∧ ¬ 9223372036854775807 < a1.length + T.length) ∧
    ((⟨a2.toArray⟩ : ByteArray) ++ ⟨#[32]⟩ = ⟨a3.toArray⟩ ∧ ¬ 9223372036854775807 < a2.length + 1) ∧ ((⟨a3.toArray⟩ : ByteArray) ++ ⟨N.toArray⟩ = ⟨(lineT x).toArray⟩ ∧ ¬ 9223372036854775807 < a3.length + N.length) := by
  have h1 := itoa_len x.th (by have := F.t0; omega) (by have := F.t1; omega)
  have h2 := itoa_len x.now (by have := F.n0; omega) (by have := F.n1; omega)
  have h3 := word_len x.kind
  refine ⟨_, _, _, wordT x.kind ++ [32], wordT x.kind ++ [32] ++ Lib.itoa x.th, wordT x.kind ++ [32] ++ Lib.itoa x.th ++ [32], rfl, rfl, rfl, ⟨cat_bs _ _, by omega⟩, ⟨cat_bs _ _, by simp; omega⟩, ⟨cat_bs _ _, by simp; omega⟩, ⟨?_, by simp; omega⟩⟩
  rw [cat_bs]
  congr 2
  unfold lineT
  simp

set_option maxRecDepth 100000 in
set_option maxHeartbeats 1000000 in
theorem cLine (x : En) (w : World) (L : Lt w) :
    Calls Tryd.prog 10 #[enV x] w fun e w' => e = .returned (lineV x) ∧ Below w.heap.size w w' := by
  have HH := Lib.hid (fun W => cHas x W)
  have E : lineV x = if fitsB x = true then .tuple #[bs (lineT x), .bool true] else .tuple #[bs [], .bool false] := rfl
  generalize lineV x = r at *
  cases hr : fitsB x with
  | false =>
    rw [hr] at E HH
    have HE := Lib.hid E
    clear E hr
    obtain ⟨k, t, n⟩ := x
    unfold enV at HH ⊢
    simp only at HH ⊢
    go_enter Tryd.func10, Tryd.ntmps10
    go_wp2_with fail
    refine (HH.out _).mono ?_
    rintro e y ⟨rfl, hy⟩
    obtain ⟨hI, hb⟩ := boxedE hy
    go_wp2
    go_ret2
    exact ⟨by rw [HE.out]; rfl, hb⟩
  | true =>
    rw [hr] at E HH
    have HE := Lib.hid E
    have F := fits_iff.1 hr
    obtain ⟨wd, T, N, a1, a2, a3, hwd, hT, hN, ⟨e1, s1⟩, ⟨e2, s2⟩, ⟨e3, s3⟩, ⟨e4, s4⟩⟩ := line_parts F
    have HT := Lib.hid (fun W LW => lItoa x.th (by have := F.t0; omega) (by have := F.t1; omega) W LW)
    have HN := Lib.hid (fun W LW => lItoa x.now (by have := F.n0; omega) (by have := F.n1; omega) W LW)
    rw [hT] at HT
    rw [hN] at HN
    have k0 := F.k0
    have k1 := F.k1
    obtain ⟨k, t, n⟩ := x
    simp only at k0 k1 HT HN hwd
    obtain ⟨m, rfl⟩ : ∃ m : Nat, k = m := ⟨k.toNat, by omega⟩
    have hm : m ≤ 10 := by omega
    have cw := L.word m hm
    rw [hwd] at cw
    have k2 : (m : Int) < 11 := by omega
    generalize lineT ⟨m, t, n⟩ = ln at *
    clear E hr F hT hN hwd k1
    unfold enV at HH ⊢
    simp only at HH ⊢
    go_enter Tryd.func10, Tryd.ntmps10
    go_wp2_with fail
    refine (HH.out _).mono ?_
    rintro e y ⟨rfl, hy⟩
    obtain ⟨hI, hb⟩ := boxedE hy
    clear hy
    have HL := Lib.hid (fun g : Grw y => (L.below hb).lib.grw g)
    have gw : ∀ g : Grw y, g.x.cell? ⟨0, m, none⟩ = some (.string ⟨wd.toArray⟩) := fun g => g.cell ((hb.cell (p := ⟨0, m, none⟩) L.low).trans cw)
    obtain ⟨g0, g1, g2⟩ := hI.grw
    simp only at g0 g1 g2
    unfold bs at HT HN
    clear cw
    go_wp2_with fail
    refine wp_region_grow (by kernel_rfl) (by kernel_rfl) ?_
    repeat (go_big_quiet_step (first | (go_at_call 24; with_reducible exact grw_call (HT.out _ (HL.out _))) | (go_at_call 24; with_reducible exact grw_call (HN.out _ (HL.out _)))))
    refine wpQuiet_nil ?_
    rintro z ⟨⟨_, hz⟩, rfl⟩
    go_wp2
    go_ret2
    exact ⟨by rw [HE.out]; rfl, hb.trans (hz.mono hb.size)⟩

set_option maxRecDepth 100000 in
set_option maxHeartbeats 1000000 in
theorem rLine (x : En) (F : Fit x) (w : World) :
    Calls Tryd.prog 12 #[enV x] w fun e w' => e = .returned (.string ⟨(lineT x).toArray⟩) ∧ Below w.heap.size w w' := by
  obtain ⟨wd, T, N, a1, a2, a3, hwd, hT, hN, ⟨e1, s1⟩, ⟨e2, s2⟩, ⟨e3, s3⟩, ⟨e4, s4⟩⟩ := line_parts F
  have HW := Lib.hid (fun W => rWord x.kind W)
  have HT : Hid (∀ W, Calls Tryd.prog 26 #[.int .i64 (x.th.toNat : Nat)] W fun e w' => e = .returned (.string ⟨(Lib.decDigits x.th.toNat).toArray⟩) ∧ Below W.heap.size W w') := Lib.hid (fun W => rDigB x.th.toNat W (by have := F.t0; have := F.t1; omega))
  have HN : Hid (∀ W, Calls Tryd.prog 26 #[.int .i64 (x.now.toNat : Nat)] W fun e w' => e = .returned (.string ⟨(Lib.decDigits x.now.toNat).toArray⟩) ∧ Below W.heap.size W w') := Lib.hid (fun W => rDigB x.now.toNat W (by have := F.n0; have := F.n1; omega))
  rw [← itoa_of F.t0, hT, Int.toNat_of_nonneg F.t0] at HT
  rw [← itoa_of F.n0, hN, Int.toNat_of_nonneg F.n0] at HN
  rw [hwd] at HW
  obtain ⟨k, t, n⟩ := x
  simp only at HW HT HN
  generalize lineT ⟨k, t, n⟩ = ln at *
  clear hwd hT hN F
  unfold bs at HW
  unfold enV
  simp only
  go_enter Tryd.func12, Tryd.ntmps12
  go_wp2_with fail
  generalize hx0 : w.alloc (.cells #[.int .i64 k, .int .i64 t, .int .i64 n] 30) = x0
  have hI : Nb 30 x0 w.heap.size ⟨k, t, n⟩ := by rw [← hx0]; exact Nb.made _ _ _ _ _
  have hb : Below w.heap.size w x0 := by rw [← hx0]; exact (Below.refl _ _).alloc (Nat.le_refl _) _
  clear hx0
  obtain ⟨g0, g1, g2⟩ := hI.grw
  simp only at g0 g1 g2
  refine wp_region_grow (by kernel_rfl) (by kernel_rfl) ?_
  repeat (go_big_quiet_step (first | (go_at_call 25; with_reducible exact grw_same (HW.out _)) | (go_at_call 26; with_reducible exact grw_call (HT.out _)) | (go_at_call 26; with_reducible exact grw_call (HN.out _))))
  refine wpQuiet_nil ?_
  rintro z ⟨⟨_, hz⟩, rfl⟩
  go_wp2
  go_ret
  exact ⟨rfl, hb.trans (hz.mono hb.size)⟩
end Go.Proofs.YtjhdpolaapbihaaDoor
