/- inst.Text. -/
import Derived.Test.YteohnkilchkhkaaGreatDoorInstC
namespace Go.Proofs.YteohnkilchkhkaaGreatDoor
open Go.ChangeShapes Go.WideShapes Go.ChangeAt Go.RowKit
set_option linter.unusedVariables false

theorem part_len (i : Ins) (h : i.Wf) (c : Int) (hc : Ltr c) : (partL i c).length ≤ 40 := by
  obtain ⟨g0, g1⟩ := get_fits i h c
  have hl := itoa_len _ g0 g1
  rw [part_eq i c hc]
  generalize Lib.itoa (getI i c) = l at *
  unfold kL placeL
  repeat' split
  all_goals (simp; try omega)
theorem nm_len (op : Int) : (nmL op).length ≤ 5 := by
  rcases op_cases op with rfl | rfl | rfl | rfl | rfl | rfl | rfl | rfl | rfl | rfl | rfl | rfl | rfl | rfl | rfl | rfl | rfl | rfl | rfl | rfl | rfl | hn
  all_goals first | decide | (rw [(hs_none hn).2]; decide)
theorem parts_snoc (i : Ins) (l : List UInt8) (n : Nat) (h : n < l.length) : partsL i (l.take (n + 1)) = partsL i (l.take n) ++ partL i (l.getD n 0).toNat := by
  unfold partsL
  rw [List.take_succ_eq_append_getElem h, List.flatMap_append]
  simp [h]
theorem parts_len (i : Ins) (h : i.Wf) (l : List UInt8) (hl : ∀ c ∈ l, Ltr c.toNat) : (partsL i l).length ≤ 40 * l.length := by
  induction l with
  | nil => simp [partsL]
  | cons c l ih =>
    have h1 := ih fun c hc => hl c (List.mem_cons_of_mem _ hc)
    have h2 := part_len i h c.toNat (hl c List.mem_cons_self)
    unfold partsL at *
    simp only [List.flatMap_cons, List.length_append, List.length_cons]
    omega

/-- What Text answers. -/
def textV (i : Ins) : Value := if rightB i 1073741824 = true then .tuple #[bs (textL i), .int .i64 0] else .tuple #[bs [], .int .i64 1]

set_option maxHeartbeats 1000000 in
theorem cText (i : Ins) (h : i.Wf) (w : World) (L : Lb w) :
    Calls Tryz.prog 51 #[iv i] w fun e w' => e = .returned (textV i) ∧ Below w.heap.size w w' := by
  have HR := Lib.hid (fun W => cRight i 1073741824 h.k0 h.k1 W)
  have HF := Lib.hid (cForm i.op)
  have hL := hs_ltr i.op
  have h6 := hs_len i.op
  have h5 := nm_len i.op
  have E : textV i = if rightB i 1073741824 = true then .tuple #[bs (nmL i.op ++ partsL i (hsL i.op)), .int .i64 0] else .tuple #[bs [], .int .i64 1] := rfl
  have HP := Lib.hid (fun c hc W LW => cPart i h c hc W LW)
  have HPL := Lib.hid (fun l hl => parts_len i h l hl)
  have HQL := Lib.hid (fun c hc => part_len i h c hc)
  generalize textV i = tv at *
  generalize hsL i.op = hs at *
  generalize nmL i.op = nm at *
  have HL := Lib.hid hL
  clear hL
  obtain ⟨op, d, s, t, u, a, k, pl⟩ := i
  cases hr : rightB ⟨op, d, s, t, u, a, k, pl⟩ 1073741824 with
  | false =>
    rw [hr] at E HR
    have HE := Lib.hid E
    clear E hr
    unfold iv
    go_enter Tryz.func51, Tryz.ntmps51
    go_wp2_with fail
    refine (HR.out _).mono ?_
    rintro e x ⟨rfl, hx⟩
    obtain ⟨hIb, hb⟩ := boxed hx
    go_wp2
    go_ret2
    exact ⟨by rw [HE.out]; rfl, hb⟩
  | true =>
    rw [hr] at E HR
    have HE := Lib.hid E
    clear E hr
    unfold iv
    go_enter Tryz.func51, Tryz.ntmps51
    go_wp2_with fail
    refine (HR.out _).mono ?_
    rintro e x ⟨rfl, hx⟩
    obtain ⟨hIb, hb⟩ := boxed hx
    clear hx
    obtain ⟨c0, -⟩ := hIb.cells
    simp only at c0
    go_wp2_with fail
    refine (HF.out _).mono ?_
    rintro e w' ⟨rfl, rfl⟩
    unfold bs
    go_wp2
    go_loopw [4, 18] (fun tx v x => ∃ n : Nat, n ≤ hs.length ∧ v = .int .i64 n ∧ tx = bs (nm ++ partsL ⟨op, d, s, t, u, a, k, pl⟩ (hs.take n)) ∧ Below w.heap.size w x ∧ Ib x w.heap.size ⟨op, d, s, t, u, a, k, pl⟩) (fun _ v _ => hs.length - (intOf v).toNat)
    case atStart => exact ⟨0, Nat.zero_le _, rfl, by simp [partsL, bs], hb, hIb⟩
    case round =>
      clear c0
      clear hb hIb
      obtain ⟨n, hn, rfl, rfl, hb, hIb⟩ := hrel
      have hlt1 : w.heap.size < wr.heap.size := Bk.lt hIb
      by_cases hlt : n < hs.length
      · have hidx := run_ltr hs n hlt
        have hc : Ltr ((hs.getD n 0).toNat : Int) := HL.out _ (by simp [hlt])
        have hsn := parts_snoc ⟨op, d, s, t, u, a, k, pl⟩ hs n hlt
        have hpl := HPL.out (hs.take n) (fun c hc => HL.out c (List.mem_of_mem_take hc))
        have hpl2 : (hs.take n).length ≤ 6 := by simp; omega
        generalize ((hs.getD n 0).toNat : Int) = c at hidx hc hsn
        have hql := HQL.out c hc
        generalize partsL ⟨op, d, s, t, u, a, k, pl⟩ (hs.take n) = ps at *
        generalize hpp : partL ⟨op, d, s, t, u, a, k, pl⟩ c = pp at *
        have hsz : ¬ 9223372036854775807 < (nm ++ ps).length + pp.length := by simp; omega
        have hcat := cat_bs (nm ++ ps) pp
        generalize htp : nm ++ ps ++ pp = tp at hcat
        have HTP := Lib.hid htp
        clear htp
        generalize htx : nm ++ ps = tx at *
        have HTX := Lib.hid htx
        clear htx
        have HPP := Lib.hid hpp
        have HSN := Lib.hid hsn
        clear hpp hsn hpl hpl2 hql
        have HP2 := Lib.hid (show ∀ g : Grw wr, Calls Tryz.prog 70 #[iv ⟨op, d, s, t, u, a, k, pl⟩, .int .u8 c] g.x fun e w' => e = .returned (.string ⟨pp.toArray⟩) ∧ Below g.x.heap.size g.x w' from fun g => by
          have hp := HP.out c hc g.x ((L.below hb).grw g)
          rw [HPP.out] at hp
          exact hp)
        obtain ⟨g0, g1, g2, g3, g4, g5, g6, g7⟩ := hIb.grw
        simp only at g0 g1 g2 g3 g4 g5 g6 g7
        unfold bs
        go_wp2_with fail
        refine wp_region_grow (by kernel_rfl) (by kernel_rfl) ?_
        repeat (go_big_quiet_step ((go_at_call 70; exact grw_call (HP2.out _))))
        refine wpQuiet_nil ?_
        rintro y ⟨⟨_, hy⟩, rfl⟩
        replace hb := hb.trans (hy.mono (Nat.le_of_lt hlt1))
        replace hIb := hIb.below hy
        clear g0 g1 g2 g3 g4 g5 g6 g7 hy hidx hcat hsz HP2
        have hn1 : (n : Int) + 1 ≤ 6 := by omega
        go_wp2
        go_roundw
        case rel => exact ⟨n + 1, by omega, by go_num, by rw [HSN.out, ← List.append_assoc, HTX.out, HTP.out], hb, hIb⟩
        case measure => simp [intOf]; omega
      · obtain rfl : n = hs.length := by omega
        rw [List.take_length]
        go_wp2
        go_ret2
        exact ⟨by rw [HE.out]; rfl, hb⟩
end Go.Proofs.YteohnkilchkhkaaGreatDoor
