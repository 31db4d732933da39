/- The document's own pool: Take and Back, where they go well. -/
import Derived.Test.YteeaminfhpcdmaaPoolRefB
import Derived.RegionTactic
namespace Go.Proofs.Yteeaminfhpcdmaa
open Go.ChangeShapes Go.WideShapes Go.ChangeAt Go.RowKit
section
variable {w w' : World} {x n each N : Nat} {R : RM} {free : Nat → List Nat} {gen out : List Int}

/-- Behind a call: only what is the pool's has changed; what is the pool's now was so, or is new. -/
def RStays (w : World) (n : Nat) (R : RM) (w' : World) (R' : RM) : Prop := Within w w' (R.Has n) ∧ ∀ i, R'.Has n i → R.Has n i ∨ w.heap.size ≤ i
theorem RStays.refl (w : World) (n : Nat) (R : RM) : RStays w n R w R := ⟨Within.refl _ _, fun _ h => .inl h⟩
theorem RStays.draws {R' : RM} (h : RStays w n R w' R') (m : Nat) : RStays w n R (w'.drewN m) R' := ⟨h.1.draws m, h.2⟩
theorem RStays.then_ {w'' : World} {R' R'' : RM} (h : RStays w n R w' R') (k : RStays w' n R' w'' R'') : RStays w n R w'' R'' :=
  ⟨h.1.then_ k.1 h.2, fun i hi => by
    rcases k.2 i hi with e | e
    · exact h.2 i e
    · exact .inr (Nat.le_trans h.1.size e)⟩

theorem map_upd (vs : Nat → Value) (n t : Nat) (u : Value) : ((List.range n).map vs).set t u = (List.range n).map (upd vs t u) := by
  apply List.ext_getElem?
  intro i
  simp only [List.getElem?_set, List.length_map, List.length_range, List.getElem?_map]
  by_cases hi : i < n
  · rw [List.getElem?_range hi]
    by_cases e : t = i
    · subst e; simp [hi, upd_same]
    · simp [e, upd_other (f := vs) (v := u) (fun h : i = t => e h.symm)]
  · rw [List.getElem?_eq_none (by simpa using hi)]
    simp; omega

/-- A thread's list is another: its row may have changed, or it lies in a new one. -/
theorem Rf.setV {w1 : World} (h : Rf w x n each R free gen out) {t : Nat} (ht : t < n) {F cap : Nat} (e : R.fv = .slice (some ⟨F, 0, none⟩) n cap) (hg : w.grownBy w1 (R.vs t).ownBlock) {u : Value} {l : List Nat} (hu : Fs w1 u (ones l))
    (hb : u.ownBlock = (R.vs t).ownBlock ∨ ∀ g, u.ownBlock = some g → w.heap.size ≤ g) :
    Rf (w1.setCell ⟨F, t, none⟩ u) x n each { R with vs := upd R.vs t u } (upd free t l) gen out := by
  have hF : R.fv.ownBlock = some F := by rw [e]; rfl
  obtain ⟨cF, bF⟩ := h.row.bk hF
  have hk1 : Within w w1 (fun i => (R.vs t).ownBlock = some i) := .of_grown hg (fun i e => .inl e)
  have hvt : ∀ g, (R.vs t).ownBlock = some g → ∃ cs, Bk w g 3 cs := fun g eg => (h.frees t ht).bk eg
  have bF1 := bF.within hk1 (fun e' => by obtain ⟨cs, hc⟩ := hvt F e'; exact Bk.unlike hc bF (by decide) rfl)
  have hk : Within w1 (w1.setCell ⟨F, t, none⟩ u) (fun i => i = F) := (Within.refl w1 _).put F _ _ (.inl rfl)
  have hkk : Within w (w1.setCell ⟨F, t, none⟩ u) (fun i => (R.vs t).ownBlock = some i ∨ i = F) := (hk1.wide (fun i e _ => .inl e)).then_ hk (fun i e => .inl (.inr e))
  have hint : ∀ {g : Nat} {cs : Array Value}, Bk w g 3 cs → ¬ g = F := fun hb' e => Bk.unlike hb' bF (by decide) e
  have hnew : ∀ g, w.heap.size ≤ g → ¬ R.Has n g := fun g hg e' => by have := h.lt e'; omega
  refine ⟨h.ptr.within hkk ?_, ?_, h.gens.within hkk ?_, h.outs.within hkk ?_, fun s hs => ?_, h.go, fun s g hs eg => ?_, fun s g hs eg => ?_, fun s s' g hs hs' hne eg => ?_⟩
  · rintro (e' | e')
    · obtain ⟨cs, hc⟩ := hvt _ e'; exact Bk.unlike h.ptr hc (by decide) rfl
    · exact Bk.unlike h.ptr bF (by decide) e'
  · have hr := h.row.within hk1 (fun g eg e' => by
      obtain ⟨cs, hc⟩ := hvt g e'
      obtain ⟨cs', hc'⟩ := h.row.bk eg
      exact Bk.unlike hc hc' (by decide) rfl)
    rw [e] at hr
    have hlen : ((List.range n).map R.vs).length = n := by simp
    have : Vls 44 w1 (.slice (some ⟨F, 0, none⟩) ((List.range n).map R.vs).length cap) ((List.range n).map R.vs) := by rw [hlen]; exact hr
    have h2 := this.put t u
    rw [map_upd, hlen] at h2
    show Vls _ _ R.fv _
    rw [e]
    exact h2
  · rintro g eg (e' | e')
    · exact h.vg t g ht e' eg
    · obtain ⟨cs, hc⟩ := h.gens.bk eg; exact hint hc e'
  · rintro g eg (e' | e')
    · exact h.vo t g ht e' eg
    · obtain ⟨cs, hc⟩ := h.outs.bk eg; exact hint hc e'
  · by_cases es : s = t
    · subst es
      simp only [upd_same]
      exact hu.within hk (fun g eg e' => by obtain ⟨cs, hc⟩ := hu.bk eg; exact Bk.unlike hc bF1 (by decide) e')
    · simp only [upd_other es]
      refine (h.frees s hs).within hkk ?_
      rintro g eg (e' | e')
      · exact h.vv t s g ht hs (fun e => es e.symm) e' eg
      · obtain ⟨cs, hc⟩ := (h.frees s hs).bk eg; exact hint hc e'
  · by_cases es : s = t
    · subst es
      simp only [upd_same] at eg
      rcases hb with hb | hb
      · rw [hb] at eg; exact h.vg s g hs eg
      · exact fun e' => hnew g (hb g eg) (.inr (.inl e'))
    · simp only [upd_other es] at eg; exact h.vg s g hs eg
  · by_cases es : s = t
    · subst es
      simp only [upd_same] at eg
      rcases hb with hb | hb
      · rw [hb] at eg; exact h.vo s g hs eg
      · exact fun e' => hnew g (hb g eg) (.inr (.inr (.inl e')))
    · simp only [upd_other es] at eg; exact h.vo s g hs eg
  · by_cases es : s = t
    · subst es
      simp only [upd_same] at eg
      simp only [upd_other (fun e' : s' = s => hne e'.symm)]
      rcases hb with hb | hb
      · rw [hb] at eg; exact h.vv s s' g hs hs' hne eg
      · exact fun e' => hnew g (hb g eg) (.inr (.inr (.inr ⟨s', hs', e'⟩)))
    · simp only [upd_other es] at eg
      by_cases es' : s' = t
      · subst es'
        simp only [upd_same]
        rcases hb with hb | hb
        · rw [hb]; exact h.vv s s' g hs hs' hne eg
        · exact fun e' => hnew g (hb g e') (.inr (.inr (.inr ⟨s, hs, eg⟩)))
      · simp only [upd_other es']; exact h.vv s s' g hs hs' hne eg

/-- Whether a node is out is another. -/
theorem Rf.setO (h : Rf w x n each R free gen out) {O cap : Nat} (e : R.ov = .slice (some ⟨O, 0, none⟩) out.length cap) (q : Nat) (v : Int) :
    Rf (w.setCell ⟨O, q, none⟩ (.int .i64 v)) x n each R free gen (out.set q v) := by
  have hO : R.ov.ownBlock = some O := by rw [e]; rfl
  obtain ⟨cO, bO⟩ := h.outs.bk hO
  have hk : Within w (w.setCell ⟨O, q, none⟩ (.int .i64 v)) (fun i => i = O) := (Within.refl w _).put O _ _ (.inl rfl)
  refine ⟨h.ptr.within hk (Bk.unlike h.ptr bO (by decide)), h.row.within hk (fun g eg e' => ?_), h.gens.within hk (fun g eg e' => ?_), ?_, fun s hs => (h.frees s hs).within hk (fun g eg e' => ?_), h.go, h.vg, h.vo, h.vv⟩
  · obtain ⟨cs, hc⟩ := h.row.bk eg; exact Bk.unlike hc bO (by decide) e'
  · subst e'; exact h.go g eg hO
  · have ho := h.outs
    rw [e] at ho
    have h2 := ho.put q v
    rw [e]
    exact h2
  · subst e'; exact h.vo s g hs eg hO
/-- A node's generation is another. -/
theorem Rf.setG (h : Rf w x n each R free gen out) {G cap : Nat} (e : R.gv = .slice (some ⟨G, 0, none⟩) gen.length cap) (q : Nat) (v : Int) :
    Rf (w.setCell ⟨G, q, none⟩ (.int .i64 v)) x n each R free (gen.set q v) out := by
  have hG : R.gv.ownBlock = some G := by rw [e]; rfl
  obtain ⟨cG, bG⟩ := h.gens.bk hG
  have hk : Within w (w.setCell ⟨G, q, none⟩ (.int .i64 v)) (fun i => i = G) := (Within.refl w _).put G _ _ (.inl rfl)
  refine ⟨h.ptr.within hk (Bk.unlike h.ptr bG (by decide)), h.row.within hk (fun g eg e' => ?_), ?_, h.outs.within hk (fun g eg e' => ?_), fun s hs => (h.frees s hs).within hk (fun g eg e' => ?_), h.go, h.vg, h.vo, h.vv⟩
  · obtain ⟨cs, hc⟩ := h.row.bk eg; exact Bk.unlike hc bG (by decide) e'
  · have ho := h.gens
    rw [e] at ho
    have h2 := ho.put q v
    rw [e]
    exact h2
  · subst e'; exact h.go g hG eg
  · subst e'; exact h.vg s g hs eg hG
theorem RStays.put {g i : Nat} {u : Value} (h : R.Has n g) : RStays w n R (w.setCell ⟨g, i, none⟩ u) R := ⟨(Within.refl w _).put g _ _ (.inl h), fun _ h => .inl h⟩
theorem RStays.setV {w1 : World} {F t : Nat} {u : Value} (hF : R.fv.ownBlock = some F) (hg : w.grownBy w1 (R.vs t).ownBlock) (hb : u.ownBlock = (R.vs t).ownBlock ∨ ∀ g, u.ownBlock = some g → w.heap.size ≤ g) (ht : t < n) : RStays w n R (w1.setCell ⟨F, t, none⟩ u) { R with vs := upd R.vs t u } := by
  have hk1 : Within w w1 (R.Has n) := .of_grown hg (fun i e => .inl (.inr (.inr (.inr ⟨t, ht, e⟩))))
  refine ⟨hk1.put F _ _ (.inl (.inl hF)), fun i hi => ?_⟩
  rcases hi with e | e | e | ⟨s, hs, e⟩
  · exact .inl (.inl e)
  · exact .inl (.inr (.inl e))
  · exact .inl (.inr (.inr (.inl e)))
  · by_cases es : s = t
    · subst es
      simp only [upd_same] at e
      rcases hb with hb | hb
      · rw [hb] at e; exact .inl (.inr (.inr (.inr ⟨s, hs, e⟩)))
      · exact .inr (hb i e)
    · simp only [upd_other es] at e
      exact .inl (.inr (.inr (.inr ⟨s, hs, e⟩)))

/-- Behind the document's Take. -/
def RTaken (w : World) (x n each : Nat) (R : RM) (free : Nat → List Nat) (gen out : List Int) (t q : Nat) (rest : List Nat) (e : Ending) (w' : World) : Prop :=
  ∃ R', e = .returned (.tuple #[.int .u32 (hdl gen q), .int .i64 0]) ∧ Rf w' x n each R' (upd free t rest) gen (out.set q 1) ∧ RStays w n R w' R'

theorem rfTake (h : Rf w x n each R free gen out) (h64 : n ≤ 64) (t : Nat) (ht : t < n) {q : Nat} {rest : List Nat} (he : free t = q :: rest) (hlG : gen.length = N) (hlO : out.length = N) (hN : N ≤ 512) (hg : ∀ q, 0 ≤ nth gen q ∧ nth gen q < 262144) (hq : q < N) :
    Calls Try.prog 15 #[.pointer (some ⟨x, 0, none⟩), .int .i64 t] w (RTaken w x n each R free gen out t q rest) := by
  have c1 := h.c1
  have c3 := h.c3
  obtain ⟨F, cap, eF, h1, h2, hf, hc⟩ := h.fvIs (by omega)
  have hF : R.fv.ownBlock = some F := by rw [eF]; rfl
  obtain ⟨aO, capO, eO, o1, o2, o3⟩ := h.ovIs
  obtain ⟨O, rfl, hO, fO, cO⟩ := o3 (by omega)
  have hct := hc t ht
  have hfr := h.frees t ht
  rw [he] at hfr
  have hfr' : Fs w (R.vs t) (((q : Int) + 1) :: ones rest) := hfr
  obtain ⟨g, off, cp, ev, k1, k2, k3, k4, k5⟩ := hfr'.cut
  rw [ev] at hct
  rw [eF] at c1
  rw [eO] at c3
  have hOF : O ≠ F := by
    obtain ⟨c1', b1'⟩ := h.row.bk hF
    obtain ⟨c2', b2'⟩ := h.outs.bk hO
    exact Bk.unlike b2' b1' (by decide)
  have hxF : x ≠ F := by
    obtain ⟨c1', b1'⟩ := h.row.bk hF
    exact Bk.unlike h.ptr b1' (by decide)
  have r1 : ∀ (W : World) (u : Value) (i j : Nat), (W.setCell ⟨F, i, none⟩ u).cell? ⟨x, j, none⟩ = W.cell? ⟨x, j, none⟩ := fun W u i j => cell_off hxF
  have r2 : ∀ (W : World) (u : Value) (i j : Nat), (W.setCell ⟨F, i, none⟩ u).cell? ⟨O, j, none⟩ = W.cell? ⟨O, j, none⟩ := fun W u i j => cell_off hOF
  have hH := fun (W : World) (R' : RM) (fr' : Nat → List Nat) (o' : List Int) (hW : Rf W x n each R' fr' gen o') => rfHandle hW (by omega) (q := q) (by omega) (hg q)
  have hcq := cO q (by omega)
  have hfq := fO q
  have hft := hf t
  obtain ⟨u, hu, hub, huc⟩ : ∃ u, Fs w u (ones rest) ∧ u.ownBlock = (R.vs t).ownBlock ∧ (cp = 1 ∧ u = .slice (some ⟨g, off, none⟩) (ones rest).length (cp - 1) ∨ cp ≠ 1 ∧ u = .slice (some ⟨g, off + 1, none⟩) (ones rest).length (cp - 1)) := by
    by_cases e : cp = 1
    · exact ⟨_, k4 e, by rw [ev]; rfl, .inl ⟨e, rfl⟩⟩
    · exact ⟨_, k5 e, by rw [ev]; rfl, .inr ⟨e, rfl⟩⟩
  have hV := h.setV ht eF (grown_refl w _) hu (.inl hub)
  have hVs : RStays w n R (w.setCell ⟨F, t, none⟩ u) { R with vs := upd R.vs t u } := RStays.setV hF (grown_refl w _) (.inl hub) ht
  have hVO := hV.setO (R := { R with vs := upd R.vs t u }) eO q 1
  have hVOs := hVs.then_ (RStays.put (w := w.setCell ⟨F, t, none⟩ u) (n := n) (R := { R with vs := upd R.vs t u }) (g := O) (i := q) (u := .int .i64 1) (.inr (.inr (.inl hO))))
  have HH := Lib.hid (hH _ _ _ _ hVO)
  have HV := Lib.hid hVO
  have HS := Lib.hid hVOs
  clear hH hV hVs hVO hVOs hu hub k4 k5 hfr hfr' hc o3 cO fO hf h eF eO ev hF hO
  have b1 : (q : Int) < out.length := by omega
  generalize (ones rest).length = L at *
  rcases huc with ⟨rfl, rfl⟩ | ⟨hcp, rfl⟩
  · obtain rfl : L = 0 := by omega
    go_enter Try.func15, Try.ntmps15
    go_wp2
    go_region
    go_wp2_with fail
    refine (rfHandle (HV.out.drewN 1) (by omega) (q := q) (by omega) (hg q)).mono ?_
    rintro e w' ⟨rfl, rfl⟩
    go_wp2
    go_ret2
    exact ⟨_, rfl, HV.out.drewN 1, HS.out.draws 1⟩
  · go_enter Try.func15, Try.ntmps15
    go_wp2
    go_region
    go_wp2_with fail
    refine (rfHandle (HV.out.drewN 1) (by omega) (q := q) (by omega) (hg q)).mono ?_
    rintro e w' ⟨rfl, rfl⟩
    go_wp2
    go_ret2
    exact ⟨_, rfl, HV.out.drewN 1, HS.out.draws 1⟩
end
end Go.Proofs.Yteeaminfhpcdmaa
