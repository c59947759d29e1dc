/-
  A store of the program and the document's answer to it, side by side: the calls of stage 2.
-/
import Derived.Test.YtnidlcpjjgmclaaGreatT4T5
import Derived.Test.YtnidlcpjjgmclaaGreatT6
import Derived.Test.YtnidlcpjjgmclaaGreatG10V2
namespace Go.Proofs.YtnidlcpjjgmclaaGreat
open Go.RowKit

section
variable {own : Nat → Lab} {i : Nat} {w : World} {p px py nt : Nat}
variable {R : Ending → World → Prop}

theorem YI.small {y : YS} (h : YI y) : y.l.length < 1000000 := by
  have h1 := h.len
  have h2 := h.now
  omega

theorem d_asof (hD : Duo own i w px py nt) (e a b : Int) (st tt : ByteArray) (hst : st.size ≤ maxLen) (vl vm : Value)
    (hK : ∀ w3 own3, Kp (Cap own i) w w3 → (∀ b, b < w.heap.size → own3 b = own b) → Duo own3 i w3 px py (nt + 1) → R (.returned (.bool true)) w3) :
    Calls Tryz.prog 15 #[.pointer (some ⟨p, 0, none⟩), pairV px py, stepV 10 e a b st tt vl vm] w R := by
  obtain ⟨s, y, hx, hy, ht, hi, hn⟩ := hD
  refine past_asof w p px py e a b st tt vl vm ?_
  have hw := boxW_kp w px py 10 e a b st tt vl vm
  generalize boxW w px py 10 e a b st tt vl vm = w1 at hw ⊢
  have X0 := hx.box hw
  have Y0 := hy.box hw
  obtain ⟨mo, ph, mv, mm, pt, mw, sl, X⟩ := X0
  obtain ⟨vL, vT, vG, sv, lg, Y, hl⟩ := Y0
  obtain ⟨av, cap, hvL, _⟩ := row_len Y.rowL
  have hnow := ht.now
  have hhor := ht.hor
  have F : ∀ {w2 w3 : World}, Kp (fun _ => False) w1 w2 → Kp (fun _ => False) w2 w3 → R (.returned (.bool true)) w3 := fun k2 k3 => fin0 hw k2 k3 ⟨mo, ph, mv, mm, pt, mw, sl, X⟩ ⟨vL, vT, vG, sv, lg, Y, hl⟩ ht hi hn hK
  have C : ∀ {w2 : World}, Kp (fun _ => False) w1 w2 → w2.cell? ⟨py, 0, none⟩ = some (.slice av y.l.length cap) ∧ w2.cell? ⟨py, 1, none⟩ = some (.int .i64 y.hor) ∧ w2.cell? ⟨py, 2, none⟩ = some (.int .i64 y.now) := fun k2 =>
    ⟨(cell_of (Y.kept k2).store 0).trans (by rw [← hvL]; rfl), cell_of (Y.kept k2).store 1, cell_of (Y.kept k2).store 2⟩
  have W : ∀ {w3 : World}, Kp (fun _ => False) w1 w3 → w3.ownsRow 0 107 4 (.slice av y.l.length cap) y.l.length (cellsV y.l) := fun k => by
    have := (Y.kept k).rowL
    rw [hvL] at this
    exact this
  refine x_asof a st (x_asof0 X a st hst (ht.momOk hi) (fun hk => ⟨_, _, rfl, ?_⟩) (fun hk q1 => ⟨_, _, rfl, ?_⟩) (fun hk q1 q2 => ⟨_, _, rfl, ?_⟩) (fun hk q1 q2 hv w2 k2 => ⟨_, _, rfl, ?_⟩) (fun hk q1 q2 hv w2 k2 => ⟨_, _, rfl, ?_⟩))
  · refine ⟨_, _, y.hor, y.now, av, _, cap, rfl, Kp.refl _ _, (C (Kp.refl _ _)).1, (C (Kp.refl _ _)).2.1, (C (Kp.refl _ _)).2.2, fun w3 k3 => ?_⟩
    exact ask_any y.l _ y.hor y.now a st hi.small hst (W k3) (fun _ => ⟨rfl, k3, F (Kp.refl _ _) k3⟩) (fun h => by rw [hk] at h; cases h) (fun h => by rw [hk] at h; cases h) (fun h => by rw [hk] at h; cases h) (fun h => by rw [hk] at h; cases h)
  · refine ⟨_, _, y.hor, y.now, av, _, cap, rfl, Kp.refl _ _, (C (Kp.refl _ _)).1, (C (Kp.refl _ _)).2.1, (C (Kp.refl _ _)).2.2, fun w3 k3 => ?_⟩
    exact ask_any y.l _ y.hor y.now a st hi.small hst (W k3) (fun h => by rw [hk] at h; cases h) (fun _ _ => ⟨rfl, k3, F (Kp.refl _ _) k3⟩) (fun _ h => by omega) (fun _ h => by omega) (fun _ h => by omega)
  · refine ⟨_, _, y.hor, y.now, av, _, cap, rfl, Kp.refl _ _, (C (Kp.refl _ _)).1, (C (Kp.refl _ _)).2.1, (C (Kp.refl _ _)).2.2, fun w3 k3 => ?_⟩
    exact ask_any y.l _ y.hor y.now a st hi.small hst (W k3) (fun h => by rw [hk] at h; cases h) (fun _ h => by omega) (fun _ _ _ => ⟨rfl, k3, F (Kp.refl _ _) k3⟩) (fun _ _ h => by omega) (fun _ _ h => by omega)
  · refine ⟨_, _, y.hor, y.now, av, _, cap, rfl, kpF k2, (C k2).1, (C k2).2.1, (C k2).2.2, fun w3 k3 => ?_⟩
    refine ask_any y.l _ y.hor y.now a st hi.small hst (W (k2.trans k3 (fun _ _ h => h))) (fun h => by rw [hk] at h; cases h) (fun _ h => by omega) (fun _ _ h => by omega) (fun _ _ _ r w4 hr hr2 k4 => ⟨rfl, k3.trans k4 (fun _ _ h => h), F k2 (k3.trans k4 (fun _ _ h => h))⟩) (fun _ _ _ r w4 hr hr2 k4 => ?_)
    have := (ht.told hi a st r hr).1
    rw [hr2] at this
    have hv' : (valAt s st a).2 = true := this.symm
    rw [hv] at hv'; cases hv'
  · refine ⟨_, _, y.hor, y.now, av, _, cap, rfl, kpF k2, (C k2).1, (C k2).2.1, (C k2).2.2, fun w3 k3 => ?_⟩
    refine ask_any y.l _ y.hor y.now a st hi.small hst (W (k2.trans k3 (fun _ _ h => h))) (fun h => by rw [hk] at h; cases h) (fun _ h => by omega) (fun _ _ h => by omega) (fun _ _ _ r w4 hr hr2 k4 => ?_) (fun _ _ _ r w4 hr hr2 k4 => ⟨?_, k3.trans k4 (fun _ _ h => h), F k2 (k3.trans k4 (fun _ _ h => h))⟩)
    · have := (ht.told hi a st r hr).1
      rw [hr2] at this
      have hv' : (valAt s st a).2 = false := this.symm
      rw [hv] at hv'; cases hv'
    · rw [(ht.told hi a st r hr).2 hr2]

theorem d_stored (hD : Duo own i w px py nt) (e a b : Int) (st tt : ByteArray) (vl vm : Value)
    (hK : ∀ w3 own3, Kp (Cap own i) w w3 → (∀ b, b < w.heap.size → own3 b = own b) → Duo own3 i w3 px py (nt + 1) → R (.returned (.bool true)) w3) :
    Calls Tryz.prog 15 #[.pointer (some ⟨p, 0, none⟩), pairV px py, stepV 14 e a b st tt vl vm] w R := by
  obtain ⟨s, y, hx, hy, ht, hi, hn⟩ := hD
  refine past_stored w p px py e a b st tt vl vm ?_
  have hw := boxW_kp w px py 14 e a b st tt vl vm
  generalize boxW w px py 14 e a b st tt vl vm = w1 at hw ⊢
  have X0 := hx.box hw
  have Y0 := hy.box hw
  obtain ⟨mo, ph, mv, mm, pt, mw, sl, X⟩ := X0
  obtain ⟨vL, vT, vG, sv, lg, Y, hl⟩ := Y0
  obtain ⟨av, cap, hvL, _⟩ := row_len Y.rowL
  have hc := ht.count hi X
  refine x_stored X ⟨s.nv, av, cap, rfl, Kp.refl _ _, ?_, fin0 hw (Kp.refl _ _) (Kp.refl _ _) ⟨mo, ph, mv, mm, pt, mw, sl, X⟩ ⟨vL, vT, vG, sv, lg, Y, hl⟩ ht hi hn hK⟩
  rw [hc]
  exact (cell_of Y.store 0).trans (by rw [← hvL]; rfl)

theorem d_retain (hD : Duo own i w px py nt) (hnt : nt < 100000000) (e a b : Int) (st tt : ByteArray) (vl vm : Value)
    (hK : ∀ w3 own3, Kp (Cap own i) w w3 → (∀ b, b < w.heap.size → own3 b = own b) → Duo own3 i w3 px py (nt + 1) → R (.returned (.bool true)) w3) :
    Calls Tryz.prog 15 #[.pointer (some ⟨p, 0, none⟩), pairV px py, stepV 12 e a b st tt vl vm] w R := by
  obtain ⟨s, y, hx, hy, ht, hi, hn⟩ := hD
  refine past_retain w p px py e a b st tt vl vm ?_
  have hw := boxW_kp w px py 12 e a b st tt vl vm
  generalize boxW w px py 12 e a b st tt vl vm = w1 at hw ⊢
  have HB := hi.yb (by omega)
  have X0 := hx.box hw
  have Y0 := hy.box hw
  have X1 := X0
  have Y1 := Y0
  obtain ⟨mo, ph, mv, mm, pt, mw, sl, X⟩ := X0
  obtain ⟨vL, vT, vG, sv, lg, Y, hl⟩ := Y0
  have hnow := ht.now
  have hhor := ht.hor
  have hb1 := hi.now
  have hb2 := hi.hor
  refine x_retain X a (fun h0 => ⟨_, rfl, Kp.refl _ _, ?_⟩) (fun q1 q2 hp w2 k2 => ⟨_, rfl, kpF k2, ?_⟩) (fun q1 q2 hp w2 k2 X2 => ⟨_, rfl, low k2, ?_⟩)
  · exact y_retain Y HB hi.bku a (by omega) hb2.1 hb1.2 (fun _ => ⟨rfl, fin0 hw (Kp.refl _ _) (Kp.refl _ _) X1 Y1 ht hi hn hK⟩) (fun h1 h2 => by omega) (fun h1 _ h2 => by omega) (fun h1 _ h2 => by omega)
  · exact y_retain (Y.kept k2) HB hi.bku a (by omega) hb2.1 hb1.2 (fun h => by omega) (fun _ _ _ => ⟨rfl, fin0 hw k2 (Kp.refl _ _) X1 Y1 ht hi hn hK⟩) (fun _ h => absurd ((pin_iff ht a).1 hp) h) (fun _ h => absurd ((pin_iff ht a).1 hp) h)
  · have hpY : ¬ PinY y a := fun h => hp ((pin_iff ht a).2 h)
    obtain ⟨vL, vT, vG, sv, lg, Y, hl⟩ := Y1.past k2 (fun _ _ => rfl)
    refine y_retain Y HB hi.bku a (by omega) hb2.1 hb1.2 (fun h => by omega) (fun _ _ h => absurd h hpY) (fun _ _ he => ⟨rfl, ?_⟩) (fun _ _ hlt w3 own3 vG' x k3 a3 Y3 => ⟨rfl, ?_⟩)
    · have ey : horY y a = y := by rw [he]; rfl
      refine fin hw k2 (fun _ _ => rfl) ⟨_, _, _, _, _, _, _, X2⟩ (Kp.refl _ _) (fun _ _ => rfl) ⟨vL, vT, vG, sv, lg, Y, hl⟩ ?_ hi (by omega) hK
      have := ht.retained a
      rw [ey] at this
      exact this
    · refine fin hw k2 (fun _ _ => rfl) ⟨_, _, _, _, _, _, _, X2⟩ k3 a3 ⟨_, _, _, _, _, Y3, ?_⟩ (ht.retained a) (hi.retained (by omega) (by omega) hpY) (by show y.txs.length ≤ nt + 1; omega) hK
      show ((lg ++ [x]).length : Int) ≤ y.now + a
      rw [List.length_append]
      simp
      omega

theorem d_vacuum (hD : Duo own i w px py nt) (e a b : Int) (ha : -9223372036854775808 ≤ a ∧ a ≤ 9223372036854775807) (st tt : ByteArray) (vl vm : Value)
    (hK : ∀ w3 own3, Kp (Cap own i) w w3 → (∀ b, b < w.heap.size → own3 b = own b) → Duo own3 i w3 px py (nt + 1) → R (.returned (.bool true)) w3) :
    Calls Tryz.prog 15 #[.pointer (some ⟨p, 0, none⟩), pairV px py, stepV 13 e a b st tt vl vm] w R := by
  obtain ⟨s, y, hx, hy, ht, hi, hn⟩ := hD
  refine past_vacuum w p px py e a b st tt vl vm ?_
  have hw := boxW_kp w px py 13 e a b st tt vl vm
  generalize boxW w px py 13 e a b st tt vl vm = w1 at hw ⊢
  have Y1 := hy.box hw
  obtain ⟨mo, ph, mv, mm, pt, mw, sl, X⟩ := hx.box hw
  have hnm := ht.nm
  have hb1 := hi.now
  refine x_vacuum X a ha ⟨ht.momOk hi, ht.keysM hi, by omega⟩ (fun w2 sl2 ks hs hmem k2 X2 => ⟨_, rfl, low k2, ?_⟩)
  obtain ⟨vL, vT, vG, sv, lg, Y, hl⟩ := Y1.past k2 (fun _ _ => rfl)
  refine y_vacuum Y hi.small a ha.2 (fun n w3 own3 y' vL' hv h1 h2 k3 a3 Y3 => ?_)
  obtain ⟨r1, r2, r3, r4, r5, r6⟩ := vac_tied ht hi hs hmem hv h1 h2
  refine ⟨by rw [r1], fin hw k2 (fun _ _ => rfl) ⟨_, _, _, _, _, _, _, X2⟩ k3 a3 ⟨_, _, _, _, _, Y3, by rw [r5, r6]; exact hl⟩ r2 r3 (by rw [r4]; omega) hK⟩

variable {ds : List (Nat × Nat)} {vL vP vK : Value} {bk : List (Value × Nat × Int)}

theorem i_range (h : Inv own w p ds vL vP vK bk nt) (hi : i < ds.length) (hnt : nt < 1000000) (e a b : Int) (st tt : ByteArray) (vl vm : Value)
    (hK : ∀ w' own' vP' vK' bk', Kp (fun b => own b ≠ lab9) w w' → (∀ b, b < w.heap.size → own' b = own b) → Inv own' w' p ds vL vP' vK' bk' (nt + 1) → R (.returned (.bool true)) w') :
    Calls Tryz.prog 15 #[.pointer (some ⟨p, 0, none⟩), pairV (ds[i]).1 (ds[i]).2, stepV 11 e a b st tt vl vm] w R := by
  obtain ⟨s, y, hx, hy, ht, hI, hn⟩ := h.duos i hi
  refine past_range w p _ _ e a b st tt vl vm ?_
  have hw := boxW_kp w (ds[i]).1 (ds[i]).2 11 e a b st tt vl vm
  generalize boxW w (ds[i]).1 (ds[i]).2 11 e a b st tt vl vm = w1 at hw ⊢
  obtain ⟨mo, ph, mv, mm, pt, mw, sl, X⟩ := hx.box hw
  obtain ⟨vL', vT, vG, sv, lg, Y, hl⟩ := hy.box hw
  obtain ⟨av, cap, hvL, _⟩ := row_len Y.rowL
  have hnm := ht.nm
  have hnow := hI.now
  have hn1 := ht.now
  have hh1 := ht.hor
  have hsm := hI.len
  have C : ∀ {w2 : World}, Kp (fun _ => False) w1 w2 → w2.cell? ⟨(ds[i]).2, 0, none⟩ = some (.slice av y.l.length cap) ∧ w2.cell? ⟨(ds[i]).2, 1, none⟩ = some (.int .i64 y.hor) ∧ w2.cell? ⟨(ds[i]).2, 2, none⟩ = some (.int .i64 y.now) := fun k2 =>
    ⟨(cell_of (Y.kept k2).store 0).trans (by rw [← hvL]; rfl), cell_of (Y.kept k2).store 1, cell_of (Y.kept k2).store 2⟩
  have W : ∀ {w3 : World}, Kp (fun _ => False) w1 w3 → w3.ownsRow 0 107 4 (.slice av y.l.length cap) y.l.length (cellsV y.l) := fun k => by
    have := (Y.kept k).rowL
    rw [hvL] at this
    exact this
  refine x_range a st tt (x_between X a st tt (by omega) (ht.momOk hI) (ht.keysM hI) (fun q1 => ⟨_, _, rfl, ?_⟩) (fun q1 q2 => ⟨_, _, rfl, ?_⟩) (fun q1 q2 w2 v ks k2 hsort hmem hlen hrow => ⟨_, _, rfl, ?_⟩))
  · refine ⟨_, _, y.hor, y.now, av, _, cap, rfl, Kp.refl _ _, (C (Kp.refl _ _)).1, (C (Kp.refl _ _)).2.1, (C (Kp.refl _ _)).2.2, fun w3 k3 => ?_⟩
    refine range_any y.l _ y.hor y.now a st tt _ (ht.told hI a) hI.small (W k3) (fun _ => ⟨_, rfl, k3, ?_⟩) (fun h => by omega) (fun h => by omega)
    exact i_pairs h hnt (hw.trans k3 (fun _ _ h => h)) (.slice none 0 0) (.slice none 0 0) 0 [] 6 (by omega) (World.ownsRow_nil _ _ _ _) (World.ownsRow_nil _ _ _ _) hK
  · refine ⟨_, _, y.hor, y.now, av, _, cap, rfl, Kp.refl _ _, (C (Kp.refl _ _)).1, (C (Kp.refl _ _)).2.1, (C (Kp.refl _ _)).2.2, fun w3 k3 => ?_⟩
    refine range_any y.l _ y.hor y.now a st tt _ (ht.told hI a) hI.small (W k3) (fun h => by omega) (fun _ _ => ⟨_, rfl, k3, ?_⟩) (fun _ h => by omega)
    exact i_pairs h hnt (hw.trans k3 (fun _ _ h => h)) (.slice none 0 0) (.slice none 0 0) 0 [] 7 (by omega) (World.ownsRow_nil _ _ _ _) (World.ownsRow_nil _ _ _ _) hK
  · refine ⟨_, _, y.hor, y.now, av, _, cap, rfl, kpF k2, (C k2).1, (C k2).2.1, (C k2).2.2, fun w3 k3 => ?_⟩
    refine range_any y.l _ y.hor y.now a st tt _ (ht.told hI a) hI.small (W (k2.trans k3 (fun _ _ h => h))) (fun h => by omega) (fun _ h => by omega) (fun _ _ w4 v' ks' k4 hsort' hmem' hlen' hrow' => ⟨v', rfl, k3.trans k4 (fun _ _ h => h), ?_⟩)
    have hks : ks' = ks := sorted_ext hsort' hsort (fun k => by rw [hmem, hmem', ht.mom, moms_ne])
    subst hks
    have hlf := List.length_filterMap_le (pairOf (fun k => valAt s k a)) ks'
    have k34 := k3.trans k4 (fun _ _ h => h)
    have hrow4 := ownsRow_kp hrow k34 (fun _ _ h => h)
    refine i_pairs h hnt ((hw.trans k2 (fun _ _ h => h)).trans k34 (fun _ _ h => h)) v v' _ _ 0 (by omega) ⟨hrow4.1, hrow4.2.imp id (fun ⟨g, cap, cur, e1, e2, e3⟩ => ⟨g, cap, cur, e1, Nat.le_trans hw.size e2, e3⟩)⟩ ⟨hrow'.1, hrow'.2.imp id (fun ⟨g, cap, cur, e1, _, e3⟩ => ⟨g, cap, cur, e1, Nat.zero_le _, e3⟩)⟩ hK

theorem i_past (h : Inv own w p ds vL vP vK bk nt) (hi : i < ds.length) (hnt : nt < 1000000) (kind e a b : Int) (hk : 10 ≤ kind ∧ kind ≤ 14) (ha : -9223372036854775808 ≤ a ∧ a ≤ 9223372036854775807) (st tt : ByteArray) (hst : st.size ≤ maxLen) (vl vm : Value)
    (hK : ∀ w' own' vP' vK' bk', Kp (fun b => own b ≠ lab9) w w' → (∀ b, b < w.heap.size → own' b = own b) → Inv own' w' p ds vL vP' vK' bk' (nt + 1) → R (.returned (.bool true)) w') :
    Calls Tryz.prog 15 #[.pointer (some ⟨p, 0, none⟩), pairV (ds[i]).1 (ds[i]).2, stepV kind e a b st tt vl vm] w R := by
  have hD := h.duos i hi
  have hn' : nt < 100000000 := by omega
  have K : ∀ w3 own3, Kp (Cap own i) w w3 → (∀ b, b < w.heap.size → own3 b = own b) → Duo own3 i w3 (ds[i]).1 (ds[i]).2 (nt + 1) → R (.returned (.bool true)) w3 := fun w3 own3 k a d => hK w3 own3 vP vK bk (k.mono (fun _ _ h => cap_not9 h)) a (h.touch hi k a d)
  rcases (by omega : kind = 10 ∨ kind = 11 ∨ kind = 12 ∨ kind = 13 ∨ kind = 14) with rfl | rfl | rfl | rfl | rfl
  · exact d_asof hD e a b st tt hst vl vm K
  · exact i_range h hi hnt e a b st tt vl vm hK
  · exact d_retain hD hn' e a b st tt vl vm K
  · exact d_vacuum hD e a b ha st tt vl vm K
  · exact d_stored hD e a b st tt vl vm K

end

end Go.Proofs.YtnidlcpjjgmclaaGreat
