/-
  A store of the program and the document's answer to it, side by side: the calls of stage 2.
  A step of any kind; what comes ahead of a script.
-/
import Derived.Test.YthbdpfccfcceiaaGreatDoorT4T5
import Derived.Test.YthbdpfccfcceiaaGreatDoorT6
import Derived.Test.YthbdpfccfcceiaaGreatDoorG10V2
import Derived.Test.YthbdpfccfcceiaaGreatDoorG6
import Derived.Test.YthbdpfccfcceiaaGreatDoorZ2G7
import Derived.Test.YthbdpfccfcceiaaGreatDoorG11R15
namespace Go.Proofs.YthbdpfccfcceiaaGreatDoor
open Go.RowKit

section
variable {own : Nat → Lab} {i : Nat} {w : World} {p px py nt : Nat}
variable {R : Ending → World → Prop}

theorem YI.small {y : YS} (h : YI y) : y.l.length < 1000000 := by
  have h1 := h.len
  have h2 := h.now
  omega

theorem d_asof (hD : Duo own i w px py nt) (e a b : Int) (st tt : ByteArray) (hst : st.size ≤ maxLen) (vl vm : Value)
    (hK : ∀ w3 own3, Kp (Cap own i) w w3 → (∀ b, b < w.heap.size → own3 b = own b) → Duo own3 i w3 px py (nt + 1) → R (.returned (.bool true)) w3) :
    Calls Tryz.prog 62 #[.pointer (some ⟨p, 0, none⟩), pairV px py, stepV 10 e a b st tt vl vm] w R := by
  obtain ⟨s, y, hx, hy, ht, hi, hn⟩ := hD
  refine past_asof w p px py e a b st tt vl vm ?_
  have hw := boxW_kp w px py 10 e a b st tt vl vm
  generalize boxW w px py 10 e a b st tt vl vm = w1 at hw ⊢
  have X0 := hx.box hw
  have Y0 := hy.box hw
  obtain ⟨mo, ph, mv, mm, pt, mw, sl, X⟩ := X0
  obtain ⟨vL, vT, vG, sv, lg, Y, hl⟩ := Y0
  obtain ⟨av, cap, hvL, _⟩ := row_len Y.rowL
  have hnow := ht.now
  have hhor := ht.hor
  have F : ∀ {w2 w3 : World}, Kp (fun _ => False) w1 w2 → Kp (fun _ => False) w2 w3 → R (.returned (.bool true)) w3 := fun k2 k3 => fin0 hw k2 k3 ⟨mo, ph, mv, mm, pt, mw, sl, X⟩ ⟨vL, vT, vG, sv, lg, Y, hl⟩ ht hi hn hK
  have C : ∀ {w2 : World}, Kp (fun _ => False) w1 w2 → w2.cell? ⟨py, 0, none⟩ = some (.slice av y.l.length cap) ∧ w2.cell? ⟨py, 1, none⟩ = some (.int .i64 y.hor) ∧ w2.cell? ⟨py, 2, none⟩ = some (.int .i64 y.now) := fun k2 =>
    ⟨(cell_of (Y.kept k2).store 0).trans (by rw [← hvL]; rfl), cell_of (Y.kept k2).store 1, cell_of (Y.kept k2).store 2⟩
  have W : ∀ {w3 : World}, Kp (fun _ => False) w1 w3 → w3.ownsRow 0 193 4 (.slice av y.l.length cap) y.l.length (cellsV y.l) := fun k => by
    have := (Y.kept k).rowL
    rw [hvL] at this
    exact this
  refine x_asof a st (x_asof0 X a st hst (ht.momOk hi) (fun hk => ⟨_, _, rfl, ?_⟩) (fun hk q1 => ⟨_, _, rfl, ?_⟩) (fun hk q1 q2 => ⟨_, _, rfl, ?_⟩) (fun hk q1 q2 hv w2 k2 => ⟨_, _, rfl, ?_⟩) (fun hk q1 q2 hv w2 k2 => ⟨_, _, rfl, ?_⟩))
  · refine ⟨_, _, y.hor, y.now, av, _, cap, rfl, Kp.refl _ _, (C (Kp.refl _ _)).1, (C (Kp.refl _ _)).2.1, (C (Kp.refl _ _)).2.2, fun w3 k3 => ?_⟩
    exact ask_any y.l _ y.hor y.now a st hi.small hst (W k3) (fun _ => ⟨rfl, k3, F (Kp.refl _ _) k3⟩) (fun h => by rw [hk] at h; cases h) (fun h => by rw [hk] at h; cases h) (fun h => by rw [hk] at h; cases h) (fun h => by rw [hk] at h; cases h)
  · refine ⟨_, _, y.hor, y.now, av, _, cap, rfl, Kp.refl _ _, (C (Kp.refl _ _)).1, (C (Kp.refl _ _)).2.1, (C (Kp.refl _ _)).2.2, fun w3 k3 => ?_⟩
    exact ask_any y.l _ y.hor y.now a st hi.small hst (W k3) (fun h => by rw [hk] at h; cases h) (fun _ _ => ⟨rfl, k3, F (Kp.refl _ _) k3⟩) (fun _ h => by omega) (fun _ h => by omega) (fun _ h => by omega)
  · refine ⟨_, _, y.hor, y.now, av, _, cap, rfl, Kp.refl _ _, (C (Kp.refl _ _)).1, (C (Kp.refl _ _)).2.1, (C (Kp.refl _ _)).2.2, fun w3 k3 => ?_⟩
    exact ask_any y.l _ y.hor y.now a st hi.small hst (W k3) (fun h => by rw [hk] at h; cases h) (fun _ h => by omega) (fun _ _ _ => ⟨rfl, k3, F (Kp.refl _ _) k3⟩) (fun _ _ h => by omega) (fun _ _ h => by omega)
  · refine ⟨_, _, y.hor, y.now, av, _, cap, rfl, kpF k2, (C k2).1, (C k2).2.1, (C k2).2.2, fun w3 k3 => ?_⟩
    refine ask_any y.l _ y.hor y.now a st hi.small hst (W (k2.trans k3 (fun _ _ h => h))) (fun h => by rw [hk] at h; cases h) (fun _ h => by omega) (fun _ _ h => by omega) (fun _ _ _ r w4 hr hr2 k4 => ⟨rfl, k3.trans k4 (fun _ _ h => h), F k2 (k3.trans k4 (fun _ _ h => h))⟩) (fun _ _ _ r w4 hr hr2 k4 => ?_)
    have := (ht.told hi a st r hr).1
    rw [hr2] at this
    have hv' : (valAt s st a).2 = true := this.symm
    rw [hv] at hv'; cases hv'
  · refine ⟨_, _, y.hor, y.now, av, _, cap, rfl, kpF k2, (C k2).1, (C k2).2.1, (C k2).2.2, fun w3 k3 => ?_⟩
    refine ask_any y.l _ y.hor y.now a st hi.small hst (W (k2.trans k3 (fun _ _ h => h))) (fun h => by rw [hk] at h; cases h) (fun _ h => by omega) (fun _ _ h => by omega) (fun _ _ _ r w4 hr hr2 k4 => ?_) (fun _ _ _ r w4 hr hr2 k4 => ⟨?_, k3.trans k4 (fun _ _ h => h), F k2 (k3.trans k4 (fun _ _ h => h))⟩)
    · have := (ht.told hi a st r hr).1
      rw [hr2] at this
      have hv' : (valAt s st a).2 = false := this.symm
      rw [hv] at hv'; cases hv'
    · rw [(ht.told hi a st r hr).2 hr2]

theorem d_stored (hD : Duo own i w px py nt) (e a b : Int) (st tt : ByteArray) (vl vm : Value)
    (hK : ∀ w3 own3, Kp (Cap own i) w w3 → (∀ b, b < w.heap.size → own3 b = own b) → Duo own3 i w3 px py (nt + 1) → R (.returned (.bool true)) w3) :
    Calls Tryz.prog 62 #[.pointer (some ⟨p, 0, none⟩), pairV px py, stepV 14 e a b st tt vl vm] w R := by
  obtain ⟨s, y, hx, hy, ht, hi, hn⟩ := hD
  refine past_stored w p px py e a b st tt vl vm ?_
  have hw := boxW_kp w px py 14 e a b st tt vl vm
  generalize boxW w px py 14 e a b st tt vl vm = w1 at hw ⊢
  have X0 := hx.box hw
  have Y0 := hy.box hw
  obtain ⟨mo, ph, mv, mm, pt, mw, sl, X⟩ := X0
  obtain ⟨vL, vT, vG, sv, lg, Y, hl⟩ := Y0
  obtain ⟨av, cap, hvL, _⟩ := row_len Y.rowL
  have hc := ht.count hi X
  refine x_stored X ⟨s.nv, av, cap, rfl, Kp.refl _ _, ?_, fin0 hw (Kp.refl _ _) (Kp.refl _ _) ⟨mo, ph, mv, mm, pt, mw, sl, X⟩ ⟨vL, vT, vG, sv, lg, Y, hl⟩ ht hi hn hK⟩
  rw [hc]
  exact (cell_of Y.store 0).trans (by rw [← hvL]; rfl)

theorem d_retain (hD : Duo own i w px py nt) (hT : Tab w) (hN : TabN own (2 * i + 2)) (hnt : nt < 100000000) (e a b : Int) (st tt : ByteArray) (vl vm : Value)
    (hK : ∀ w3 own3, Kp (Cap own i) w w3 → (∀ b, b < w.heap.size → own3 b = own b) → Duo own3 i w3 px py (nt + 1) → R (.returned (.bool true)) w3) :
    Calls Tryz.prog 62 #[.pointer (some ⟨p, 0, none⟩), pairV px py, stepV 12 e a b st tt vl vm] w R := by
  obtain ⟨s, y, hx, hy, ht, hi, hn⟩ := hD
  refine past_retain w p px py e a b st tt vl vm ?_
  have hw := boxW_kp w px py 12 e a b st tt vl vm
  generalize boxW w px py 12 e a b st tt vl vm = w1 at hw ⊢
  have HB := hi.yb (by omega)
  have X0 := hx.box hw
  have Y0 := hy.box hw
  have X1 := X0
  have Y1 := Y0
  obtain ⟨mo, ph, mv, mm, pt, mw, sl, X⟩ := X0
  obtain ⟨vL, vT, vG, sv, lg, Y, hl⟩ := Y0
  have hnow := ht.now
  have hhor := ht.hor
  have hb1 := hi.now
  have hb2 := hi.hor
  have hlg1 := ht.lgl
  have hN1 : TabN (base9 own w.heap.size) (2 * i + 2) := by
    unfold TabN
    rw [base9_old hT.lt.1, base9_old hT.lt.2]; exact hN
  refine x_retain X (hT.kept hw) hN1 a (by omega) (by omega) ht.lgb (fun h0 => ⟨_, rfl, Kp.refl _ _, ?_⟩) (fun q1 q2 hp w2 k2 => ⟨_, rfl, kpF k2, ?_⟩) (fun q1 q2 hp w2 own2 l2 k2 a2 hl2 hs2 X2 => ⟨_, rfl, low k2, ?_⟩)
  · exact y_retain Y HB hi.bku a (by omega) hb2.1 hb1.2 (fun _ => ⟨rfl, fin0 hw (Kp.refl _ _) (Kp.refl _ _) X1 Y1 ht hi hn hK⟩) (fun h1 h2 => by omega) (fun h1 _ h2 => by omega) (fun h1 _ h2 => by omega)
  · exact y_retain (Y.kept k2) HB hi.bku a (by omega) hb2.1 hb1.2 (fun h => by omega) (fun _ _ _ => ⟨rfl, fin0 hw k2 (Kp.refl _ _) X1 Y1 ht hi hn hK⟩) (fun _ h => absurd ((pin_iff ht a).1 hp) h) (fun _ h => absurd ((pin_iff ht a).1 hp) h)
  · have hpY : ¬ PinY y a := fun h => hp ((pin_iff ht a).2 h)
    obtain ⟨vL, vT, vG, sv, lg, Y, hl⟩ := Y1.past k2 a2
    refine y_retain Y HB hi.bku a (by omega) hb2.1 hb1.2 (fun h => by omega) (fun _ _ h => absurd h hpY) (fun _ _ he => ⟨rfl, ?_⟩) (fun _ _ hlt w3 own3 vG' x k3 a3 Y3 => ⟨rfl, ?_⟩)
    · have ey : horY y a = y := by rw [he]; rfl
      refine fin hw k2 a2 ⟨_, _, _, _, _, _, _, X2⟩ (Kp.refl _ _) (fun _ _ => rfl) ⟨vL, vT, vG, sv, lg, Y, hl⟩ ?_ hi (by omega) hK
      have := ht.retained a (by omega) hl2 hs2
      rw [ey] at this
      exact this
    · refine fin hw k2 a2 ⟨_, _, _, _, _, _, _, X2⟩ k3 a3 ⟨_, _, _, _, _, Y3, ?_⟩ (ht.retained a (by omega) hl2 hs2) (hi.retained (by omega) (by omega) hpY) (by show y.txs.length ≤ nt + 1; omega) hK
      show ((lg ++ [x]).length : Int) ≤ y.now + a
      rw [List.length_append]
      simp
      omega

theorem d_vacuum (hD : Duo own i w px py nt) (e a b : Int) (ha : -9223372036854775808 ≤ a ∧ a ≤ 9223372036854775807) (st tt : ByteArray) (vl vm : Value)
    (hK : ∀ w3 own3, Kp (Cap own i) w w3 → (∀ b, b < w.heap.size → own3 b = own b) → Duo own3 i w3 px py (nt + 1) → R (.returned (.bool true)) w3) :
    Calls Tryz.prog 62 #[.pointer (some ⟨p, 0, none⟩), pairV px py, stepV 13 e a b st tt vl vm] w R := by
  obtain ⟨s, y, hx, hy, ht, hi, hn⟩ := hD
  refine past_vacuum w p px py e a b st tt vl vm ?_
  have hw := boxW_kp w px py 13 e a b st tt vl vm
  generalize boxW w px py 13 e a b st tt vl vm = w1 at hw ⊢
  have Y1 := hy.box hw
  obtain ⟨mo, ph, mv, mm, pt, mw, sl, X⟩ := hx.box hw
  have hnm := ht.nm
  have hb1 := hi.now
  refine x_vacuum X a ha ⟨ht.momOk hi, ht.keysM hi, by omega⟩ (fun w2 sl2 ks hs hmem k2 X2 => ⟨_, rfl, low k2, ?_⟩)
  obtain ⟨vL, vT, vG, sv, lg, Y, hl⟩ := Y1.past k2 (fun _ _ => rfl)
  refine y_vacuum Y hi.small a ha.2 (fun n w3 own3 y' vL' hv h1 h2 k3 a3 Y3 => ?_)
  obtain ⟨r1, r2, r3, r4, r5, r6⟩ := vac_tied ht hi hs hmem hv h1 h2
  refine ⟨by rw [r1], fin hw k2 (fun _ _ => rfl) ⟨_, _, _, _, _, _, _, X2⟩ k3 a3 ⟨_, _, _, _, _, Y3, by rw [r5, r6]; exact hl⟩ r2 r3 (by rw [r4]; omega) hK⟩

variable {ds : List (Nat × Nat)} {vL vP vK : Value} {bk : List (Value × Nat × Int)}

theorem i_range (h : Inv own w p ds vL vP vK bk nt) (hi : i < ds.length) (hnt : nt < 1000000) (e a b : Int) (st tt : ByteArray) (vl vm : Value)
    (hK : ∀ w' own' vP' vK' bk', Kp (fun b => own b ≠ lab9) w w' → (∀ b, b < w.heap.size → own' b = own b) → Inv own' w' p ds vL vP' vK' bk' (nt + 1) → R (.returned (.bool true)) w') :
    Calls Tryz.prog 62 #[.pointer (some ⟨p, 0, none⟩), pairV (ds[i]).1 (ds[i]).2, stepV 11 e a b st tt vl vm] w R := by
  obtain ⟨s, y, hx, hy, ht, hI, hn⟩ := h.duos i hi
  refine past_range w p _ _ e a b st tt vl vm ?_
  have hw := boxW_kp w (ds[i]).1 (ds[i]).2 11 e a b st tt vl vm
  generalize boxW w (ds[i]).1 (ds[i]).2 11 e a b st tt vl vm = w1 at hw ⊢
  obtain ⟨mo, ph, mv, mm, pt, mw, sl, X⟩ := hx.box hw
  obtain ⟨vL', vT, vG, sv, lg, Y, hl⟩ := hy.box hw
  obtain ⟨av, cap, hvL, _⟩ := row_len Y.rowL
  have hnm := ht.nm
  have hnow := hI.now
  have hn1 := ht.now
  have hh1 := ht.hor
  have hsm := hI.len
  have C : ∀ {w2 : World}, Kp (fun _ => False) w1 w2 → w2.cell? ⟨(ds[i]).2, 0, none⟩ = some (.slice av y.l.length cap) ∧ w2.cell? ⟨(ds[i]).2, 1, none⟩ = some (.int .i64 y.hor) ∧ w2.cell? ⟨(ds[i]).2, 2, none⟩ = some (.int .i64 y.now) := fun k2 =>
    ⟨(cell_of (Y.kept k2).store 0).trans (by rw [← hvL]; rfl), cell_of (Y.kept k2).store 1, cell_of (Y.kept k2).store 2⟩
  have W : ∀ {w3 : World}, Kp (fun _ => False) w1 w3 → w3.ownsRow 0 193 4 (.slice av y.l.length cap) y.l.length (cellsV y.l) := fun k => by
    have := (Y.kept k).rowL
    rw [hvL] at this
    exact this
  refine x_range a st tt (x_between X a st tt (by omega) (ht.momOk hI) (ht.keysM hI) (fun q1 => ⟨_, _, rfl, ?_⟩) (fun q1 q2 => ⟨_, _, rfl, ?_⟩) (fun q1 q2 w2 v ks k2 hsort hmem hlen hrow => ⟨_, _, rfl, ?_⟩))
  · refine ⟨_, _, y.hor, y.now, av, _, cap, rfl, Kp.refl _ _, (C (Kp.refl _ _)).1, (C (Kp.refl _ _)).2.1, (C (Kp.refl _ _)).2.2, fun w3 k3 => ?_⟩
    refine range_any y.l _ y.hor y.now a st tt _ (ht.told hI a) hI.small (W k3) (fun _ => ⟨_, rfl, k3, ?_⟩) (fun h => by omega) (fun h => by omega)
    exact i_pairs h hnt (hw.trans k3 (fun _ _ h => h)) (.slice none 0 0) (.slice none 0 0) 0 [] 6 (by omega) (World.ownsRow_nil _ _ _ _) (World.ownsRow_nil _ _ _ _) hK
  · refine ⟨_, _, y.hor, y.now, av, _, cap, rfl, Kp.refl _ _, (C (Kp.refl _ _)).1, (C (Kp.refl _ _)).2.1, (C (Kp.refl _ _)).2.2, fun w3 k3 => ?_⟩
    refine range_any y.l _ y.hor y.now a st tt _ (ht.told hI a) hI.small (W k3) (fun h => by omega) (fun _ _ => ⟨_, rfl, k3, ?_⟩) (fun _ h => by omega)
    exact i_pairs h hnt (hw.trans k3 (fun _ _ h => h)) (.slice none 0 0) (.slice none 0 0) 0 [] 7 (by omega) (World.ownsRow_nil _ _ _ _) (World.ownsRow_nil _ _ _ _) hK
  · refine ⟨_, _, y.hor, y.now, av, _, cap, rfl, kpF k2, (C k2).1, (C k2).2.1, (C k2).2.2, fun w3 k3 => ?_⟩
    refine range_any y.l _ y.hor y.now a st tt _ (ht.told hI a) hI.small (W (k2.trans k3 (fun _ _ h => h))) (fun h => by omega) (fun _ h => by omega) (fun _ _ w4 v' ks' k4 hsort' hmem' hlen' hrow' => ⟨v', rfl, k3.trans k4 (fun _ _ h => h), ?_⟩)
    have hks : ks' = ks := sorted_ext hsort' hsort (fun k => by rw [hmem, hmem', ht.mom, moms_ne])
    subst hks
    have hlf := List.length_filterMap_le (pairOf (fun k => valAt s k a)) ks'
    have k34 := k3.trans k4 (fun _ _ h => h)
    have hrow4 := ownsRow_kp hrow k34 (fun _ _ h => h)
    refine i_pairs h hnt ((hw.trans k2 (fun _ _ h => h)).trans k34 (fun _ _ h => h)) v v' _ _ 0 (by omega) ⟨hrow4.1, hrow4.2.imp id (fun ⟨g, cap, cur, e1, e2, e3⟩ => ⟨g, cap, cur, e1, Nat.le_trans hw.size e2, e3⟩)⟩ ⟨hrow'.1, hrow'.2.imp id (fun ⟨g, cap, cur, e1, _, e3⟩ => ⟨g, cap, cur, e1, Nat.zero_le _, e3⟩)⟩ hK

theorem i_past (h : Inv own w p ds vL vP vK bk nt) (hi : i < ds.length) (hnt : nt < 1000000) (kind e a b : Int) (hk : 10 ≤ kind ∧ kind ≤ 14) (ha : -9223372036854775808 ≤ a ∧ a ≤ 9223372036854775807) (st tt : ByteArray) (hst : st.size ≤ maxLen) (vl vm : Value)
    (hK : ∀ w' own' vP' vK' bk', Kp (fun b => own b ≠ lab9) w w' → (∀ b, b < w.heap.size → own' b = own b) → Inv own' w' p ds vL vP' vK' bk' (nt + 1) → R (.returned (.bool true)) w') :
    Calls Tryz.prog 62 #[.pointer (some ⟨p, 0, none⟩), pairV (ds[i]).1 (ds[i]).2, stepV kind e a b st tt vl vm] w R := by
  have hD := h.duos i hi
  have hn' : nt < 100000000 := by omega
  have K : ∀ w3 own3, Kp (Cap own i) w w3 → (∀ b, b < w.heap.size → own3 b = own b) → Duo own3 i w3 (ds[i]).1 (ds[i]).2 (nt + 1) → R (.returned (.bool true)) w3 := fun w3 own3 k a d => hK w3 own3 vP vK bk (k.mono (fun _ _ h => cap_not9 h)) a (h.touch hi k a d)
  rcases (by omega : kind = 10 ∨ kind = 11 ∨ kind = 12 ∨ kind = 13 ∨ kind = 14) with rfl | rfl | rfl | rfl | rfl
  · exact d_asof hD e a b st tt hst vl vm K
  · exact i_range h hi hnt e a b st tt vl vm hK
  · exact d_retain hD h.tab (h.tabN i) hn' e a b st tt vl vm K
  · exact d_vacuum hD e a b ha st tt vl vm K
  · exact d_stored hD e a b st tt vl vm K

end

end Go.Proofs.YthbdpfccfcceiaaGreatDoor

namespace Go.Proofs.YthbdpfccfcceiaaGreatDoor
open Go.RowKit

/-- A step, as a script has it. -/
structure S8 where
  kind : Int
  e : Int
  a : Int
  b : Int
  s : ByteArray
  t : ByteArray
  vl : Value
  vm : Value

def S8.cells (x : S8) : List Value := [.int .i64 x.kind, .int .i64 x.e, .int .i64 x.a, .int .i64 x.b, .string x.s, .string x.t, x.vl, x.vm]

structure S8.ok (x : S8) : Prop where
  e : -9223372036854775808 ≤ x.e ∧ x.e ≤ 9223372036854775807
  a : -9223372036854775808 ≤ x.a ∧ x.a ≤ 9223372036854775807
  s : x.s.size ≤ maxLen
  t : x.t.size ≤ maxLen

section
variable {own : Nat → Lab} {w : World} {p nt : Nat} {ds : List (Nat × Nat)} {vL vP vK : Value} {bk : List (Value × Nat × Int)}
variable {R : Ending → World → Prop}

theorem step_past (h : Inv own w p ds vL vP vK bk nt) (h0 : 0 < ds.length) (hnt : nt < 1000000) (kind e a b : Int) (hk : 10 ≤ kind ∧ kind ≤ 14) (he : -9223372036854775808 ≤ e ∧ e ≤ 9223372036854775807) (ha : -9223372036854775808 ≤ a ∧ a ≤ 9223372036854775807) (st tt : ByteArray) (hst : st.size ≤ maxLen) (vl vm : Value)
    (hK : ∀ w' own' vP' vK' bk', Kp (fun b => own b ≠ lab9) w w' → (∀ b, b < w.heap.size → own' b = own b) → Inv own' w' p ds vL vP' vK' bk' (nt + 1) → R (.returned (.bool true)) w') :
    Calls Tryz.prog 31 #[.pointer (some ⟨p, 0, none⟩), .agg #[.int .i64 kind, .int .i64 e, .int .i64 a, .int .i64 b, .string st, .string tt, vl, vm]] w R := by
  have C : ∀ w2 (i : Nat) (hi : i < ds.length), Kp (fun _ => False) w w2 → Calls Tryz.prog 62 #[.pointer (some ⟨p, 0, none⟩), .agg #[.pointer (some ⟨(ds[i]).1, 0, none⟩), .pointer (some ⟨(ds[i]).2, 0, none⟩)], .agg #[.int .i64 kind, .int .i64 e, .int .i64 a, .int .i64 b, .string st, .string tt, vl, vm]] w2 (fun r w' => r = .returned (.bool true) ∧ R (.returned (.bool true)) w') := fun w2 i hi k =>
    i_past (h.same k (fun _ _ => rfl)) hi hnt kind e a b hk ha st tt hst vl vm (fun w' own' vP' vK' bk' k' a' I => ⟨rfl, hK w' own' vP' vK' bk' ((k.mono (fun _ _ h => h.elim)).trans k' (fun _ _ h => h)) (fun b hb => a' b (Nat.lt_of_lt_of_le hb k.size)) I⟩)
  rcases (by omega : kind = 10 ∨ kind = 11 ∨ kind = 12 ∨ kind = 13 ∨ kind = 14) with rfl | rfl | rfl | rfl | rfl
  · exact step_10 h h0 hnt e a b he st tt vl vm C
  · exact step_11 h h0 hnt e a b he st tt vl vm C
  · exact step_12 h h0 hnt e a b he st tt vl vm C
  · exact step_13 h h0 hnt e a b he st tt vl vm C
  · exact step_14 h h0 hnt e a b he st tt vl vm C

theorem step_any (h : Inv own w p ds vL vP vK bk nt) (hnt : nt < 1000000) (kind e a b : Int) (s t : ByteArray) (vl vm : Value) (hx : (⟨kind, e, a, b, s, t, vl, vm⟩ : S8).ok) (h9 : kind ≤ 14) (h0 : kind = 1 ∨ 0 < ds.length)
    (hK : ∀ w' own' ds' vL' vP' vK' bk', Kp (fun b => own b ≠ lab9) w w' → (∀ b, b < w.heap.size → own' b = own b) → Inv own' w' p ds' vL' vP' vK' bk' (nt + 1) → 0 < ds'.length → R (.returned (.bool true)) w') :
    Calls Tryz.prog 31 #[.pointer (some ⟨p, 0, none⟩), .agg #[.int .i64 kind, .int .i64 e, .int .i64 a, .int .i64 b, .string s, .string t, vl, vm]] w R := by
  obtain ⟨he, ha, hs, ht⟩ := hx
  dsimp only at he ha hs ht
  by_cases h1 : kind = 1
  · subst h1
    exact step_new h hnt e a b s t vl vm (fun w' own' vL' q k a I => hK w' own' _ vL' vP vK bk k a I (by simp))
  · replace h0 : 0 < ds.length := h0.resolve_left h1
    have K : ∀ w' own' vP' vK' bk', Kp (fun b => own b ≠ lab9) w w' → (∀ b, b < w.heap.size → own' b = own b) → Inv own' w' p ds vL vP' vK' bk' (nt + 1) → R (.returned (.bool true)) w' := fun w' own' vP' vK' bk' k a I => hK w' own' ds vL vP' vK' bk' k a I h0
    by_cases h2 : kind ≤ 0
    · exact step_none h h0 hnt kind e a b h2 he ha s t hs ht vl vm K
    · by_cases h10 : 10 ≤ kind
      · exact step_past h h0 hnt kind e a b ⟨h10, h9⟩ he ha s t hs vl vm K
      rcases (by omega : kind = 2 ∨ kind = 3 ∨ kind = 4 ∨ kind = 5 ∨ kind = 6 ∨ kind = 7 ∨ kind = 8 ∨ kind = 9) with rfl | rfl | rfl | rfl | rfl | rfl | rfl | rfl
      · exact step_2 h h0 hnt e a b he ha s t hs ht vl vm K
      · exact step_3 h h0 hnt e a b he ha s t hs ht vl vm K
      · exact step_4 h h0 hnt e a b he ha s t hs ht vl vm K
      · exact step_5 h h0 hnt e a b he ha s t hs ht vl vm K
      · exact step_6 h h0 hnt e a b he ha s t hs ht vl vm K
      · exact step_7 h h0 hnt e a b he ha s t hs ht vl vm K
      · exact step_8 h h0 hnt e a b he ha s t hs ht vl vm K
      · exact step_9 h h0 hnt e a b he ha s t hs ht vl vm K

theorem inv_kept (h : Inv own w p ds vL vP vK bk nt) (hnt : nt < 1000000) (hK : ∀ w', Kp (fun _ => False) w w' → Inv own w' p ds vL vP vK bk nt → R (.returned (.bool true)) w') :
    Calls Tryz.prog 32 #[.pointer (some ⟨p, 3, none⟩)] w R :=
  kept_any h.book (by have := h.nbk; omega) (fun w' k => hK w' k (h.same k (fun _ _ => rfl)))

/-- A script in memory. -/
structure Scr (w : World) (g off n : Nat) (f : Nat → S8) : Prop where
  cell : ∀ i, i < n → ∀ k v, (f i).cells[k]? = some v → w.cell? ⟨g, off + i * 8 + k, none⟩ = some v
  lt : g < w.heap.size
  ok : ∀ i, i < n → (f i).ok

theorem Scr.kept {w' : World} {g off n : Nat} {f : Nat → S8} {S : Nat → Prop} (h : Scr w g off n f) (k : Kp S w w') (hn : ¬ S g) : Scr w' g off n f :=
  ⟨fun i hi j v hv => (k.cell (a := ⟨g, off + i * 8 + j, none⟩) h.lt hn).trans (h.cell i hi j v hv), Nat.lt_of_lt_of_le h.lt k.size, h.ok⟩

theorem Scr.at {g off n : Nat} {f : Nat → S8} (h : Scr w g off n f) (i : Nat) (hi : i < n) : ∃ kind e a b s t vl vm, f i = ⟨kind, e, a, b, s, t, vl, vm⟩ ∧ (⟨kind, e, a, b, s, t, vl, vm⟩ : S8).ok ∧ w.cell? ⟨g, off + i * 8, none⟩ = some (.int .i64 kind) ∧ w.cell? ⟨g, off + i * 8 + 1, none⟩ = some (.int .i64 e) ∧ w.cell? ⟨g, off + i * 8 + 2, none⟩ = some (.int .i64 a) ∧ w.cell? ⟨g, off + i * 8 + 3, none⟩ = some (.int .i64 b) ∧
    w.cell? ⟨g, off + i * 8 + 4, none⟩ = some (.string s) ∧ w.cell? ⟨g, off + i * 8 + 5, none⟩ = some (.string t) ∧ w.cell? ⟨g, off + i * 8 + 6, none⟩ = some vl ∧ w.cell? ⟨g, off + i * 8 + 7, none⟩ = some vm :=
  ⟨_, _, _, _, _, _, _, _, rfl, h.ok i hi, h.cell i hi 0 _ rfl, h.cell i hi 1 _ rfl, h.cell i hi 2 _ rfl, h.cell i hi 3 _ rfl, h.cell i hi 4 _ rfl, h.cell i hi 5 _ rfl, h.cell i hi 6 _ rfl, h.cell i hi 7 _ rfl⟩

def bsteps : List S8 := [⟨1, 0, 0, 0, ⟨#[]⟩, ⟨#[]⟩, .slice none 0 0, .slice none 0 0⟩,
  ⟨2, 0, 0, 0, ⟨#[]⟩, ⟨#[]⟩, .slice none 0 0, .slice none 0 0⟩,
  ⟨5, 0, 1, 0, ⟨#[97]⟩, ⟨#[120]⟩, .slice none 0 0, .slice none 0 0⟩,
  ⟨2, 0, 0, 0, ⟨#[]⟩, ⟨#[]⟩, .slice none 0 0, .slice none 0 0⟩,
  ⟨7, 0, 1, 0, ⟨#[]⟩, ⟨#[]⟩, .slice none 0 0, .slice none 0 0⟩,
  ⟨5, 0, 2, 0, ⟨#[97]⟩, ⟨#[121]⟩, .slice none 0 0, .slice none 0 0⟩,
  ⟨7, 0, 2, 0, ⟨#[]⟩, ⟨#[]⟩, .slice none 0 0, .slice none 0 0⟩,
  ⟨10, 0, 1, 0, ⟨#[97]⟩, ⟨#[]⟩, .slice none 0 0, .slice none 0 0⟩,
  ⟨17, 0, 5, 0, ⟨#[]⟩, ⟨#[]⟩, .slice none 0 0, .slice none 0 0⟩,
  ⟨19, 0, 1000, 1, ⟨#[]⟩, ⟨#[]⟩, .slice none 0 0, .slice none 0 0⟩,
  ⟨20, 0, 0, 0, ⟨#[]⟩, ⟨#[]⟩, .slice none 0 0, .slice none 0 0⟩,
  ⟨21, 0, 1, 9, ⟨#[]⟩, ⟨#[]⟩, .slice none 0 0, .slice none 0 0⟩,
  ⟨23, 0, 1, 1, ⟨#[]⟩, ⟨#[]⟩, .slice none 0 0, .slice none 0 0⟩,
  ⟨25, 0, 1, 0, ⟨#[97]⟩, ⟨#[]⟩, .slice none 0 0, .slice none 0 0⟩]
def bstep (i : Nat) : S8 := bsteps.getD i ⟨0, 0, 0, 0, ⟨#[]⟩, ⟨#[]⟩, .slice none 0 0, .slice none 0 0⟩

theorem scr_begun (w : World) : Scr (w.alloc (.cells (bsteps.flatMap S8.cells).toArray 71)) w.heap.size 0 14 bstep := by
  have hb := heap_alloc_new w (.cells (bsteps.flatMap S8.cells).toArray 71)
  refine ⟨fun i hi k v hv => ?_, block_lt hb, fun i hi => ?_⟩
  · rw [cell_of hb]
    have hk : k < 8 := by
      have := (List.getElem?_eq_some_iff.1 hv).1
      simpa [S8.cells] using this
    have key : ∀ i, i < 14 → ∀ k, k < 8 → (bsteps.flatMap S8.cells).toArray[0 + i * 8 + k]? = (bstep i).cells[k]? := by
      intro i hi k hk
      rcases (by omega : i = 0 ∨ i = 1 ∨ i = 2 ∨ i = 3 ∨ i = 4 ∨ i = 5 ∨ i = 6 ∨ i = 7 ∨ i = 8 ∨ i = 9 ∨ i = 10 ∨ i = 11 ∨ i = 12 ∨ i = 13) with rfl | rfl | rfl | rfl | rfl | rfl | rfl | rfl | rfl | rfl | rfl | rfl | rfl | rfl <;>
      (rcases (by omega : k = 0 ∨ k = 1 ∨ k = 2 ∨ k = 3 ∨ k = 4 ∨ k = 5 ∨ k = 6 ∨ k = 7) with rfl | rfl | rfl | rfl | rfl | rfl | rfl | rfl) <;> rfl
    rw [key i hi k hk]
    exact hv
  · rcases (by omega : i = 0 ∨ i = 1 ∨ i = 2 ∨ i = 3 ∨ i = 4 ∨ i = 5 ∨ i = 6 ∨ i = 7 ∨ i = 8 ∨ i = 9 ∨ i = 10 ∨ i = 11 ∨ i = 12 ∨ i = 13) with rfl | rfl | rfl | rfl | rfl | rfl | rfl | rfl | rfl | rfl | rfl | rfl | rfl | rfl <;> exact ⟨by decide, by decide, by decide, by decide⟩

set_option maxRecDepth 20000 in
set_option maxHeartbeats 2000000 in
theorem begun_any (last : Int) (hlast : 9 ≤ last ∧ last ≤ 14) (h : Inv own w p [] vL vP vK bk nt) (hnt : nt < 900000)
    (hK : ∀ w' own' ds' vL' vP' vK' bk', Kp (fun b => own b ≠ lab9) w w' → (∀ b, b < w.heap.size → own' b = own b) → Inv own' w' p ds' vL' vP' vK' bk' (nt + 14) → 0 < ds'.length → R (.returned (.bool true)) w') :
    Calls Tryz.prog 30 #[.pointer (some ⟨p, 0, none⟩), .int .i64 last] w R := by
  have H := hid_of h
  have HK := hid_of hK
  have HNT := hid_of hnt
  clear h hK hnt
  go_enter Tryz.func30, Tryz.ntmps30
  go_wp2
  go_loopw [6] (fun v6 wr => ∃ i : Nat, i ≤ 14 ∧ v6 = .int .i64 i ∧ Scr wr w.heap.size 0 14 bstep ∧ ∃ own' ds vL vP vK bk, Inv own' wr p ds vL vP vK bk (nt + i) ∧ (0 < i → 0 < ds.length) ∧ Kp (fun b => own b ≠ lab9) w wr ∧ (∀ b, b < w.heap.size → own' b = own b) ∧ own' w.heap.size = lab9) (fun v6 _ => 14 - (intOf v6).toNat)
  case atStart =>
    refine ⟨0, Nat.zero_le _, rfl, scr_begun w, base9 own w.heap.size, [], vL, vP, vK, bk, ?_, fun h => absurd h (by omega), Kp.alloc _ _ _, fun b hb => base9_old hb, base9_new (by omega)⟩
    exact H.out.same (Kp.alloc _ _ _) (fun b hb => base9_old hb)
  case round =>
    obtain ⟨i, hile, rfl, hscr, own', ds, vL, vP, vK, bk, hI, hds, hkp, hag, h9⟩ := hrel
    by_cases hin : i < 14
    · have hin' : (i : Int) < 14 := by omega
      obtain ⟨kind, e, a, b, s, t, vl, vm, hf, hok, q0, q1, q2, q3, q4, q5, q6, q7⟩ := hscr.at i hin
      simp only [Nat.zero_add] at q0 q1 q2 q3 q4 q5 q6 q7
      have HSC := hid_of hscr
      have HKP := hid_of hkp
      have HAG := hid_of hag
      have H9 := hid_of h9
      have HLT : Hid (w.heap.size < wr.heap.size) := hscr.lt
      have HI1 := hid_of hI
      have HOK := hid_of hok
      by_cases hk : kind ≤ last
      · have H0 : Hid (kind = 1 ∨ 0 < ds.length) := by
          by_cases hi0 : 0 < i
          · exact Or.inr (hds hi0)
          · have : i = 0 := by omega
            subst this
            left
            have := congrArg S8.kind hf
            exact this.symm
        clear hscr hI hds hkp hag h9 hin hile hok hf
        go_wp2_with (first
          | (go_at_call 31; refine step_any HI1.out ?_ kind e a b s t vl vm HOK.out (by omega) H0.out (fun w2 own2 ds2 vL2 vP2 vK2 bk2 k2 a2 I2 hd2 => ?_); (have := HNT.out; omega))
          | fail)
        go_roundw
        case rel =>
          refine ⟨i + 1, by omega, by go_num, HSC.out.kept k2 (fun h => h H9.out), own2, ds2, vL2, vP2, vK2, bk2, I2, fun _ => hd2, HKP.out.trans k2 (fun b hb e => by rw [HAG.out b hb] at e; exact e), fun b hb => (a2 b (Nat.lt_of_lt_of_le hb HKP.out.size)).trans (HAG.out b hb), (a2 _ HLT.out).trans H9.out⟩
        case measure => simp [intOf]; omega
      · have hk' : ¬ kind ≤ last := hk
        have HD : Hid (0 < ds.length) := by
          apply hds
          by_cases hi0 : 0 < i
          · exact hi0
          · have : i = 0 := by omega
            subst this
            have := congrArg S8.kind hf
            have h1 : kind = 1 := this.symm
            omega
        clear hscr hI hds hkp hag h9 hin hile hok hf
        go_wp2
        go_roundw
        case rel => exact ⟨i + 1, by omega, by go_num, HSC.out, own', ds, vL, vP, vK, bk, HI1.out.mono (by omega), fun _ => HD.out, HKP.out, HAG.out, H9.out⟩
        case measure => simp [intOf]; omega
    · have hie : i = 14 := by omega
      subst hie
      have HF := hid_of (HK.out wr own' ds vL vP vK bk hkp hag hI (hds (by omega)))
      clear hscr hI hds hkp hag h9 hin hile
      go_wp2
      exact HF.out

end

end Go.Proofs.YthbdpfccfcceiaaGreatDoor
