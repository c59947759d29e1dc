/-
  A step on a pair of stores, of every kind of stage 1.
-/
import Derived.Test.YtcingdaijfaeeaaGreatT4
namespace Go.Proofs.YtcingdaijfaeeaaGreat
open Go.RowKit

section
variable {own : Nat → Lab} {i : Nat} {w : World} {p nt : Nat} {ds : List (Nat × Nat)} {vL vP vK : Value} {bk : List (Value × Nat × Int)}
variable {R : Ending → World → Prop}

theorem i_scan (h : Inv own w p ds vL vP vK bk nt) (hi : i < ds.length) (hnt : nt < 1000000) (e a b : Int) (ha : -9223372036854775808 ≤ a ∧ a ≤ 9223372036854775807) (st tt : ByteArray) (vl vm : Value)
    (hK : ∀ w' own' vP' vK' bk', Kp (fun b => own b ≠ lab9) w w' → (∀ b, b < w.heap.size → own' b = own b) → Inv own' w' p ds vL vP' vK' bk' (nt + 1) → R (.returned (.bool true)) w') :
    Calls Tryz.prog 13 #[.pointer (some ⟨p, 0, none⟩), pairV (ds[i]).1 (ds[i]).2, stepV 4 e a b st tt vl vm] w R := by
  obtain ⟨s, y, hx, hy, ht, hI, hn⟩ := h.duos i hi
  refine txs_scan w p _ _ e a b st tt vl vm ?_
  have hw := boxW_kp w (ds[i]).1 (ds[i]).2 4 e a b st tt vl vm
  generalize boxW w (ds[i]).1 (ds[i]).2 4 e a b st tt vl vm = w1 at hw ⊢
  have HB := hI.yb (by omega)
  obtain ⟨mo, ph, mv, mm, pt, mw, sl, X⟩ := hx.box hw
  obtain ⟨vL', vT, vG, sv, lg, Y, hl⟩ := hy.box hw
  have hnm := ht.nm
  have hnow := hI.now
  refine x_scan X a (wf_i64 ha) st tt (by omega) (ht.nw hI) (ht.momOk hI) (ht.keysM hI) (ht.keysW hI) (fun e0 => ⟨_, _, rfl, Kp.refl _ _, ?_⟩) (fun x e1 w2 v ks k2 hsort hmem hlen hrow => ⟨_, _, rfl, kpF k2, ?_⟩)
  · have th := ht.none_iff.1 e0
    refine y_scan_none Y HB a st tt th ⟨_, rfl, ?_⟩
    exact i_pairs h hnt hw (.slice none 0 0) (.slice none 0 0) 0 [] 2 (by omega) (World.ownsRow_nil _ _ _ _) (World.ownsRow_nil _ _ _ _) hK
  · obtain ⟨th, j, rfl, hj, ho, rfl⟩ := ht.some_at e1
    refine y_scan (Y.kept k2) HB j hj th st tt (seesX s (xtOf y.txs[j])) (ht.seen hI _) (fun w3 v' ks' k3 hsort' hmem' hlen' hrow' => ⟨v', rfl, ?_⟩)
    have hks : ks' = ks := sorted_ext hsort' hsort (fun k => by
      rw [hmem, hmem', ht.mom, moms_ne]
      show _ ↔ (_ ∨ (wrOf (y.txs[j]).l k).isSome = true) ∧ _
      rw [wrOf_mem]
      constructor
      · rintro ⟨⟨v, hv, e⟩, hr⟩
        rcases List.mem_append.1 hv with h1 | h1
        · exact ⟨Or.inl ⟨v, h1, e⟩, hr⟩
        · exact ⟨Or.inr ⟨v, h1, e⟩, hr⟩
      · rintro ⟨⟨v, hv, e⟩ | ⟨v, hv, e⟩, hr⟩
        · exact ⟨⟨v, List.mem_append.2 (Or.inl hv), e⟩, hr⟩
        · exact ⟨⟨v, List.mem_append.2 (Or.inr hv), e⟩, hr⟩)
    subst hks
    have hlf := List.length_filterMap_le (pairOf (seesX s (xtOf y.txs[j]))) ks'
    have hrow3 := ownsRow_kp hrow k3 (fun _ _ h => h)
    refine i_pairs h hnt ((hw.trans k2 (fun _ _ h => h)).trans k3 (fun _ _ h => h)) v v' _ _ 0 (by omega) ⟨hrow3.1, hrow3.2.imp id (fun ⟨g, cap, cur, e1, e2, e3⟩ => ⟨g, cap, cur, e1, Nat.le_trans hw.size e2, e3⟩)⟩ ⟨hrow'.1, hrow'.2.imp id (fun ⟨g, cap, cur, e1, _, e3⟩ => ⟨g, cap, cur, e1, Nat.zero_le _, e3⟩)⟩ hK

theorem i_txs (h : Inv own w p ds vL vP vK bk nt) (hi : i < ds.length) (hnt : nt < 1000000) (kind e a b : Int) (hk : 2 ≤ kind ∧ kind ≤ 9) (ha : -9223372036854775808 ≤ a ∧ a ≤ 9223372036854775807) (st tt : ByteArray) (hst : st.size ≤ maxLen) (htt : tt.size ≤ maxLen) (vl vm : Value)
    (hK : ∀ w' own' vP' vK' bk', Kp (fun b => own b ≠ lab9) w w' → (∀ b, b < w.heap.size → own' b = own b) → Inv own' w' p ds vL vP' vK' bk' (nt + 1) → R (.returned (.bool true)) w') :
    Calls Tryz.prog 13 #[.pointer (some ⟨p, 0, none⟩), pairV (ds[i]).1 (ds[i]).2, stepV kind e a b st tt vl vm] w R := by
  have hD := h.duos i hi
  have hn' : nt < 100000000 := by omega
  have K : ∀ w3 own3, Kp (Cap own i) w w3 → (∀ b, b < w.heap.size → own3 b = own b) → Duo own3 i w3 (ds[i]).1 (ds[i]).2 (nt + 1) → R (.returned (.bool true)) w3 := fun w3 own3 k a d => hK w3 own3 vP vK bk (k.mono (fun _ _ h => cap_not9 h)) a (h.touch hi k a d)
  rcases (by omega : kind = 2 ∨ kind = 3 ∨ kind = 4 ∨ kind = 5 ∨ kind = 6 ∨ kind = 7 ∨ kind = 8 ∨ kind = 9) with rfl | rfl | rfl | rfl | rfl | rfl | rfl | rfl
  · exact d_begin hD hn' e a b st tt vl vm K
  · exact d_get hD hn' e a b ha st tt hst htt vl vm K
  · exact i_scan h hi hnt e a b ha st tt vl vm hK
  · exact d_put hD hn' e a b ha st tt hst htt vl vm K
  · exact d_delete hD hn' e a b ha st tt hst htt vl vm K
  · exact d_commit hD hn' e a b ha st tt hst htt vl vm K
  · exact d_abort hD hn' e a b ha st tt hst htt vl vm K
  · exact d_now hD hn' e a b ha st tt hst htt vl vm K

end

end Go.Proofs.YtcingdaijfaeeaaGreat
