/-
  Vacuum, told of the store's plain state.
-/
import Derived.Test.YthbdpfccfcceiaaGreatDoorV4V5
import Derived.Test.YthbdpfccfcceiaaGreatDoorV6
import Derived.Test.YthbdpfccfcceiaaGreatDoorQ4Q5
namespace Go.Proofs.YthbdpfccfcceiaaGreatDoor
open Go.RowKit Go.Maps Go.Sort

/-- Key by key, so many as may go and are still wanted. -/
def vacGo (h most : Int) : List ByteArray → XS → Int → XS × Int
  | [], s, gone => (s, gone)
  | k :: r, s, gone => if min (spentX s k h : Int) (most - gone) < 1 then (s, gone) else vacGo h most r (dropX s k (min (spentX s k h : Int) (most - gone)).toNat) (gone + min (spentX s k h : Int) (most - gone))

section
variable {own own' : Nat → Lab} {c : Nat} {w w' : World} {p : Nat} {s : XS} {mo ph mv mm : Nat} {pt mw : Int → Nat} {sl : ByteArray → Value}
variable {R : Ending → World → Prop}

/-- What is asked of a store of which versions go. -/
structure VOk (s : XS) : Prop where
  mom : ∀ k, MomOk s k
  key : ∀ k, s.mom k ≠ [] → k.size ≤ 8
  nm : s.nm < 100000

theorem VOk.drop (h : VOk s) (k : ByteArray) (n : Nat) : VOk (dropX s k n) := by
  refine ⟨fun a => MomOk.drop h.mom a, fun a ha => ?_, ?_⟩
  · by_cases e : a = k
    · subst e
      refine h.key a (fun e => ha ?_)
      simp [dropX, updS, e]
    · refine h.key a (fun e' => ha ?_)
      simp [dropX, updS, e, e']
  · show (if n = (s.mom k).length then s.nm - 1 else s.nm) < 100000
    have := h.nm
    split <;> omega

set_option maxRecDepth 20000 in
set_option maxHeartbeats 1000000 in
theorem x_vacuum0 (h : XR own c w p s mo ph mv mm pt mw sl) (t most : Int) (hmost : -9223372036854775808 ≤ most ∧ most ≤ 9223372036854775807) (hv : VOk s)
    (hR : ∀ w' sl' (ks : List ByteArray), ks.Pairwise blt → (∀ k, k ∈ ks ↔ 0 < spentX s k t) → Kp (fun b => (own b).c = c) w w' → XR own c w' p (vacGo t most ks s 0).1 mo ph mv mm pt mw sl' → R (.returned (.int .i64 (vacGo t most ks s 0).2)) w') :
    Calls Tryz.prog 47 #[.pointer (some ⟨ph, 0, none⟩), .int .i64 t, .int .i64 most] w R := by
  have H := hid_of h
  have HR := hid_of hR
  have HV := hid_of hv
  have HMO := hid_of hmost
  clear h hR hv hmost
  go_enter Tryz.func47, Tryz.ntmps47
  go_wp2_with (first
    | (go_at_call 80; refine x_spentKeys H.out t HV.out.nm HV.out.mom HV.out.key (fun w1 v1 ks hk1 hrow hmem hlen hsort => ?_); obtain ⟨a1, cap1, rfl, hcell⟩ := row_cell hrow; have HC := hid_of hcell; have HSO := hid_of hsort; have HME := hid_of hmem; have HLE := hid_of hlen; have HK1 := hid_of hk1; clear hcell hrow hsort hmem hlen hk1)
    | go_in)
  go_loopw [7, 9, 10, 15] (fun v7 _ _ v15 wr => ∃ (i : Nat) (gone : Int) (s' : XS) (sl' : ByteArray → Value), i ≤ ks.length ∧ v15 = .int .i64 i ∧ v7 = .int .i64 gone ∧ 0 ≤ gone ∧ (gone = 0 ∨ gone ≤ most) ∧ gone ≤ 1000000 * i ∧ VOk s' ∧ Kp (fun b => (own b).c = c ∧ b < w.heap.size) w1 wr ∧
      XR own c wr p s' mo ph mv mm pt mw sl' ∧ (∀ k, s'.mom k ≠ [] → ∃ b, (sl' k).ownBlock = some b ∧ b < w.heap.size) ∧ vacGo t most (ks.drop i) s' gone = vacGo t most ks s 0)
    (fun _ _ _ v15 _ => ks.length - (intOf v15).toNat)
  case atStart =>
    refine ⟨0, 0, s, sl, Nat.zero_le _, rfl, rfl, Int.le_refl _, Or.inl rfl, by simp, HV.out, Kp.refl _ _, H.out.kept HK1.out, fun k hk => ?_, rfl⟩
    obtain ⟨g, cap, hv, _⟩ := ownsRow_cells (H.out.row k hk) hk
    exact ⟨g, by rw [hv]; rfl, ((H.out.row k hk).lt g (by rw [hv]; rfl)).2⟩
  case round =>
    obtain ⟨i, gone, s', sl', hile, rfl, rfl, hg0, hg1, hg2, hv', hkp, hx, hsb, heq⟩ := hrel
    have HX := hid_of hx
    have HV' := hid_of hv'
    have HKP := hid_of hkp
    have HSB := hid_of hsb
    have HEQ := hid_of heq
    have hib : (i : Int) < 200000 := by have := HLE.out; have := HV.out.nm; omega
    clear hx hv' hsb heq
    by_cases hlt : i < ks.length
    · obtain ⟨g, rfl, hg1', hg2', hcell⟩ := HC.out (fun h => by rw [h] at hlt; simp at hlt)
      have hck : wr.cell? ⟨g, i, none⟩ = some (.string ks[i]) := (hkp.cell (a := ⟨g, i, none⟩) hg2' (fun h => by have : g < w.heap.size := h.2; omega)).trans (hcell i hlt)
      have hdk : ks.drop i = ks[i] :: ks.drop (i + 1) := List.drop_eq_getElem_cons hlt
      have hki : ks[i] ∈ ks := List.getElem_mem _
      have hlt' : (i : Int) < ks.length := by omega
      have hspl := (HME.out ks[i]).1 hki
      have hk8 : ks[i].size ≤ 8 := HV.out.key _ (fun e => by rw [spentX_nil e] at hspl; omega)
      generalize hkeq : ks[i] = k at *
      have HDK := hid_of hdk
      have HK8 := hid_of hk8
      have hsm := spentX_le s' k t
      have hml := (HV'.out.mom k).len
      have hsb : (spentX s' k t : Int) < 1000000 := by omega
      have hwr : IntKind.i64.wrap (most - gone) = most - gone := by
        have := HMO.out
        refine IntWalk.i64_in _ ?_
        rcases hg1 with h | h <;> omega
      have hmb : most ≤ 9223372036854775807 := HMO.out.2
      have hml2 : -9223372036854775808 ≤ most - gone := by have := HMO.out; rcases hg1 with h | h <;> omega
      generalize hsp : spentX s' k t = sp at hsm hsb
      have HSP := hid_of hsp
      clear hdk hki hspl hk8 hcell hkp hml hsp
      by_cases hc : min (sp : Int) (most - gone) < 1
      · have d1 : decide (min (sp : Int) (most - gone) < 1) = true := by simpa using hc
        have hfin : vacGo t most ks s 0 = (s', gone) := by rw [← HEQ.out, HDK.out, vacGo, HSP.out, if_pos hc]
        have HF := hid_of (fun w2 (k2 : Kp (fun _ => False) wr w2) => (by rw [hfin]; exact fun h => h : _ → R (.returned (.int .i64 gone)) w2) (HR.out w2 sl' ks HSO.out HME.out (((HK1.out.mono (fun _ _ h => h.elim)).trans HKP.out (fun b hb h => h.1)).trans k2 (fun _ _ h => h.elim)) (by rw [hfin]; exact HX.out.kept k2)))
        clear hfin
        go_wp2_with (first
          | (go_at_call 81; refine x_spent HX.out k t HK8.out (HV'.out.mom k) (fun w2 hk2 => ?_); rw [HSP.out]; have HK2 := hid_of hk2; clear hk2)
          | go_in)
        exact HF.out w2 HK2.out
      · obtain ⟨n, hn⟩ : ∃ n : Nat, min (sp : Int) (most - gone) = n := ⟨(min (sp : Int) (most - gone)).toNat, by omega⟩
        have d1 : decide ((n : Int) < 1) = false := by simp; omega
        have hn1 : 1 ≤ n := by omega
        have hn2 : n ≤ (s'.mom k).length := by omega
        have hn3 : gone + n ≤ most := by omega
        have hn4 : gone + (n : Int) ≤ 1000000 * ((i : Int) + 1) := by omega
        have hwr2 : IntKind.i64.wrap (gone + (n : Int)) = gone + n := IntWalk.i64_in _ (by omega)
        have hnext : vacGo t most (ks.drop (i + 1)) (dropX s' k n) (gone + n) = vacGo t most ks s 0 := by
          rw [← HEQ.out, HDK.out, vacGo, HSP.out, if_neg hc, hn, Int.toNat_natCast]
        have HNX := hid_of hnext
        have HNN := hid_of (And.intro hn1 (And.intro hn2 (And.intro hn3 hn4)))
        clear hc hnext hn1 hn2 hn3 hn4
        go_wp2_with (first
          | (go_at_call 81; refine x_spent HX.out k t HK8.out (HV'.out.mom k) (fun w2 hk2 => ?_); rw [HSP.out]; have HK2 := hid_of hk2; clear hk2)
          | (go_at_call 82; refine x_drop (HX.out.kept HK2.out) k n HNN.out.1 HNN.out.2.1 HK8.out (HV'.out.mom k) (by have := HV'.out.nm; omega) (fun w3 sl3 hk3 hx3 hsb3 => ?_); have HK3 := hid_of hk3; have HX3 := hid_of hx3; have HS3 := hid_of hsb3; clear hk3 hx3 hsb3)
          | go_in)
        go_roundw
        case rel =>
          have hb := HNN.out
          have hsub : ∀ a, (dropX s' k n).mom a ≠ [] → s'.mom a ≠ [] := fun a ha e => ha (by
            by_cases ea : a = k
            · subst ea; simp [dropX, updS, e]
            · simp [dropX, updS, ea, e])
          refine ⟨i + 1, gone + n, dropX s' k n, sl3, by omega, by go_num, rfl, by omega, Or.inr hb.2.2.1, by have := hb.2.2.2; omega, HV'.out.drop k n, ?_, HX3.out, fun a ha => ?_, HNX.out⟩
          · refine (HKP.out.trans HK2.out (fun _ _ h => h.elim)).trans HK3.out (fun b hb' h' => ?_)
            have e0 := HX.out
            rcases h' with e | e | e
            · exact ⟨by rw [e, e0.ownV], by rw [e]; exact H.out.vers.lt⟩
            · exact ⟨by rw [e, e0.ownM], by rw [e]; exact H.out.moms.lt⟩
            · have hm' : s'.mom k ≠ [] := fun e' => by have := hb.2.1; rw [e'] at this; simp at this; omega
              obtain ⟨b', hb1, hb2⟩ := HSB.out k hm'
              rw [hb1] at e
              cases e
              exact ⟨by rw [e0.ownR k hm' b hb1], hb2⟩
          · obtain ⟨b', hb1, hb2⟩ := HSB.out a (hsub a ha)
            exact ⟨b', by rw [HS3.out a ha]; exact hb1, hb2⟩
        case measure => simp [intOf]; omega
    · have hie : i = ks.length := by omega
      subst hie
      have hfin : vacGo t most ks s 0 = (s', gone) := by rw [← HEQ.out, List.drop_length]; rfl
      have hF := HR.out wr sl' ks HSO.out HME.out ((HK1.out.mono (fun _ _ h => h.elim)).trans HKP.out (fun b hb h => h.1)) (by rw [hfin]; exact HX.out)
      rw [hfin] at hF
      have HF := hid_of hF
      clear hF hfin hkp
      go_wp2
      exact HF.out

set_option maxRecDepth 20000 in
set_option maxHeartbeats 400000 in
theorem x_vacuum (h : XR own c w p s mo ph mv mm pt mw sl) (most : Int) (hmost : -9223372036854775808 ≤ most ∧ most ≤ 9223372036854775807) (hv : VOk s)
    (hR : ∀ w' sl' (ks : List ByteArray), ks.Pairwise blt → (∀ k, k ∈ ks ↔ 0 < spentX s k s.hor) → Kp (fun b => (own b).c = c) w w' → XR own c w' p (vacGo s.hor most ks s 0).1 mo ph mv mm pt mw sl' → R (.returned (.int .i64 (vacGo s.hor most ks s 0).2)) w') :
    Calls Tryz.prog 22 #[.pointer (some ⟨p, 0, none⟩), .int .i64 most] w R := by
  have c1 : w.cell? ⟨p, 1, none⟩ = some (.int .i64 s.hor) := cell_of h.store 1
  have c3 : w.cell? ⟨p, 0, none⟩ = some (.pointer (some ⟨ph, 0, none⟩)) := cell_of h.store 0
  have H := hid_of h
  have HR := hid_of hR
  have HV := hid_of hv
  have HMO := hid_of hmost
  have Hgo := hid_of (fun (w1 : World) (k1 : Kp (fun _ => False) w w1) => x_vacuum0 (R := fun e w' => ∃ n : Int, e = .returned (.int .i64 n) ∧ R (.returned (.int .i64 n)) w') (H.out.kept k1) s.hor most HMO.out HV.out (fun w' sl' ks hs hm hk hx => ⟨_, rfl, HR.out w' sl' ks hs hm ((k1.mono (fun _ _ h => h.elim)).trans hk (fun _ _ h => h)) hx⟩))
  clear h hR hv hmost
  go_enter Tryz.func22, Tryz.ntmps22
  go_wp2
  go_region_with (go_at_call 47; refine Calls.mono (Hgo.out _ (kp_dr (by simp))) ?_; rintro e w1 ⟨n, rfl, hn⟩; have HN := hid_of hn; clear hn)
  all_goals
    go_wp2_with fail
    go_ret
    exact HN.out

end

end Go.Proofs.YthbdpfccfcceiaaGreatDoor
