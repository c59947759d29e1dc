/-
  The keys that may be there for a transaction: (*Store).candidates.
-/
import Derived.Test.YthbdpfccfcceiaaDoorQ3
namespace Go.Proofs.YthbdpfccfcceiaaDoor
open Go.RowKit Go.Maps Go.Sort

section
variable {own own' : Nat → Lab} {c : Nat} {w w' : World} {p : Nat} {s : XS} {mo ph mv mm : Nat} {pt mw : Int → Nat} {sl : ByteArray → Value}
variable {R : Ending → World → Prop}

set_option maxRecDepth 20000 in
set_option maxHeartbeats 1000000 in
theorem x_candidates (h : XR own c w p s mo ph mv mm pt mw sl) (tx : Int) (x : XT) (e : s.txs tx = some x) (f t : ByteArray) (hnm : s.nm < 100000) (hnw : x.nw ≤ 10)
    (hR : ∀ w' v (ks : List ByteArray), Kp (fun _ => False) w w' → w'.ownsRow (w.heap.size + 1) 9 1 v ks.length (ks.map Value.string) → ks.Pairwise blt → (∀ k, k ∈ ks ↔ (s.mom k ≠ [] ∨ (x.wr k).isSome = true) ∧ inR f t k = true) → ks.length ≤ s.nm + 10 → R (.returned v) w') :
    Calls Tryd.prog 29 #[.pointer (some ⟨p, 0, none⟩), .pointer (some ⟨pt tx, 0, none⟩), .string f, .string t] w R := by
  have d3 : w.cell? ⟨p, 0, none⟩ = some (.pointer (some ⟨ph, 0, none⟩)) := cell_of h.store 0
  have H : Hid (XR own c w p s mo ph mv mm pt mw sl) := h
  have HR : Hid _ := hR
  have HN : Hid (s.nm < 100000 ∧ x.nw ≤ 10) := ⟨hnm, hnw⟩
  have hmwlt := (h.wr tx x e).lt
  clear hR h hnm hnw
  obtain ⟨i0, hi, hz0, hz1, hz2⟩ := info_parts infoStr
  go_enter Tryd.func29, Tryd.ntmps29
  go_wp2_with (first
    | (go_at_call 44; refine x_keys H.out f t HN.out.1 (fun w1 v1 ks1 hk1 hrow0 hmem0 hlen0 _ => ?_); have H1 : Hid (XR own c w1 p s mo ph mv mm pt mw sl) := H.out.kept hk1; have d1 : w1.cell? ⟨pt tx, 1, none⟩ = some (.map (some (mw tx))) := cell_of (H1.out.tx tx x e) 1; have hw := H1.out.wr tx x e)
    | (at_range; refine wpL_range _ rfl _ 66 rfl 9 88 kStr Tryd.underlying66 (mw tx) x.nw _ rfl hw ?_; intro w2 hrg0 hg0 hs0)
    | go_in)
  go_frame
  have HM0 : Hid _ := hmem0
  have HL0 : Hid _ := hlen0
  have hsz1 := hk1.size
  clear hmem0 hlen0
  go_loopw [9, 10] (fun v9 _ wr => ∃ (left : Value → Bool) (cnt : Nat) (ks : List ByteArray), frng wr Tryd.prog 9 (mw tx) w1.heap.size x.nw (encS fun k => (x.wr k).map encVer) left cnt ∧ Kp (fun _ => False) w wr ∧ wr.ownsRow (w.heap.size + 1) 9 1 v9 ks.length (ks.map Value.string) ∧ Value.ownBlock v9 ≠ some w1.heap.size ∧
      (∀ k, k ∈ ks ↔ (s.mom k ≠ [] ∨ ((x.wr k).isSome = true ∧ left (.string k) = false)) ∧ inR f t k = true) ∧ ks.length + cnt ≤ s.nm + x.nw ∧ w1.heap.size + 1 ≤ wr.heap.size)
    (fun _ _ wr => wr.rangeLeft (mw tx) w1.heap.size)
  case atStart =>
    refine ⟨_, _, ks1, hrg0, hk1.trans (Kp.of_grown (S := fun _ => False) hg0 (fun _ h => by cases h)) (fun _ _ h => h), hrow0.kept hg0 (by cases hv : v1.ownBlock <;> simp), fun hb => ?_, fun k => ?_, by have := HL0.out; omega, by omega⟩
    · have := (hrow0.lt _ hb).2; omega
    · rw [HM0.out k, encS_at, Option.isSome_map]
      constructor
      · rintro ⟨h1, h2⟩; exact ⟨Or.inl h1, h2⟩
      · rintro ⟨h1 | ⟨h1, h3⟩, h2⟩
        · exact ⟨h1, h2⟩
        · rw [h1] at h3; cases h3
  case round =>
    obtain ⟨left, cnt, ks, hrg, hkp, hrow, hnr, hmem, hcnt, hsz⟩ := hrel
    have HM : Hid _ := hmem
    have HC : Hid _ := hcnt
    have HZ : Hid _ := hsz
    have HNR : Hid _ := hnr
    clear hmem hcnt hsz hnr
    go_wp2_with (first
      | (at_next; refine wpL_next _ rfl _ rfl 9 kStr Value.string (fun v : Value => v) (mw tx) w1.heap.size x.nw _ left cnt (fun key v hv => ?inv) rfl hrg ?_ ?_)
      | go_in)
    case inv => exact encS_inv hv
    · intro _ hl0
      go_wp2_with (first
        | (go_at_call 46; refine (sort_row hrow (by have := HC.out; have := HN.out; omega)).mono ?_; rintro e w4 ⟨rfl, ks', hperm, hsort, hrow', hk4⟩)
        | (go_at_call 47; refine (compact_row hrow' (by rw [hperm.length_eq]; have := HC.out; have := HN.out; omega) hsort).mono ?_; rintro e w5 ⟨v5, rfl, ks5, hm5, hs5, hl5, hrow5, hb5, hk5⟩)
        | go_in)
      refine HR.out w5 v5 ks5 ((hkp.trans hk4 (fun b hb hb' => absurd ((hrow.lt b hb').1) (by omega))).trans hk5 (fun b hb hb' => absurd ((hrow.lt b hb').1) (by omega))) hrow5 hs5 (fun k => ?_) (by rw [hperm.length_eq] at hl5; have := HC.out; have := HN.out; omega)
      rw [hm5, hperm.mem_iff, HM.out k]
      constructor
      · rintro ⟨h1 | ⟨h1, _⟩, h2⟩
        · exact ⟨Or.inl h1, h2⟩
        · exact ⟨Or.inr h1, h2⟩
      · rintro ⟨h1 | h1, h2⟩
        · exact ⟨Or.inl h1, h2⟩
        · exact ⟨Or.inr ⟨h1, hl0 _⟩, h2⟩
    · intro k v w3 cnt1 hlk hfk left' hrg1 hl1 hl2 hlt hg1 hs1 hen
      have hmk : (x.wr k).isSome = true := by
        obtain ⟨a, b, hab, _⟩ := encS_inv2 hfk
        rw [hab]; rfl
      clear hfk
      have hkp1 : Kp (fun _ => False) w w3 := hkp.trans (Kp.of_grown (S := fun b => b = w1.heap.size) hg1 (fun b hb => by cases hb; rfl)) (fun b hb e => by omega)
      have hrow1 := ownsRow_kp hrow (Kp.of_grown (S := fun b => b = w1.heap.size) hg1 (fun b hb => by cases hb; rfl)) (fun b hb e => HNR.out (by rw [hb, e]))
      have HX : Hid (∀ k', left' (.string k') = false ↔ (k' = k ∨ left (.string k') = false)) := fun k' => by
        by_cases e : k' = k
        · subst e; simp [hl1]
        · rw [hl2 _ (fun h => e (by injection h))]; simp [e]
      have hs1' : w1.heap.size + 1 ≤ w3.heap.size := by rw [hs1]; exact HZ.out
      have HZ1 : Hid _ := hs1'
      have HMK : Hid _ := hmk
      clear hlk hl1 hl2 hmk hs1' hg1 hs1
      go_wp2_with (first
        | (at_builtin; refine wpList_append_own_at _ rfl _ _ 70 rfl (w.heap.size + 1) 9 i0 (.string ⟨#[]⟩) 1 16 Tryd.underlying70 hi hz0 hz1 hz2 rfl (by decide) _ _ _ rfl (hrow1.alloc _) ⟨w3.heap.size, 0, none⟩ 1 1 [.string k] rfl rfl (cell_one_new _ _ _) (by simp [Value.oneCell']) (by have := HC.out; have := HN.out; unfold maxLen; omega) (by have := HC.out; have := HN.out; omega) (by have := HZ1.out; simp; omega) ?_; intro v' w4 hown' hgrow hnil hloc)
        | go_in)
      · have hin : inR f t k = true := by
          rename_i q1 q2
          simp [inR, leB, ltB]; simp at q2; exact q2
        have hlt1 : ∀ b, Value.ownBlock u9 = some b → w.heap.size + 1 ≤ b := fun b hb => (hrow1.lt b hb).1
        have K12 : Kp (fun b => Value.ownBlock u9 = some b) w3 w4 := (Kp.alloc (fun b => Value.ownBlock u9 = some b) w3 _).trans (Kp.of_grown (S := fun b => Value.ownBlock u9 = some b) hgrow (fun _ h => h)) (fun _ _ h => h)
        have hr1 := HZ1.out
        have hrg2 : frng w4 Tryd.prog 9 (mw tx) w1.heap.size x.nw (encS fun k => (x.wr k).map encVer) left' cnt1 := hrg1.of_block (K12.block _ hrg1.toMap.lt (fun e => by have := hlt1 _ e; omega)) (K12.block _ (by omega) HNR.out)
        go_roundw
        case rel =>
          refine ⟨left', cnt1, ks ++ [k], hrg2, hkp1.trans K12 (fun b hb e => by have := hlt1 _ e; omega), by simpa using hown', fun hb => ?_, fun k' => ?_, by have := HC.out; simp; omega, Nat.le_trans HZ1.out K12.size⟩
          · rcases hloc with hl | hl
            · exact HNR.out (hl ▸ hb)
            · rw [hb] at hl; simp at hl; omega
          · rw [List.mem_append, List.mem_singleton, HM.out k', HX.out k']
            constructor
            · rintro (⟨h1 | ⟨h1, h2⟩, h3⟩ | rfl)
              · exact ⟨Or.inl h1, h3⟩
              · exact ⟨Or.inr ⟨h1, Or.inr h2⟩, h3⟩
              · exact ⟨Or.inr ⟨HMK.out, Or.inl rfl⟩, hin⟩
            · rintro ⟨h1 | ⟨h1, h2 | h2⟩, h3⟩
              · exact Or.inl ⟨Or.inl h1, h3⟩
              · exact Or.inr h2
              · exact Or.inl ⟨Or.inr ⟨h1, h2⟩, h3⟩
        case measure => rw [hrg2.left_eq, hrg.left_eq]; exact hlt
      · have hin : inR f t k = false := by
          rename_i q1 q2
          simp only [inR, leB, ltB, Bool.and_eq_false_iff, Bool.or_eq_false_iff]; exact q2
        go_roundw
        case rel =>
          refine ⟨left', cnt1, ks, hrg1, hkp1, hrow1, HNR.out, fun k' => ?_, by have := HC.out; omega, HZ1.out⟩
          rw [HM.out k', HX.out k']
          constructor
          · rintro ⟨h1 | ⟨h1, h2⟩, h3⟩
            · exact ⟨Or.inl h1, h3⟩
            · exact ⟨Or.inr ⟨h1, Or.inr h2⟩, h3⟩
          · rintro ⟨h1 | ⟨h1, h2 | h2⟩, h3⟩
            · exact ⟨Or.inl h1, h3⟩
            · subst h2; rw [hin] at h3; cases h3
            · exact ⟨Or.inr ⟨h1, h2⟩, h3⟩
        case measure => rw [hrg1.left_eq, hrg.left_eq]; exact hlt
      · have hin : inR f t k = false := by
          rename_i q1
          have : leB f k = false := by simp only [leB, Bool.or_eq_false_iff]; simpa [not_or] using q1
          simp [inR, this]
        go_roundw
        case rel =>
          refine ⟨left', cnt1, ks, hrg1, hkp1, hrow1, HNR.out, fun k' => ?_, by have := HC.out; omega, HZ1.out⟩
          rw [HM.out k', HX.out k']
          constructor
          · rintro ⟨h1 | ⟨h1, h2⟩, h3⟩
            · exact ⟨Or.inl h1, h3⟩
            · exact ⟨Or.inr ⟨h1, Or.inr h2⟩, h3⟩
          · rintro ⟨h1 | ⟨h1, h2 | h2⟩, h3⟩
            · exact ⟨Or.inl h1, h3⟩
            · subst h2; rw [hin] at h3; cases h3
            · exact ⟨Or.inr ⟨h1, h2⟩, h3⟩
        case measure => rw [hrg1.left_eq, hrg.left_eq]; exact hlt

end

end Go.Proofs.YthbdpfccfcceiaaDoor
