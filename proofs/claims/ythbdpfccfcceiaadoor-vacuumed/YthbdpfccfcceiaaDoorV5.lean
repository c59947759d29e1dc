/-
  The keys of which a version may go: (*History).spentKeys, told of the store's plain state.
-/
import Derived.Test.YthbdpfccfcceiaaDoorV4
import Derived.Test.YthbdpfccfcceiaaDoorQ3
namespace Go.Proofs.YthbdpfccfcceiaaDoor
open Go.RowKit Go.Maps Go.Sort

section
variable {own own' : Nat → Lab} {c : Nat} {w w' : World} {p : Nat} {s : XS} {mo ph mv mm : Nat} {pt mw : Int → Nat} {sl : ByteArray → Value}
variable {R : Ending → World → Prop}

theorem spentX_nil {s : XS} {k : ByteArray} {t : Int} (h : s.mom k = []) : spentX s k t = 0 := by simp [spentX, h]

set_option maxRecDepth 20000 in
set_option maxHeartbeats 1000000 in
theorem x_spentKeys (h : XR own c w p s mo ph mv mm pt mw sl) (t : Int) (hnm : s.nm < 100000) (hm : ∀ k, MomOk s k) (hkey : ∀ k, s.mom k ≠ [] → k.size ≤ 8)
    (hR : ∀ w' v (ks : List ByteArray), Kp (fun _ => False) w w' → w'.ownsRow (w.heap.size + 1) 9 1 v ks.length (ks.map Value.string) → (∀ k, k ∈ ks ↔ 0 < spentX s k t) → ks.length ≤ s.nm → ks.Pairwise blt → R (.returned v) w') :
    Calls Tryd.prog 54 #[.pointer (some ⟨ph, 0, none⟩), .int .i64 t] w R := by
  have c1 : w.cell? ⟨ph, 1, none⟩ = some (.map (some mm)) := cell_of h.hist 1
  have hmoms := h.moms
  have H := hid_of h
  have HR := hid_of hR
  have HN := hid_of hnm
  have HMO := hid_of hm
  have HW := hid_of hkey
  clear hR h hnm hm hkey
  obtain ⟨i0, hi, hz0, hz1, hz2⟩ := info_parts infoStr
  go_enter Tryd.func54, Tryd.ntmps54
  go_wp2_with (first
    | (at_range; refine wpL_range _ rfl _ 109 rfl 9 46 kStr Tryd.underlying109 mm s.nm _ rfl hmoms ?_; intro w0 hrg0 hg0 hs0)
    | go_in)
  go_frame
  go_loopw [5, 6] (fun v7 _ wr => ∃ (left : Value → Bool) (cnt : Nat) (ks : List ByteArray), frng wr Tryd.prog 9 mm w.heap.size s.nm (encS fun k => if s.mom k = [] then none else some (sl k)) left cnt ∧ Kp (fun _ => False) w wr ∧ wr.ownsRow (w.heap.size + 1) 9 1 v7 ks.length (ks.map Value.string) ∧
      (∀ k, k ∈ ks ↔ s.mom k ≠ [] ∧ left (.string k) = false ∧ 0 < spentX s k t) ∧ ks.length + cnt ≤ s.nm ∧ w.heap.size + 1 ≤ wr.heap.size ∧ ks.Nodup)
    (fun _ _ wr => wr.rangeLeft mm w.heap.size)
  case atStart =>
    refine ⟨_, _, [], hrg0, Kp.of_grown hg0 (fun _ h => by cases h), World.ownsRow_nil _ _ _ _, fun k => ?_, by simp, by omega, List.nodup_nil⟩
    constructor
    · intro h; cases h
    · rintro ⟨h1, h2, _⟩
      rw [encS_at, if_neg h1] at h2; cases h2
  case round =>
    obtain ⟨left, cnt, ks, hrg, hkp, hrow, hmem, hcnt, hsz, hnd⟩ := hrel
    have HM := hid_of hmem
    have HC := hid_of hcnt
    have HZ := hid_of hsz
    have HND := hid_of hnd
    clear hmem hcnt hsz hnd
    go_wp2_with (first
      | (at_next; refine wpL_next _ rfl _ rfl 9 kStr Value.string (fun v : Value => v) mm w.heap.size s.nm _ left cnt (fun key v hv => ?inv) rfl hrg ?_ ?_)
      | go_in)
    case inv => exact encM_inv hv
    · intro _ hl0
      go_wp2_with (first
        | (go_at_call 46; refine (sort_row hrow (by have := HC.out; have := HN.out; omega)).mono ?_; rintro e w4 ⟨rfl, ks', hperm, hso, hrow', hk4⟩)
        | go_in)
      refine HR.out w4 _ ks' (hkp.trans hk4 (fun b hb hb' => absurd ((hrow.lt b hb').1) (by omega))) hrow' (fun k => ?_) (by rw [hperm.length_eq]; have := HC.out; omega) (sorted_strict hso (hperm.nodup_iff.2 HND.out))
      rw [hperm.mem_iff, HM.out k]
      exact ⟨fun ⟨_, _, h3⟩ => h3, fun h3 => ⟨fun e => by rw [spentX_nil e] at h3; omega, hl0 _, h3⟩⟩
    · intro k v w1 cnt1 hlk hfk left' hrg1 hl1 hl2 hlt hg1 hs1 hen
      have hmk : s.mom k ≠ [] := fun e => by rw [encS_at, if_pos e] at hfk; cases hfk
      clear hfk
      have hkp1 : Kp (fun _ => False) w w1 := hkp.trans (Kp.of_grown (S := fun b => b = w.heap.size) hg1 (fun b hb => by cases hb; rfl)) (fun b hb e => by omega)
      have hrow1 := ownsRow_kp hrow (Kp.of_grown (S := fun b => b = w.heap.size) hg1 (fun b hb => by cases hb; rfl)) (fun b hb e => by have := (hrow.lt b hb).1; omega)
      have HX : Hid (∀ k', left' (.string k') = false ↔ (k' = k ∨ left (.string k') = false)) := fun k' => by
        by_cases e : k' = k
        · subst e; simp [hl1]
        · rw [hl2 _ (fun h => e (by injection h))]; simp [e]
      have HLK : Hid (left (.string k) = true) := hlk
      have hs1' : w.heap.size + 1 ≤ w1.heap.size := by rw [hs1]; exact HZ.out
      have HZ1 := hid_of hs1'
      have HMK := hid_of hmk
      have H1 := hid_of (H.out.kept hkp1)
      have HK8 := hid_of (HW.out k hmk)
      clear hlk hl1 hl2 hmk hs1' hg1 hs1
      have hmm := hmoms.lt
      by_cases hsp : 0 < spentX s k t
      · have d0 : decide ((0 : Int) < (spentX s k t : Int)) = true := by simpa using hsp
        have HSP := hid_of hsp
        clear hsp
        go_wp2_with (first
          | (go_at_call 55; refine x_spent H1.out k t HK8.out (HMO.out k) (fun w2 hk2 => ?_); have hrow2 := ownsRow_kp hrow1 hk2 (fun _ _ h => h); have HK2 := hid_of hk2; clear hk2)
          | (at_builtin; refine wpList_append_own_at _ rfl _ _ 70 rfl (w.heap.size + 1) 9 i0 (.string ⟨#[]⟩) 1 16 Tryd.underlying70 hi hz0 hz1 hz2 rfl (by decide) _ _ _ rfl (hrow2.alloc _) ⟨w2.heap.size, 0, none⟩ 1 1 [.string k] rfl rfl (cell_one_new _ _ _) (by simp [Value.oneCell']) (by have := HC.out; have := HN.out; unfold maxLen; omega) (by have := HC.out; have := HN.out; omega) (by have := HZ1.out; have := HK2.out.size; simp; omega) ?_; intro v' w3 hown' hgrow hnil hloc)
          | go_in)
        have hlt1 : ∀ b, Value.ownBlock u5 = some b → w.heap.size + 1 ≤ b := fun b hb => (hrow1.lt b hb).1
        have K13 : Kp (fun b => Value.ownBlock u5 = some b) w1 w3 := (HK2.out.mono (fun _ _ h => h.elim)).trans ((Kp.alloc (fun b => Value.ownBlock u5 = some b) w2 _).trans (Kp.of_grown (S := fun b => Value.ownBlock u5 = some b) hgrow (fun _ h => h)) (fun _ _ h => h)) (fun _ _ h => h)
        have hr1 := HZ1.out
        have hrg2 : frng w3 Tryd.prog 9 mm w.heap.size s.nm (encS fun k => if s.mom k = [] then none else some (sl k)) left' cnt1 := hrg1.of_block (K13.block mm hrg1.toMap.lt (fun e => by have := hlt1 _ e; omega)) (K13.block _ (by omega) (fun e => by have := hlt1 _ e; omega))
        go_roundw
        case rel =>
          refine ⟨left', cnt1, ks ++ [k], hrg2, hkp1.trans K13 (fun b hb e => by have := hlt1 _ e; omega), by simpa using hown', fun k' => ?_, by have := HC.out; simp; omega, Nat.le_trans HZ1.out K13.size, List.nodup_append.2 ⟨HND.out, by simp, fun a ha b hb => by simp at hb; subst hb; intro e; subst e; have := ((HM.out a).1 ha).2.1; rw [HLK.out] at this; cases this⟩⟩
          rw [List.mem_append, List.mem_singleton, HM.out k', HX.out k']
          constructor
          · rintro (⟨h1, h2, h3⟩ | rfl)
            · exact ⟨h1, Or.inr h2, h3⟩
            · exact ⟨HMK.out, Or.inl rfl, HSP.out⟩
          · rintro ⟨h1, h2 | h2, h3⟩
            · exact Or.inr h2
            · exact Or.inl ⟨h1, h2, h3⟩
        case measure => rw [hrg2.left_eq, hrg.left_eq]; exact hlt
      · have d0 : decide ((0 : Int) < (spentX s k t : Int)) = false := by simpa using hsp
        have HSP := hid_of hsp
        clear hsp
        go_wp2_with (first
          | (go_at_call 55; refine x_spent H1.out k t HK8.out (HMO.out k) (fun w2 hk2 => ?_); have hrow2 := ownsRow_kp hrow1 hk2 (fun _ _ h => h); have HK2 := hid_of hk2; clear hk2)
          | go_in)
        have hr1 := HZ1.out
        have hrg2 : frng w2 Tryd.prog 9 mm w.heap.size s.nm (encS fun k => if s.mom k = [] then none else some (sl k)) left' cnt1 := hrg1.of_block (HK2.out.block mm hrg1.toMap.lt (fun e => e)) (HK2.out.block _ (by omega) (fun e => e))
        go_roundw
        case rel =>
          refine ⟨left', cnt1, ks, hrg2, hkp1.trans HK2.out (fun _ _ h => h), hrow2, fun k' => ?_, by have := HC.out; omega, Nat.le_trans HZ1.out HK2.out.size, HND.out⟩
          rw [HM.out k', HX.out k']
          constructor
          · rintro ⟨h1, h2, h3⟩; exact ⟨h1, Or.inr h2, h3⟩
          · rintro ⟨h1, h2 | h2, h3⟩
            · subst h2; exact absurd h3 HSP.out
            · exact ⟨h1, h2, h3⟩
        case measure => rw [hrg2.left_eq, hrg.left_eq]; exact hlt

end

end Go.Proofs.YthbdpfccfcceiaaDoor
