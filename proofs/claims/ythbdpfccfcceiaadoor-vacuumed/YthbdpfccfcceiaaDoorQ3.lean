/-
  The history's Keys, told of the store's plain state.
-/
import Derived.Test.YthbdpfccfcceiaaDoorQ1Q2
namespace Go.Proofs.YthbdpfccfcceiaaDoor
open Go.RowKit Go.Maps Go.Sort

def leB (a b : ByteArray) : Bool := Op.bytesLess a.toList b.toList || a.toList == b.toList
def ltB (a b : ByteArray) : Bool := Op.bytesLess a.toList b.toList
def inR (f t k : ByteArray) : Bool := leB f k && ltB k t

theorem infoStr : (Tryd.prog.info? 9).map (fun i => (i.zero, i.size, i.bytes)) = some (some (.string ⟨#[]⟩), 1, 16) := by kernel_rfl

theorem encM_inv {mom : ByteArray → List Int} {sl : ByteArray → Value} {key v : Value} (h : encS (fun k => if mom k = [] then none else some (sl k)) key = some v) : ∃ (k : ByteArray) (x : Value), key = .string k ∧ v = (fun v : Value => v) x := by
  cases key <;> simp [encS] at h
  exact ⟨_, v, rfl, rfl⟩

theorem sorted_strict {ks : List ByteArray} (h : ks.Pairwise (fun a b => a.data.toList ≤ b.data.toList)) (hn : ks.Nodup) : ks.Pairwise blt := by
  refine (h.and hn).imp ?_
  intro a b hab
  rcases List.le_iff_lt_or_eq.1 hab.1 with h1 | h1
  · exact h1
  · exact absurd (WideShapes.bytes_inj h1) hab.2

section
variable {own own' : Nat → Lab} {c : Nat} {w w' : World} {p : Nat} {s : XS} {mo ph mv mm : Nat} {pt mw : Int → Nat} {sl : ByteArray → Value}
variable {R : Ending → World → Prop}

set_option maxRecDepth 20000 in
set_option maxHeartbeats 1000000 in
theorem x_keys (h : XR own c w p s mo ph mv mm pt mw sl) (f t : ByteArray) (hnm : s.nm < 100000)
    (hR : ∀ w' v (ks : List ByteArray), Kp (fun _ => False) w w' → w'.ownsRow (w.heap.size + 1) 9 1 v ks.length (ks.map Value.string) → (∀ k, k ∈ ks ↔ s.mom k ≠ [] ∧ inR f t k = true) → ks.length ≤ s.nm → ks.Pairwise blt → R (.returned v) w') :
    Calls Tryd.prog 44 #[.pointer (some ⟨ph, 0, none⟩), .string f, .string t] w R := by
  have c1 : w.cell? ⟨ph, 1, none⟩ = some (.map (some mm)) := cell_of h.hist 1
  have hmoms := h.moms
  have HR : Hid _ := hR
  have HN : Hid _ := hnm
  clear hR h hnm
  obtain ⟨i0, hi, hz0, hz1, hz2⟩ := info_parts infoStr
  go_enter Tryd.func44, Tryd.ntmps44
  go_wp2_with (first
    | (at_range; refine wpL_range _ rfl _ 109 rfl 9 46 kStr Tryd.underlying109 mm s.nm _ rfl hmoms ?_; intro w0 hrg0 hg0 hs0)
    | go_in)
  go_frame
  go_loopw [7, 8] (fun v7 _ wr => ∃ (left : Value → Bool) (cnt : Nat) (ks : List ByteArray), frng wr Tryd.prog 9 mm w.heap.size s.nm (encS fun k => if s.mom k = [] then none else some (sl k)) left cnt ∧ Kp (fun _ => False) w wr ∧ wr.ownsRow (w.heap.size + 1) 9 1 v7 ks.length (ks.map Value.string) ∧
      (∀ k, k ∈ ks ↔ s.mom k ≠ [] ∧ left (.string k) = false ∧ inR f t k = true) ∧ ks.length + cnt ≤ s.nm ∧ w.heap.size + 1 ≤ wr.heap.size ∧ ks.Nodup)
    (fun _ _ wr => wr.rangeLeft mm w.heap.size)
  case atStart =>
    refine ⟨_, _, [], hrg0, Kp.of_grown hg0 (fun _ h => by cases h), World.ownsRow_nil _ _ _ _, fun k => ?_, by simp, by omega, List.nodup_nil⟩
    constructor
    · intro h; cases h
    · rintro ⟨h1, h2, _⟩
      rw [encS_at, if_neg h1] at h2; cases h2
  case round =>
    obtain ⟨left, cnt, ks, hrg, hkp, hrow, hmem, hcnt, hsz, hnd⟩ := hrel
    have HM : Hid _ := hmem
    have HC : Hid _ := hcnt
    have HZ : Hid _ := hsz
    have HND : Hid _ := hnd
    clear hmem hcnt hsz hnd
    go_wp2_with (first
      | (at_next; refine wpL_next _ rfl _ rfl 9 kStr Value.string (fun v : Value => v) mm w.heap.size s.nm _ left cnt (fun key v hv => ?inv) rfl hrg ?_ ?_)
      | go_in)
    case inv => exact encM_inv hv
    · intro _ hl0
      go_wp2_with (first
        | (go_at_call 46; refine (sort_row hrow (by have := HC.out; have := HN.out; omega)).mono ?_; rintro e w4 ⟨rfl, ks', hperm, hso, hrow', hk4⟩)
        | go_in)
      refine HR.out w4 _ ks' (hkp.trans hk4 (fun b hb hb' => absurd ((hrow.lt b hb').1) (by omega))) hrow' (fun k => ?_) (by rw [hperm.length_eq]; have := HC.out; omega) (sorted_strict hso (hperm.nodup_iff.2 HND.out))
      rw [hperm.mem_iff, HM.out k]
      exact ⟨fun ⟨h1, _, h3⟩ => ⟨h1, h3⟩, fun ⟨h1, h3⟩ => ⟨h1, hl0 _, h3⟩⟩
    · intro k v w1 cnt1 hlk hfk left' hrg1 hl1 hl2 hlt hg1 hs1 hen
      have hmk : s.mom k ≠ [] := fun e => by rw [encS_at, if_pos e] at hfk; cases hfk
      clear hfk
      have hkp1 : Kp (fun _ => False) w w1 := hkp.trans (Kp.of_grown (S := fun b => b = w.heap.size) hg1 (fun b hb => by cases hb; rfl)) (fun b hb e => by omega)
      have hrow1 := ownsRow_kp hrow (Kp.of_grown (S := fun b => b = w.heap.size) hg1 (fun b hb => by cases hb; rfl)) (fun b hb e => by have := (hrow.lt b hb).1; omega)
      have HX : Hid (∀ k', left' (.string k') = false ↔ (k' = k ∨ left (.string k') = false)) := fun k' => by
        by_cases e : k' = k
        · subst e; simp [hl1]
        · rw [hl2 _ (fun h => e (by injection h))]; simp [e]
      have HLK : Hid (left (.string k) = true) := hlk
      have hs1' : w.heap.size + 1 ≤ w1.heap.size := by rw [hs1]; exact HZ.out
      have HZ1 : Hid _ := hs1'
      have HMK : Hid _ := hmk
      clear hlk hl1 hl2 hmk hs1' hg1 hs1
      go_wp2_with (first
        | (at_builtin; refine wpList_append_own_at _ rfl _ _ 70 rfl (w.heap.size + 1) 9 i0 (.string ⟨#[]⟩) 1 16 Tryd.underlying70 hi hz0 hz1 hz2 rfl (by decide) _ _ _ rfl (hrow1.alloc _) ⟨w1.heap.size, 0, none⟩ 1 1 [.string k] rfl rfl (cell_one_new _ _ _) (by simp [Value.oneCell']) (by have := HC.out; have := HN.out; unfold maxLen; omega) (by have := HC.out; have := HN.out; omega) (by have := HZ1.out; simp; omega) ?_; intro v' w2 hown' hgrow hnil hloc)
        | go_in)
      · have hin : inR f t k = true := by
          rename_i q1 q2
          simp [inR, leB, ltB]; simp at q2; exact q2
        have hlt1 : ∀ b, Value.ownBlock u7 = some b → w.heap.size + 1 ≤ b := fun b hb => (hrow1.lt b hb).1
        have K12 : Kp (fun b => Value.ownBlock u7 = some b) w1 w2 := (Kp.alloc (fun b => Value.ownBlock u7 = some b) w1 _).trans (Kp.of_grown (S := fun b => Value.ownBlock u7 = some b) hgrow (fun _ h => h)) (fun _ _ h => h)
        have hmm := hmoms.lt
        have hr1 := HZ1.out
        have hrg2 : frng w2 Tryd.prog 9 mm w.heap.size s.nm (encS fun k => if s.mom k = [] then none else some (sl k)) left' cnt1 := hrg1.of_block (K12.block mm hrg1.toMap.lt (fun e => by have := hlt1 _ e; omega)) (K12.block _ (by omega) (fun e => by have := hlt1 _ e; omega))
        go_roundw
        case rel =>
          refine ⟨left', cnt1, ks ++ [k], hrg2, hkp1.trans K12 (fun b hb e => by have := hlt1 _ e; omega), by simpa using hown', fun k' => ?_, by have := HC.out; simp; omega, Nat.le_trans HZ1.out K12.size, List.nodup_append.2 ⟨HND.out, by simp, fun a ha b hb => by simp at hb; subst hb; intro e; subst e; have := ((HM.out a).1 ha).2.1; rw [HLK.out] at this; cases this⟩⟩
          rw [List.mem_append, List.mem_singleton, HM.out k', HX.out k']
          constructor
          · rintro (⟨h1, h2, h3⟩ | rfl)
            · exact ⟨h1, Or.inr h2, h3⟩
            · exact ⟨HMK.out, Or.inl rfl, hin⟩
          · rintro ⟨h1, h2 | h2, h3⟩
            · exact Or.inr h2
            · exact Or.inl ⟨h1, h2, h3⟩
        case measure => rw [hrg2.left_eq, hrg.left_eq]; exact hlt
      · have hin : inR f t k = false := by
          rename_i q1 q2
          simp only [inR, leB, ltB, Bool.and_eq_false_iff, Bool.or_eq_false_iff]; exact q2
        go_roundw
        case rel =>
          refine ⟨left', cnt1, ks, hrg1, hkp1, hrow1, fun k' => ?_, by have := HC.out; omega, HZ1.out, HND.out⟩
          rw [HM.out k', HX.out k']
          constructor
          · rintro ⟨h1, h2, h3⟩; exact ⟨h1, Or.inr h2, h3⟩
          · rintro ⟨h1, h2 | h2, h3⟩
            · subst h2; rw [hin] at h3; cases h3
            · exact ⟨h1, h2, h3⟩
        case measure => rw [hrg1.left_eq, hrg.left_eq]; exact hlt
      · have hin : inR f t k = false := by
          rename_i q1
          have : leB f k = false := by simp only [leB, Bool.or_eq_false_iff]; simpa [not_or] using q1
          simp [inR, this]
        go_roundw
        case rel =>
          refine ⟨left', cnt1, ks, hrg1, hkp1, hrow1, fun k' => ?_, by have := HC.out; omega, HZ1.out, HND.out⟩
          rw [HM.out k', HX.out k']
          constructor
          · rintro ⟨h1, h2, h3⟩; exact ⟨h1, Or.inr h2, h3⟩
          · rintro ⟨h1, h2 | h2, h3⟩
            · subst h2; rw [hin] at h3; cases h3
            · exact ⟨h1, h2, h3⟩
        case measure => rw [hrg1.left_eq, hrg.left_eq]; exact hlt

end

end Go.Proofs.YthbdpfccfcceiaaDoor
