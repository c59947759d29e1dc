/-
  The history's Keys, told of the store's plain state.
  The keys that may be there for a transaction: (*Store).candidates.
  Scan of a store, told of its plain state.
-/
import Derived.Test.YthbdpfccfcceiaaGreatDoorC2L1L2Q1Q2
namespace Go.Proofs.YthbdpfccfcceiaaGreatDoor
open Go.RowKit Go.Maps Go.Sort

def leB (a b : ByteArray) : Bool := Op.bytesLess a.toList b.toList || a.toList == b.toList
def ltB (a b : ByteArray) : Bool := Op.bytesLess a.toList b.toList
def inR (f t k : ByteArray) : Bool := leB f k && ltB k t

theorem infoStr : (Tryz.prog.info? 9).map (fun i => (i.zero, i.size, i.bytes)) = some (some (.string ⟨#[]⟩), 1, 16) := by kernel_rfl

theorem encM_inv {mom : ByteArray → List Int} {sl : ByteArray → Value} {key v : Value} (h : encS (fun k => if mom k = [] then none else some (sl k)) key = some v) : ∃ (k : ByteArray) (x : Value), key = .string k ∧ v = (fun v : Value => v) x := by
  cases key <;> simp [encS] at h
  exact ⟨_, v, rfl, rfl⟩

theorem sorted_strict {ks : List ByteArray} (h : ks.Pairwise (fun a b => a.data.toList ≤ b.data.toList)) (hn : ks.Nodup) : ks.Pairwise blt := by
  refine (h.and hn).imp ?_
  intro a b hab
  rcases List.le_iff_lt_or_eq.1 hab.1 with h1 | h1
  · exact h1
  · exact absurd (WideShapes.bytes_inj h1) hab.2

section
variable {own own' : Nat → Lab} {c : Nat} {w w' : World} {p : Nat} {s : XS} {mo ph mv mm : Nat} {pt mw : Int → Nat} {sl : ByteArray → Value}
variable {R : Ending → World → Prop}

set_option maxRecDepth 20000 in
set_option maxHeartbeats 1000000 in
theorem x_keys (h : XR own c w p s mo ph mv mm pt mw sl) (f t : ByteArray) (hnm : s.nm < 100000)
    (hR : ∀ w' v (ks : List ByteArray), Kp (fun _ => False) w w' → w'.ownsRow (w.heap.size + 1) 9 1 v ks.length (ks.map Value.string) → (∀ k, k ∈ ks ↔ s.mom k ≠ [] ∧ inR f t k = true) → ks.length ≤ s.nm → ks.Pairwise blt → R (.returned v) w') :
    Calls Tryz.prog 90 #[.pointer (some ⟨ph, 0, none⟩), .string f, .string t] w R := by
  have c1 : w.cell? ⟨ph, 1, none⟩ = some (.map (some mm)) := cell_of h.hist 1
  have hmoms := h.moms
  have HR : Hid _ := hR
  have HN : Hid _ := hnm
  clear hR h hnm
  obtain ⟨i0, hi, hz0, hz1, hz2⟩ := info_parts infoStr
  go_enter Tryz.func90, Tryz.ntmps90
  go_wp2_with (first
    | (at_range; refine wpL_range _ rfl _ 207 rfl 9 26 kStr Tryz.underlying207 mm s.nm _ rfl hmoms ?_; intro w0 hrg0 hg0 hs0)
    | go_in)
  go_frame
  go_loopw [7, 8] (fun v7 _ wr => ∃ (left : Value → Bool) (cnt : Nat) (ks : List ByteArray), frng wr Tryz.prog 9 mm w.heap.size s.nm (encS fun k => if s.mom k = [] then none else some (sl k)) left cnt ∧ Kp (fun _ => False) w wr ∧ wr.ownsRow (w.heap.size + 1) 9 1 v7 ks.length (ks.map Value.string) ∧
      (∀ k, k ∈ ks ↔ s.mom k ≠ [] ∧ left (.string k) = false ∧ inR f t k = true) ∧ ks.length + cnt ≤ s.nm ∧ w.heap.size + 1 ≤ wr.heap.size ∧ ks.Nodup)
    (fun _ _ wr => wr.rangeLeft mm w.heap.size)
  case atStart =>
    refine ⟨_, _, [], hrg0, Kp.of_grown hg0 (fun _ h => by cases h), World.ownsRow_nil _ _ _ _, fun k => ?_, by simp, by omega, List.nodup_nil⟩
    constructor
    · intro h; cases h
    · rintro ⟨h1, h2, _⟩
      rw [encS_at, if_neg h1] at h2; cases h2
  case round =>
    obtain ⟨left, cnt, ks, hrg, hkp, hrow, hmem, hcnt, hsz, hnd⟩ := hrel
    have HM : Hid _ := hmem
    have HC : Hid _ := hcnt
    have HZ : Hid _ := hsz
    have HND : Hid _ := hnd
    clear hmem hcnt hsz hnd
    go_wp2_with (first
      | (at_next; refine wpL_next _ rfl _ rfl 9 kStr Value.string (fun v : Value => v) mm w.heap.size s.nm _ left cnt (fun key v hv => ?inv) rfl hrg ?_ ?_)
      | go_in)
    case inv => exact encM_inv hv
    · intro _ hl0
      go_wp2_with (first
        | (go_at_call 133; refine (sort_row hrow (by have := HC.out; have := HN.out; omega)).mono ?_; rintro e w4 ⟨rfl, ks', hperm, hso, hrow', hk4⟩)
        | go_in)
      refine HR.out w4 _ ks' (hkp.trans hk4 (fun b hb hb' => absurd ((hrow.lt b hb').1) (by omega))) hrow' (fun k => ?_) (by rw [hperm.length_eq]; have := HC.out; omega) (sorted_strict hso (hperm.nodup_iff.2 HND.out))
      rw [hperm.mem_iff, HM.out k]
      exact ⟨fun ⟨h1, _, h3⟩ => ⟨h1, h3⟩, fun ⟨h1, h3⟩ => ⟨h1, hl0 _, h3⟩⟩
    · intro k v w1 cnt1 hlk hfk left' hrg1 hl1 hl2 hlt hg1 hs1 hen
      have hmk : s.mom k ≠ [] := fun e => by rw [encS_at, if_pos e] at hfk; cases hfk
      clear hfk
      have hkp1 : Kp (fun _ => False) w w1 := hkp.trans (Kp.of_grown (S := fun b => b = w.heap.size) hg1 (fun b hb => by cases hb; rfl)) (fun b hb e => by omega)
      have hrow1 := ownsRow_kp hrow (Kp.of_grown (S := fun b => b = w.heap.size) hg1 (fun b hb => by cases hb; rfl)) (fun b hb e => by have := (hrow.lt b hb).1; omega)
      have HX : Hid (∀ k', left' (.string k') = false ↔ (k' = k ∨ left (.string k') = false)) := fun k' => by
        by_cases e : k' = k
        · subst e; simp [hl1]
        · rw [hl2 _ (fun h => e (by injection h))]; simp [e]
      have HLK : Hid (left (.string k) = true) := hlk
      have hs1' : w.heap.size + 1 ≤ w1.heap.size := by rw [hs1]; exact HZ.out
      have HZ1 : Hid _ := hs1'
      have HMK : Hid _ := hmk
      clear hlk hl1 hl2 hmk hs1' hg1 hs1
      go_wp2_with (first
        | (at_builtin; refine wpList_append_own_at _ rfl _ _ 142 rfl (w.heap.size + 1) 9 i0 (.string ⟨#[]⟩) 1 16 Tryz.underlying142 hi hz0 hz1 hz2 rfl (by decide) _ _ _ rfl (hrow1.alloc _) ⟨w1.heap.size, 0, none⟩ 1 1 [.string k] rfl rfl (cell_one_new _ _ _) (by simp [Value.oneCell']) (by have := HC.out; have := HN.out; unfold maxLen; omega) (by have := HC.out; have := HN.out; omega) (by have := HZ1.out; simp; omega) ?_; intro v' w2 hown' hgrow hnil hloc)
        | go_in)
      · have hin : inR f t k = true := by
          rename_i q1 q2
          simp [inR, leB, ltB]; simp at q2; exact q2
        have hlt1 : ∀ b, Value.ownBlock u7 = some b → w.heap.size + 1 ≤ b := fun b hb => (hrow1.lt b hb).1
        have K12 : Kp (fun b => Value.ownBlock u7 = some b) w1 w2 := (Kp.alloc (fun b => Value.ownBlock u7 = some b) w1 _).trans (Kp.of_grown (S := fun b => Value.ownBlock u7 = some b) hgrow (fun _ h => h)) (fun _ _ h => h)
        have hmm := hmoms.lt
        have hr1 := HZ1.out
        have hrg2 : frng w2 Tryz.prog 9 mm w.heap.size s.nm (encS fun k => if s.mom k = [] then none else some (sl k)) left' cnt1 := hrg1.of_block (K12.block mm hrg1.toMap.lt (fun e => by have := hlt1 _ e; omega)) (K12.block _ (by omega) (fun e => by have := hlt1 _ e; omega))
        go_roundw
        case rel =>
          refine ⟨left', cnt1, ks ++ [k], hrg2, hkp1.trans K12 (fun b hb e => by have := hlt1 _ e; omega), by simpa using hown', fun k' => ?_, by have := HC.out; simp; omega, Nat.le_trans HZ1.out K12.size, List.nodup_append.2 ⟨HND.out, by simp, fun a ha b hb => by simp at hb; subst hb; intro e; subst e; have := ((HM.out a).1 ha).2.1; rw [HLK.out] at this; cases this⟩⟩
          rw [List.mem_append, List.mem_singleton, HM.out k', HX.out k']
          constructor
          · rintro (⟨h1, h2, h3⟩ | rfl)
            · exact ⟨h1, Or.inr h2, h3⟩
            · exact ⟨HMK.out, Or.inl rfl, hin⟩
          · rintro ⟨h1, h2 | h2, h3⟩
            · exact Or.inr h2
            · exact Or.inl ⟨h1, h2, h3⟩
        case measure => rw [hrg2.left_eq, hrg.left_eq]; exact hlt
      · have hin : inR f t k = false := by
          rename_i q1 q2
          simp only [inR, leB, ltB, Bool.and_eq_false_iff, Bool.or_eq_false_iff]; exact q2
        go_roundw
        case rel =>
          refine ⟨left', cnt1, ks, hrg1, hkp1, hrow1, fun k' => ?_, by have := HC.out; omega, HZ1.out, HND.out⟩
          rw [HM.out k', HX.out k']
          constructor
          · rintro ⟨h1, h2, h3⟩; exact ⟨h1, Or.inr h2, h3⟩
          · rintro ⟨h1, h2 | h2, h3⟩
            · subst h2; rw [hin] at h3; cases h3
            · exact ⟨h1, h2, h3⟩
        case measure => rw [hrg1.left_eq, hrg.left_eq]; exact hlt
      · have hin : inR f t k = false := by
          rename_i q1
          have : leB f k = false := by simp only [leB, Bool.or_eq_false_iff]; simpa [not_or] using q1
          simp [inR, this]
        go_roundw
        case rel =>
          refine ⟨left', cnt1, ks, hrg1, hkp1, hrow1, fun k' => ?_, by have := HC.out; omega, HZ1.out, HND.out⟩
          rw [HM.out k', HX.out k']
          constructor
          · rintro ⟨h1, h2, h3⟩; exact ⟨h1, Or.inr h2, h3⟩
          · rintro ⟨h1, h2 | h2, h3⟩
            · subst h2; rw [hin] at h3; cases h3
            · exact ⟨h1, h2, h3⟩
        case measure => rw [hrg1.left_eq, hrg.left_eq]; exact hlt

end

end Go.Proofs.YthbdpfccfcceiaaGreatDoor

namespace Go.Proofs.YthbdpfccfcceiaaGreatDoor
open Go.RowKit Go.Maps Go.Sort

section
variable {own own' : Nat → Lab} {c : Nat} {w w' : World} {p : Nat} {s : XS} {mo ph mv mm : Nat} {pt mw : Int → Nat} {sl : ByteArray → Value}
variable {R : Ending → World → Prop}

set_option maxRecDepth 20000 in
set_option maxHeartbeats 1000000 in
theorem x_candidates (h : XR own c w p s mo ph mv mm pt mw sl) (tx : Int) (x : XT) (e : s.txs tx = some x) (f t : ByteArray) (hnm : s.nm < 100000) (hnw : x.nw ≤ 10)
    (hR : ∀ w' v (ks : List ByteArray), Kp (fun _ => False) w w' → w'.ownsRow (w.heap.size + 1) 9 1 v ks.length (ks.map Value.string) → ks.Pairwise blt → (∀ k, k ∈ ks ↔ (s.mom k ≠ [] ∨ (x.wr k).isSome = true) ∧ inR f t k = true) → ks.length ≤ s.nm + 10 → R (.returned v) w') :
    Calls Tryz.prog 158 #[.pointer (some ⟨p, 0, none⟩), .pointer (some ⟨pt tx, 0, none⟩), .string f, .string t] w R := by
  have d3 : w.cell? ⟨p, 0, none⟩ = some (.pointer (some ⟨ph, 0, none⟩)) := cell_of h.store 0
  have H : Hid (XR own c w p s mo ph mv mm pt mw sl) := h
  have HR : Hid _ := hR
  have HN : Hid (s.nm < 100000 ∧ x.nw ≤ 10) := ⟨hnm, hnw⟩
  have hmwlt := (h.wr tx x e).lt
  clear hR h hnm hnw
  obtain ⟨i0, hi, hz0, hz1, hz2⟩ := info_parts infoStr
  go_enter Tryz.func158, Tryz.ntmps158
  go_wp2_with (first
    | (go_at_call 90; refine x_keys H.out f t HN.out.1 (fun w1 v1 ks1 hk1 hrow0 hmem0 hlen0 _ => ?_); have H1 : Hid (XR own c w1 p s mo ph mv mm pt mw sl) := H.out.kept hk1; have d1 : w1.cell? ⟨pt tx, 1, none⟩ = some (.map (some (mw tx))) := cell_of (H1.out.tx tx x e) 1; have hw := H1.out.wr tx x e)
    | (at_range; refine wpL_range _ rfl _ 130 rfl 9 138 kStr Tryz.underlying130 (mw tx) x.nw _ rfl hw ?_; intro w2 hrg0 hg0 hs0)
    | go_in)
  go_frame
  have HM0 : Hid _ := hmem0
  have HL0 : Hid _ := hlen0
  have hsz1 := hk1.size
  clear hmem0 hlen0
  go_loopw [9, 10] (fun v9 _ wr => ∃ (left : Value → Bool) (cnt : Nat) (ks : List ByteArray), frng wr Tryz.prog 9 (mw tx) w1.heap.size x.nw (encS fun k => (x.wr k).map encVer) left cnt ∧ Kp (fun _ => False) w wr ∧ wr.ownsRow (w.heap.size + 1) 9 1 v9 ks.length (ks.map Value.string) ∧ Value.ownBlock v9 ≠ some w1.heap.size ∧
      (∀ k, k ∈ ks ↔ (s.mom k ≠ [] ∨ ((x.wr k).isSome = true ∧ left (.string k) = false)) ∧ inR f t k = true) ∧ ks.length + cnt ≤ s.nm + x.nw ∧ w1.heap.size + 1 ≤ wr.heap.size)
    (fun _ _ wr => wr.rangeLeft (mw tx) w1.heap.size)
  case atStart =>
    refine ⟨_, _, ks1, hrg0, hk1.trans (Kp.of_grown (S := fun _ => False) hg0 (fun _ h => by cases h)) (fun _ _ h => h), hrow0.kept hg0 (by cases hv : v1.ownBlock <;> simp), fun hb => ?_, fun k => ?_, by have := HL0.out; omega, by omega⟩
    · have := (hrow0.lt _ hb).2; omega
    · rw [HM0.out k, encS_at, Option.isSome_map]
      constructor
      · rintro ⟨h1, h2⟩; exact ⟨Or.inl h1, h2⟩
      · rintro ⟨h1 | ⟨h1, h3⟩, h2⟩
        · exact ⟨h1, h2⟩
        · rw [h1] at h3; cases h3
  case round =>
    obtain ⟨left, cnt, ks, hrg, hkp, hrow, hnr, hmem, hcnt, hsz⟩ := hrel
    have HM : Hid _ := hmem
    have HC : Hid _ := hcnt
    have HZ : Hid _ := hsz
    have HNR : Hid _ := hnr
    clear hmem hcnt hsz hnr
    go_wp2_with (first
      | (at_next; refine wpL_next _ rfl _ rfl 9 kStr Value.string (fun v : Value => v) (mw tx) w1.heap.size x.nw _ left cnt (fun key v hv => ?inv) rfl hrg ?_ ?_)
      | go_in)
    case inv => exact encS_inv hv
    · intro _ hl0
      go_wp2_with (first
        | (go_at_call 133; refine (sort_row hrow (by have := HC.out; have := HN.out; omega)).mono ?_; rintro e w4 ⟨rfl, ks', hperm, hsort, hrow', hk4⟩)
        | (go_at_call 200; refine (compact_row hrow' (by rw [hperm.length_eq]; have := HC.out; have := HN.out; omega) hsort).mono ?_; rintro e w5 ⟨v5, rfl, ks5, hm5, hs5, hl5, hrow5, hb5, hk5⟩)
        | go_in)
      refine HR.out w5 v5 ks5 ((hkp.trans hk4 (fun b hb hb' => absurd ((hrow.lt b hb').1) (by omega))).trans hk5 (fun b hb hb' => absurd ((hrow.lt b hb').1) (by omega))) hrow5 hs5 (fun k => ?_) (by rw [hperm.length_eq] at hl5; have := HC.out; have := HN.out; omega)
      rw [hm5, hperm.mem_iff, HM.out k]
      constructor
      · rintro ⟨h1 | ⟨h1, _⟩, h2⟩
        · exact ⟨Or.inl h1, h2⟩
        · exact ⟨Or.inr h1, h2⟩
      · rintro ⟨h1 | h1, h2⟩
        · exact ⟨Or.inl h1, h2⟩
        · exact ⟨Or.inr ⟨h1, hl0 _⟩, h2⟩
    · intro k v w3 cnt1 hlk hfk left' hrg1 hl1 hl2 hlt hg1 hs1 hen
      have hmk : (x.wr k).isSome = true := by
        obtain ⟨a, b, hab, _⟩ := encS_inv2 hfk
        rw [hab]; rfl
      clear hfk
      have hkp1 : Kp (fun _ => False) w w3 := hkp.trans (Kp.of_grown (S := fun b => b = w1.heap.size) hg1 (fun b hb => by cases hb; rfl)) (fun b hb e => by omega)
      have hrow1 := ownsRow_kp hrow (Kp.of_grown (S := fun b => b = w1.heap.size) hg1 (fun b hb => by cases hb; rfl)) (fun b hb e => HNR.out (by rw [hb, e]))
      have HX : Hid (∀ k', left' (.string k') = false ↔ (k' = k ∨ left (.string k') = false)) := fun k' => by
        by_cases e : k' = k
        · subst e; simp [hl1]
        · rw [hl2 _ (fun h => e (by injection h))]; simp [e]
      have hs1' : w1.heap.size + 1 ≤ w3.heap.size := by rw [hs1]; exact HZ.out
      have HZ1 : Hid _ := hs1'
      have HMK : Hid _ := hmk
      clear hlk hl1 hl2 hmk hs1' hg1 hs1
      go_wp2_with (first
        | (at_builtin; refine wpList_append_own_at _ rfl _ _ 142 rfl (w.heap.size + 1) 9 i0 (.string ⟨#[]⟩) 1 16 Tryz.underlying142 hi hz0 hz1 hz2 rfl (by decide) _ _ _ rfl (hrow1.alloc _) ⟨w3.heap.size, 0, none⟩ 1 1 [.string k] rfl rfl (cell_one_new _ _ _) (by simp [Value.oneCell']) (by have := HC.out; have := HN.out; unfold maxLen; omega) (by have := HC.out; have := HN.out; omega) (by have := HZ1.out; simp; omega) ?_; intro v' w4 hown' hgrow hnil hloc)
        | go_in)
      · have hin : inR f t k = true := by
          rename_i q1 q2
          simp [inR, leB, ltB]; simp at q2; exact q2
        have hlt1 : ∀ b, Value.ownBlock u9 = some b → w.heap.size + 1 ≤ b := fun b hb => (hrow1.lt b hb).1
        have K12 : Kp (fun b => Value.ownBlock u9 = some b) w3 w4 := (Kp.alloc (fun b => Value.ownBlock u9 = some b) w3 _).trans (Kp.of_grown (S := fun b => Value.ownBlock u9 = some b) hgrow (fun _ h => h)) (fun _ _ h => h)
        have hr1 := HZ1.out
        have hrg2 : frng w4 Tryz.prog 9 (mw tx) w1.heap.size x.nw (encS fun k => (x.wr k).map encVer) left' cnt1 := hrg1.of_block (K12.block _ hrg1.toMap.lt (fun e => by have := hlt1 _ e; omega)) (K12.block _ (by omega) HNR.out)
        go_roundw
        case rel =>
          refine ⟨left', cnt1, ks ++ [k], hrg2, hkp1.trans K12 (fun b hb e => by have := hlt1 _ e; omega), by simpa using hown', fun hb => ?_, fun k' => ?_, by have := HC.out; simp; omega, Nat.le_trans HZ1.out K12.size⟩
          · rcases hloc with hl | hl
            · exact HNR.out (hl ▸ hb)
            · rw [hb] at hl; simp at hl; omega
          · rw [List.mem_append, List.mem_singleton, HM.out k', HX.out k']
            constructor
            · rintro (⟨h1 | ⟨h1, h2⟩, h3⟩ | rfl)
              · exact ⟨Or.inl h1, h3⟩
              · exact ⟨Or.inr ⟨h1, Or.inr h2⟩, h3⟩
              · exact ⟨Or.inr ⟨HMK.out, Or.inl rfl⟩, hin⟩
            · rintro ⟨h1 | ⟨h1, h2 | h2⟩, h3⟩
              · exact Or.inl ⟨Or.inl h1, h3⟩
              · exact Or.inr h2
              · exact Or.inl ⟨Or.inr ⟨h1, h2⟩, h3⟩
        case measure => rw [hrg2.left_eq, hrg.left_eq]; exact hlt
      · have hin : inR f t k = false := by
          rename_i q1 q2
          simp only [inR, leB, ltB, Bool.and_eq_false_iff, Bool.or_eq_false_iff]; exact q2
        go_roundw
        case rel =>
          refine ⟨left', cnt1, ks, hrg1, hkp1, hrow1, HNR.out, fun k' => ?_, by have := HC.out; omega, HZ1.out⟩
          rw [HM.out k', HX.out k']
          constructor
          · rintro ⟨h1 | ⟨h1, h2⟩, h3⟩
            · exact ⟨Or.inl h1, h3⟩
            · exact ⟨Or.inr ⟨h1, Or.inr h2⟩, h3⟩
          · rintro ⟨h1 | ⟨h1, h2 | h2⟩, h3⟩
            · exact ⟨Or.inl h1, h3⟩
            · subst h2; rw [hin] at h3; cases h3
            · exact ⟨Or.inr ⟨h1, h2⟩, h3⟩
        case measure => rw [hrg1.left_eq, hrg.left_eq]; exact hlt
      · have hin : inR f t k = false := by
          rename_i q1
          have : leB f k = false := by simp only [leB, Bool.or_eq_false_iff]; simpa [not_or] using q1
          simp [inR, this]
        go_roundw
        case rel =>
          refine ⟨left', cnt1, ks, hrg1, hkp1, hrow1, HNR.out, fun k' => ?_, by have := HC.out; omega, HZ1.out⟩
          rw [HM.out k', HX.out k']
          constructor
          · rintro ⟨h1 | ⟨h1, h2⟩, h3⟩
            · exact ⟨Or.inl h1, h3⟩
            · exact ⟨Or.inr ⟨h1, Or.inr h2⟩, h3⟩
          · rintro ⟨h1 | ⟨h1, h2 | h2⟩, h3⟩
            · exact ⟨Or.inl h1, h3⟩
            · subst h2; rw [hin] at h3; cases h3
            · exact ⟨Or.inr ⟨h1, h2⟩, h3⟩
        case measure => rw [hrg1.left_eq, hrg.left_eq]; exact hlt

end

end Go.Proofs.YthbdpfccfcceiaaGreatDoor

namespace Go.Proofs.YthbdpfccfcceiaaGreatDoor
open Go.RowKit Go.Maps Go.Sort

theorem infoPair : (Tryz.prog.info? 105).map (fun i => (i.zero, i.size, i.bytes)) = some (some (.agg #[.string ⟨#[]⟩, .string ⟨#[]⟩]), 2, 32) := by kernel_rfl

def cells2 (ps : List (ByteArray × ByteArray)) : List Value := ps.flatMap fun q => [.string q.1, .string q.2]
theorem cells2_len (ps : List (ByteArray × ByteArray)) : (cells2 ps).length = ps.length * 2 := by
  induction ps with
  | nil => rfl
  | cons a r ih => simp [cells2] at ih ⊢; omega
theorem cells2_snoc (ps : List (ByteArray × ByteArray)) (a b : ByteArray) : cells2 ps ++ [.string a, .string b] = cells2 (ps ++ [(a, b)]) := by simp [cells2]

theorem two_new (w : World) (x y : Value) (t : TypeId) : ∀ j u, [x, y][j]? = some u → (w.alloc (.cells #[x, y] t)).cell? ((⟨w.heap.size, 0, none⟩ : Addr).add j) = some u := by
  intro j u hj
  match j, hj with
  | 0, hj => simp at hj; subst hj; simp [Addr.add]
  | 1, hj => simp at hj; subst hj; simp [Addr.add]

def pairOf (g : ByteArray → ByteArray × Bool) (k : ByteArray) : Option (ByteArray × ByteArray) := if (g k).2 then some (k, (g k).1) else none

section
variable {own own' : Nat → Lab} {c : Nat} {w w' : World} {p : Nat} {s : XS} {mo ph mv mm : Nat} {pt mw : Int → Nat} {sl : ByteArray → Value}
variable {R : Ending → World → Prop}

theorem row_cell {base : Nat} {v : Value} {ks : List ByteArray} (h : w.ownsRow base 9 1 v ks.length (ks.map Value.string)) : ∃ a cap, v = .slice a ks.length cap ∧ (ks ≠ [] → ∃ g, a = some ⟨g, 0, none⟩ ∧ base ≤ g ∧ g < w.heap.size ∧ ∀ j (hj : j < ks.length), w.cell? ⟨g, j, none⟩ = some (.string ks[j])) := by
  rcases h.2 with ⟨rfl, h0⟩ | ⟨g, cap, cur, rfl, hb, hg, hn, _, hcs, ht⟩
  · exact ⟨none, 0, by rw [h0], fun hk => absurd (List.eq_nil_of_length_eq_zero h0) hk⟩
  · refine ⟨_, cap, rfl, fun _ => ⟨g, rfl, hb, block_lt hg, fun j hj => ?_⟩⟩
    rw [cell_of hg, ← Array.getElem?_toList]
    rw [Nat.mul_one] at ht
    have h1 : (cur.toList.take ks.length)[j]? = (ks.map Value.string)[j]? := by rw [ht]
    rw [List.getElem?_take, if_pos hj, List.getElem?_map, List.getElem?_eq_getElem hj] at h1
    simpa using h1

set_option maxRecDepth 20000 in
set_option maxHeartbeats 1000000 in
theorem x_scan (h : XR own c w p s mo ph mv mm pt mw sl) (tx : Int) (hwx : (Lit.int .i64 tx).wf = true) (f t : ByteArray) (hnm : s.nm < 100000) (hnw : ∀ n x, s.txs n = some x → x.nw ≤ 10) (hm : ∀ k, MomOk s k) (hkey : ∀ k, s.mom k ≠ [] → k.size ≤ 8) (hkw : ∀ n x, s.txs n = some x → ∀ k, (x.wr k).isSome = true → k.size ≤ 8)
    (h0 : s.txs tx = none → R (.returned (.tuple #[.slice none 0 0, .int .i64 2])) w)
    (h1 : ∀ x, s.txs tx = some x → ∀ w' v (ks : List ByteArray), Kp (fun _ => False) w w' → ks.Pairwise blt → (∀ k, k ∈ ks ↔ (s.mom k ≠ [] ∨ (x.wr k).isSome = true) ∧ inR f t k = true) → ks.length ≤ s.nm + 10 →
      w'.ownsRow w.heap.size 105 2 v (ks.filterMap (pairOf (seesX s x))).length (cells2 (ks.filterMap (pairOf (seesX s x)))) → R (.returned (.tuple #[v, .int .i64 0])) w') :
    Calls Tryz.prog 104 #[.pointer (some ⟨p, 0, none⟩), .int .i64 tx, .string f, .string t] w R := by
  have hkey1 : Hid _ := keyOf_int_mk Tryz.underlying3 hwx
  have c2 : w.cell? ⟨p, 7, none⟩ = some (.map (some mo)) := cell_of h.store 7
  have hopn := h.opn
  have H : Hid (XR own c w p s mo ph mv mm pt mw sl) := h
  cases e : s.txs tx with
  | none =>
    have hf : (encI fun n => (s.txs n).map fun _ => Value.pointer (some ⟨pt n, 0, none⟩)) (.int .i64 tx) = none := by rw [encI_at, e]; rfl
    have HR := h0 e
    clear h h0 h1 hnm hm hnw hkey hkw
    go_enter Tryz.func104, Tryz.ntmps104
    go_wp2_with (first
      | (at_lookup; refine wpL_lookup_ok _ rfl _ _ 99 rfl 3 129 kInt Tryz.underlying99 (zTxP _) mo s.nopen _ rfl hopn (.int .i64 tx) _ rfl hkey1.out _ hf ?_)
      | go_in)
    exact HR
  | some x =>
    have hf : (encI fun n => (s.txs n).map fun _ => Value.pointer (some ⟨pt n, 0, none⟩)) (.int .i64 tx) = some (.pointer (some ⟨pt tx, 0, none⟩)) := by rw [encI_at, e]; rfl
    have HR : Hid _ := h1 x e
    have HN : Hid _ := hnm
    have HM : Hid _ := hm
    have HW : Hid (∀ k, (s.mom k ≠ [] ∨ (x.wr k).isSome = true) → k.size ≤ 8) := fun k hk => hk.elim (hkey k) (hkw tx x e k)
    have HNW := hnw tx x e
    obtain ⟨i0, hi, hz0, hz1, hz2⟩ := info_parts infoPair
    clear h h0 h1 hnm hm hnw hkey hkw
    go_enter Tryz.func104, Tryz.ntmps104
    go_wp2_with (first
      | (at_lookup; refine wpL_lookup_ok _ rfl _ _ 99 rfl 3 129 kInt Tryz.underlying99 (zTxP _) mo s.nopen _ rfl hopn (.int .i64 tx) _ rfl hkey1.out _ hf ?_)
      | (go_at_call 158; refine x_candidates H.out tx x e f t HN.out HNW (fun w1 v1 ks hk1 hrow hsort hmem hlen => ?_); have H1 : Hid (XR own c w1 p s mo ph mv mm pt mw sl) := H.out.kept hk1; obtain ⟨a1, cap1, rfl, hcell⟩ := row_cell hrow; have HC : Hid _ := hcell; have HROW : Hid _ := hrow; have HSO : Hid _ := hsort; have HME : Hid _ := hmem; have HLE : Hid _ := hlen; clear hcell hrow hsort hmem hlen)
      | go_in)
    clear hf hopn c2
    have HS1 : Hid (w.heap.size ≤ w1.heap.size) := hk1.size
    go_loopw [12, 34] (fun v12 v34 wr => ∃ i : Nat, i ≤ ks.length ∧ v34 = .int .i64 i ∧ Kp (fun _ => False) w1 wr ∧ wr.ownsRow w1.heap.size 105 2 v12 ((ks.take i).filterMap (pairOf (seesX s x))).length (cells2 ((ks.take i).filterMap (pairOf (seesX s x)))))
      (fun _ v34 _ => ks.length - (intOf v34).toNat)
    case atStart => exact ⟨0, Nat.zero_le _, rfl, Kp.refl _ _, World.ownsRow_nil _ _ _ _⟩
    case round =>
      obtain ⟨i, hile, rfl, hkp, hown⟩ := hrel
      by_cases hlt : i < ks.length
      · obtain ⟨g, rfl, hg1, hg2, hcell⟩ := HC.out (fun h => by rw [h] at hlt; simp at hlt)
        have hck : wr.cell? ⟨g, i, none⟩ = some (.string ks[i]) := (hkp.cell (a := ⟨g, i, none⟩) hg2 (fun h => h)).trans (hcell i hlt)
        have hki : ks[i] ∈ ks := List.getElem_mem _
        have hkk := (HME.out ks[i]).1 hki
        have htk : ks.take (i + 1) = ks.take i ++ [ks[i]] := List.take_succ_eq_append_getElem hlt
        have HT : Hid _ := htk
        have hlt' : (i : Int) < ks.length := by omega
        have hi1 : (i : Int) ≤ 1000000 := by have := HLE.out; have := HN.out; omega
        have hlenps : Hid (((ks.take i).filterMap (pairOf (seesX s x))).length ≤ 1000000) := by
          show _ ≤ _
          have h1 := List.length_filterMap_le (pairOf (seesX s x)) (ks.take i)
          have h2 : (ks.take i).length ≤ i := by simp [List.length_take]; omega
          have := HLE.out; have := HN.out; omega
        have hxr : Hid (XR own c wr p s mo ph mv mm pt mw sl) := H1.out.kept hkp
        have HWK : Hid _ := HW.out _ hkk.1
        have HKP : Hid (Kp (fun _ => False) w1 wr) := hkp
        generalize hkeq : ks[i] = k at *
        clear hkk hki htk hkp hcell
        cases hs : (seesX s x k).2
        · go_wp2_with (first
            | (go_at_call 155; refine x_look hxr.out tx x e k HWK.out (HM.out k) (fun w2 hk2 => ?_); have HK2 : Hid (Kp (fun _ => False) wr w2) := hk2; clear hk2)
            | go_in)
          go_roundw
          case rel =>
            refine ⟨i + 1, by omega, by go_num, HKP.out.trans HK2.out (fun _ _ h => h), ?_⟩
            have hp0 : (ks.take (i + 1)).filterMap (pairOf (seesX s x)) = (ks.take i).filterMap (pairOf (seesX s x)) := by rw [HT.out, List.filterMap_append]; simp [pairOf, hs]
            rw [hp0]
            exact ownsRow_kp hown HK2.out (fun _ _ h => h)
          case measure => simp [intOf]; omega
        · go_wp2_with (first
            | (go_at_call 155; refine x_look hxr.out tx x e k HWK.out (HM.out k) (fun w2 hk2 => ?_); have HK2 : Hid (Kp (fun _ => False) wr w2) := hk2; have hown2 := ownsRow_kp hown hk2 (fun _ _ h => h); clear hk2)
            | (at_builtin; refine wpList_append_own_at _ rfl _ _ 43 rfl w1.heap.size 105 i0 (.agg #[.string ⟨#[]⟩, .string ⟨#[]⟩]) 2 32 Tryz.underlying43 hi hz0 hz1 hz2 rfl (by decide) _ _ _ rfl (hown2.alloc _) ⟨w2.heap.size, 0, none⟩ 1 1 [.string k, .string (seesX s x k).1] rfl rfl (two_new _ _ _ _) (by simp [Value.oneCell']) (by have := hlenps.out; unfold maxLen; omega) (by have := hlenps.out; omega) (by have := HKP.out.size; have := HK2.out.size; simp; omega) ?_; intro v' w3 hown' hgrow hnil hloc)
            | go_in)
          have hb1 : ∀ b, Value.ownBlock u12 = some b → w1.heap.size ≤ b := fun b hb => (hown2.lt b hb).1
          go_roundw
          case rel =>
            refine ⟨i + 1, by omega, by go_num, ((HKP.out.trans HK2.out (fun _ _ h => h)).trans ((Kp.alloc (fun b => Value.ownBlock u12 = some b) w2 _).trans (Kp.of_grown (S := fun b => Value.ownBlock u12 = some b) hgrow (fun _ h => h)) (fun _ _ h => h)) (fun b hb h => by have := hb1 b h; omega)), ?_⟩
            have hp0 : (ks.take (i + 1)).filterMap (pairOf (seesX s x)) = (ks.take i).filterMap (pairOf (seesX s x)) ++ [(k, (seesX s x k).1)] := by rw [HT.out, List.filterMap_append]; simp [pairOf, hs]
            rw [hp0, List.length_append, ← cells2_snoc]
            exact hown'
          case measure => simp [intOf]; omega
      · have hie : i = ks.length := by omega
        subst hie
        rw [List.take_length] at hown
        go_wp2_with fail
        refine HR.out wr u12 ks (hk1.trans hkp (fun _ _ h => h)) HSO.out HME.out HLE.out ⟨hown.1, hown.2.imp id (fun ⟨g, cap, cur, e1, e2, e3⟩ => ⟨g, cap, cur, e1, Nat.le_trans HS1.out e2, e3⟩)⟩

end

end Go.Proofs.YthbdpfccfcceiaaGreatDoor
