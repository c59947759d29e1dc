/-
  slices.Compact of a sorted slice of texts.
  The history's Keys, told of the store's plain state.
-/
import Derived.Test.YthbdpfccfcceiaaGreatDoorQ1N1
namespace Go.Proofs.YthbdpfccfcceiaaGreatDoor
open Go.RowKit Go.Maps Go.Sort Go.Lib

theorem comp_spec (d : Array (List UInt8)) (hs : ∀ i j, i ≤ j → j < d.size → d[i]! ≤ d[j]!) : ∀ m, m ≤ d.size → (compactUpTo d m).Pairwise (· < ·) ∧ ∀ x, x ∈ compactUpTo d m ↔ ∃ j, j < m ∧ d[j]! = x := by
  intro m
  induction m with
  | zero => intro _; exact ⟨by simp [compactUpTo], fun x => by simp [compactUpTo]⟩
  | succ m ih =>
    intro hm
    obtain ⟨h1, h2⟩ := ih (by omega)
    rw [compactUpTo_succ]
    by_cases hk : keeps d m = true
    · rw [if_pos hk]
      constructor
      · rw [List.pairwise_append]
        refine ⟨h1, by simp, fun x hx y hy => ?_⟩
        simp at hy; subst hy
        obtain ⟨j, hj, rfl⟩ := (h2 x).1 hx
        have hle := hs j m (by omega) (by omega)
        rcases List.le_iff_lt_or_eq.1 hle with h | h
        · exact h
        · exfalso
          have h3 := hs j (m - 1) (by omega) (by omega)
          have h4 := hs (m - 1) m (by omega) (by omega)
          have h5 : d[m - 1]! = d[m]! := List.le_antisymm h4 (h ▸ h3)
          have : keeps d m = false := keeps_neg (by omega) h5.symm
          rw [this] at hk; cases hk
      · intro x
        rw [List.mem_append, h2, List.mem_singleton]
        constructor
        · rintro (⟨j, hj, rfl⟩ | rfl)
          · exact ⟨j, by omega, rfl⟩
          · exact ⟨m, by omega, rfl⟩
        · rintro ⟨j, hj, rfl⟩
          by_cases e : j = m
          · subst e; exact Or.inr rfl
          · exact Or.inl ⟨j, by omega, rfl⟩
    · rw [if_neg hk, List.append_nil]
      refine ⟨h1, fun x => ?_⟩
      rw [h2]
      constructor
      · rintro ⟨j, hj, rfl⟩; exact ⟨j, by omega, rfl⟩
      · rintro ⟨j, hj, rfl⟩
        by_cases e : j = m
        · subst e
          have hne : ¬ (d[j]! ≠ d[j - 1]!) := fun h => hk (keeps_pos h)
          have hj0 : 0 < j := by
            rcases Nat.eq_zero_or_pos j with h | h
            · subst h; exact absurd (keeps_lt_one d 0 (by omega)) hk
            · exact h
          exact ⟨j - 1, by omega, (Classical.not_not.1 hne).symm⟩
        · exact ⟨j, by omega, rfl⟩

theorem getBang_map (ks : List ByteArray) (j : Nat) (h : j < ks.length) : (ks.map (·.data.toList)).toArray[j]! = (ks[j]).data.toList := by
  rw [getElem!_pos _ j (by simpa using h)]; simp

section
variable {w : World} {base : Nat} {v : Value}

theorem compact_row {ks : List ByteArray} (h : w.ownsRow base 9 1 v ks.length (ks.map Value.string)) (hl : ks.length < 1000000) (hs : ks.Pairwise (fun a b => a.data.toList ≤ b.data.toList)) :
    Calls Tryz.prog 200 #[v] w fun e w' => ∃ v', e = .returned v' ∧ ∃ ks' : List ByteArray, (∀ k, k ∈ ks' ↔ k ∈ ks) ∧ ks'.Pairwise blt ∧ ks'.length ≤ ks.length ∧ w'.ownsRow base 9 1 v' ks'.length (ks'.map Value.string) ∧ v'.ownBlock = v.ownBlock ∧ Kp (fun b => v.ownBlock = some b) w w' := by
  rcases h.2 with ⟨rfl, h0⟩ | ⟨g, cap, cur, rfl, hb, hg, hn, hm, hcs, ht⟩
  · refine (Tryz.slices_Compact_string_empty none 0 w).mono ?_
    rintro e w' ⟨rfl, rfl⟩
    have hk := List.eq_nil_of_length_eq_zero h0
    subst hk
    exact ⟨_, rfl, [], fun k => Iff.rfl, List.Pairwise.nil, Nat.le_refl _, h, rfl, Kp.refl _ _⟩
  · rw [Nat.mul_one] at ht hcs
    have hH := holds_row (w := w) (ks := ks) hg hcs hn ht
    have hc := Tryz.slices_Compact_string g 0 cap (ks.map (·.data.toList)) w hH (by simpa using (by omega : ks.length ≤ 9223372036854775807)) (by simpa using hn)
    rw [List.length_map] at hc
    refine hc.mono ?_
    rintro e w' ⟨rfl, q, rfl⟩
    obtain ⟨p1, p2⟩ := comp_spec (ks.map (·.data.toList)).toArray (fun i j hij hj => by
      simp at hj
      rw [getBang_map ks i (by omega), getBang_map ks j hj]
      by_cases e : i = j
      · subst e; exact List.le_refl _
      · exact (List.pairwise_iff_getElem.1 hs) i j (by omega) hj (by omega)) ks.length (by simp)
    have hcomp : Lib.compact (ks.map (·.data.toList)) = compactUpTo (ks.map (·.data.toList)).toArray ks.length := by simp [Lib.compact]
    have hlen : (Lib.compact (ks.map (·.data.toList))).length ≤ ks.length := by
      rw [hcomp]
      have : (compactUpTo (ks.map (·.data.toList)).toArray ks.length).length ≤ (List.range ks.length).length := by
        unfold compactUpTo; rw [List.length_map]; exact List.length_filter_le _ _
      simpa using this
    refine ⟨_, rfl, (Lib.compact (ks.map (·.data.toList))).map ofL, fun k => ?_, ?_, by simpa using hlen, ?_, rfl, ?_⟩
    · rw [List.mem_map]
      constructor
      · rintro ⟨x, hx, rfl⟩
        rw [hcomp, p2] at hx
        obtain ⟨j, hj, rfl⟩ := hx
        rw [getBang_map ks j hj, ofL_data]; exact List.getElem_mem _
      · intro hk
        obtain ⟨j, hj, rfl⟩ := List.getElem_of_mem hk
        exact ⟨(ks[j]).data.toList, by rw [hcomp, p2]; exact ⟨j, hj, getBang_map ks j hj⟩, ofL_data _⟩
    · rw [List.pairwise_map, hcomp]
      exact p1.imp (fun h => by unfold blt; rw [data_ofL, data_ofL]; exact h)
    · have := row_after (W := Sort.ahead w q) (ks := ks) (ks' := (Lib.compact (ks.map (·.data.toList))).map ofL) (ds := Lib.compact (ks.map (·.data.toList)) ++ List.replicate (ks.length - (Lib.compact (ks.map (·.data.toList))).length) []) (base := base) hg hb hcs hm hn (by simpa using hlen) (by simp; omega)
        (by rw [List.length_map, List.take_left, List.map_map]; simp [Function.comp_def, data_ofL]) (block_lt hg) #[]
      have e0 : ∀ W : World, grow W #[] = W := fun W => by simp [grow]
      rw [e0] at this
      simpa using this
    · have := kp_sorted w q g (Lib.compact (ks.map (fun k : ByteArray => k.data.toList)) ++ List.replicate (ks.length - (Lib.compact (ks.map (fun k : ByteArray => k.data.toList))).length) []).toArray #[]
      have e0 : ∀ W : World, grow W #[] = W := fun W => by simp [grow]
      rw [e0] at this
      exact this.mono (fun b _ hb => by simp [Value.ownBlock, hb])

end

end Go.Proofs.YthbdpfccfcceiaaGreatDoor

namespace Go.Proofs.YthbdpfccfcceiaaGreatDoor
open Go.RowKit Go.Maps Go.Sort

def leB (a b : ByteArray) : Bool := Op.bytesLess a.toList b.toList || a.toList == b.toList
def ltB (a b : ByteArray) : Bool := Op.bytesLess a.toList b.toList
def inR (f t k : ByteArray) : Bool := leB f k && ltB k t

theorem infoStr : (Tryz.prog.info? 9).map (fun i => (i.zero, i.size, i.bytes)) = some (some (.string ⟨#[]⟩), 1, 16) := by kernel_rfl

theorem encM_inv {mom : ByteArray → List Int} {sl : ByteArray → Value} {key v : Value} (h : encS (fun k => if mom k = [] then none else some (sl k)) key = some v) : ∃ (k : ByteArray) (x : Value), key = .string k ∧ v = (fun v : Value => v) x := by
  cases key <;> simp [encS] at h
  exact ⟨_, v, rfl, rfl⟩

theorem sorted_strict {ks : List ByteArray} (h : ks.Pairwise (fun a b => a.data.toList ≤ b.data.toList)) (hn : ks.Nodup) : ks.Pairwise blt := by
  refine (h.and hn).imp ?_
  intro a b hab
  rcases List.le_iff_lt_or_eq.1 hab.1 with h1 | h1
  · exact h1
  · exact absurd (WideShapes.bytes_inj h1) hab.2

section
variable {own own' : Nat → Lab} {c : Nat} {w w' : World} {p : Nat} {s : XS} {mo ph mv mm : Nat} {pt mw : Int → Nat} {sl : ByteArray → Value}
variable {R : Ending → World → Prop}

set_option maxRecDepth 20000 in
set_option maxHeartbeats 1000000 in
theorem x_keys (h : XR own c w p s mo ph mv mm pt mw sl) (f t : ByteArray) (hnm : s.nm < 100000)
    (hR : ∀ w' v (ks : List ByteArray), Kp (fun _ => False) w w' → w'.ownsRow (w.heap.size + 1) 9 1 v ks.length (ks.map Value.string) → (∀ k, k ∈ ks ↔ s.mom k ≠ [] ∧ inR f t k = true) → ks.length ≤ s.nm → ks.Pairwise blt → R (.returned v) w') :
    Calls Tryz.prog 90 #[.pointer (some ⟨ph, 0, none⟩), .string f, .string t] w R := by
  have c1 : w.cell? ⟨ph, 1, none⟩ = some (.map (some mm)) := cell_of h.hist 1
  have hmoms := h.moms
  have HR : Hid _ := hR
  have HN : Hid _ := hnm
  clear hR h hnm
  obtain ⟨i0, hi, hz0, hz1, hz2⟩ := info_parts infoStr
  go_enter Tryz.func90, Tryz.ntmps90
  go_wp2_with (first
    | (at_range; refine wpL_range _ rfl _ 207 rfl 9 26 kStr Tryz.underlying207 mm s.nm _ rfl hmoms ?_; intro w0 hrg0 hg0 hs0)
    | go_in)
  go_frame
  go_loopw [7, 8] (fun v7 _ wr => ∃ (left : Value → Bool) (cnt : Nat) (ks : List ByteArray), frng wr Tryz.prog 9 mm w.heap.size s.nm (encS fun k => if s.mom k = [] then none else some (sl k)) left cnt ∧ Kp (fun _ => False) w wr ∧ wr.ownsRow (w.heap.size + 1) 9 1 v7 ks.length (ks.map Value.string) ∧
      (∀ k, k ∈ ks ↔ s.mom k ≠ [] ∧ left (.string k) = false ∧ inR f t k = true) ∧ ks.length + cnt ≤ s.nm ∧ w.heap.size + 1 ≤ wr.heap.size ∧ ks.Nodup)
    (fun _ _ wr => wr.rangeLeft mm w.heap.size)
  case atStart =>
    refine ⟨_, _, [], hrg0, Kp.of_grown hg0 (fun _ h => by cases h), World.ownsRow_nil _ _ _ _, fun k => ?_, by simp, by omega, List.nodup_nil⟩
    constructor
    · intro h; cases h
    · rintro ⟨h1, h2, _⟩
      rw [encS_at, if_neg h1] at h2; cases h2
  case round =>
    obtain ⟨left, cnt, ks, hrg, hkp, hrow, hmem, hcnt, hsz, hnd⟩ := hrel
    have HM : Hid _ := hmem
    have HC : Hid _ := hcnt
    have HZ : Hid _ := hsz
    have HND : Hid _ := hnd
    clear hmem hcnt hsz hnd
    go_wp2_with (first
      | (at_next; refine wpL_next _ rfl _ rfl 9 kStr Value.string (fun v : Value => v) mm w.heap.size s.nm _ left cnt (fun key v hv => ?inv) rfl hrg ?_ ?_)
      | go_in)
    case inv => exact encM_inv hv
    · intro _ hl0
      go_wp2_with (first
        | (go_at_call 133; refine (sort_row hrow (by have := HC.out; have := HN.out; omega)).mono ?_; rintro e w4 ⟨rfl, ks', hperm, hso, hrow', hk4⟩)
        | go_in)
      refine HR.out w4 _ ks' (hkp.trans hk4 (fun b hb hb' => absurd ((hrow.lt b hb').1) (by omega))) hrow' (fun k => ?_) (by rw [hperm.length_eq]; have := HC.out; omega) (sorted_strict hso (hperm.nodup_iff.2 HND.out))
      rw [hperm.mem_iff, HM.out k]
      exact ⟨fun ⟨h1, _, h3⟩ => ⟨h1, h3⟩, fun ⟨h1, h3⟩ => ⟨h1, hl0 _, h3⟩⟩
    · intro k v w1 cnt1 hlk hfk left' hrg1 hl1 hl2 hlt hg1 hs1 hen
      have hmk : s.mom k ≠ [] := fun e => by rw [encS_at, if_pos e] at hfk; cases hfk
      clear hfk
      have hkp1 : Kp (fun _ => False) w w1 := hkp.trans (Kp.of_grown (S := fun b => b = w.heap.size) hg1 (fun b hb => by cases hb; rfl)) (fun b hb e => by omega)
      have hrow1 := ownsRow_kp hrow (Kp.of_grown (S := fun b => b = w.heap.size) hg1 (fun b hb => by cases hb; rfl)) (fun b hb e => by have := (hrow.lt b hb).1; omega)
      have HX : Hid (∀ k', left' (.string k') = false ↔ (k' = k ∨ left (.string k') = false)) := fun k' => by
        by_cases e : k' = k
        · subst e; simp [hl1]
        · rw [hl2 _ (fun h => e (by injection h))]; simp [e]
      have HLK : Hid (left (.string k) = true) := hlk
      have hs1' : w.heap.size + 1 ≤ w1.heap.size := by rw [hs1]; exact HZ.out
      have HZ1 : Hid _ := hs1'
      have HMK : Hid _ := hmk
      clear hlk hl1 hl2 hmk hs1' hg1 hs1
      go_wp2_with (first
        | (at_builtin; refine wpList_append_own_at _ rfl _ _ 142 rfl (w.heap.size + 1) 9 i0 (.string ⟨#[]⟩) 1 16 Tryz.underlying142 hi hz0 hz1 hz2 rfl (by decide) _ _ _ rfl (hrow1.alloc _) ⟨w1.heap.size, 0, none⟩ 1 1 [.string k] rfl rfl (cell_one_new _ _ _) (by simp [Value.oneCell']) (by have := HC.out; have := HN.out; unfold maxLen; omega) (by have := HC.out; have := HN.out; omega) (by have := HZ1.out; simp; omega) ?_; intro v' w2 hown' hgrow hnil hloc)
        | go_in)
      · have hin : inR f t k = true := by
          rename_i q1 q2
          simp [inR, leB, ltB]; simp at q2; exact q2
        have hlt1 : ∀ b, Value.ownBlock u7 = some b → w.heap.size + 1 ≤ b := fun b hb => (hrow1.lt b hb).1
        have K12 : Kp (fun b => Value.ownBlock u7 = some b) w1 w2 := (Kp.alloc (fun b => Value.ownBlock u7 = some b) w1 _).trans (Kp.of_grown (S := fun b => Value.ownBlock u7 = some b) hgrow (fun _ h => h)) (fun _ _ h => h)
        have hmm := hmoms.lt
        have hr1 := HZ1.out
        have hrg2 : frng w2 Tryz.prog 9 mm w.heap.size s.nm (encS fun k => if s.mom k = [] then none else some (sl k)) left' cnt1 := hrg1.of_block (K12.block mm hrg1.toMap.lt (fun e => by have := hlt1 _ e; omega)) (K12.block _ (by omega) (fun e => by have := hlt1 _ e; omega))
        go_roundw
        case rel =>
          refine ⟨left', cnt1, ks ++ [k], hrg2, hkp1.trans K12 (fun b hb e => by have := hlt1 _ e; omega), by simpa using hown', fun k' => ?_, by have := HC.out; simp; omega, Nat.le_trans HZ1.out K12.size, List.nodup_append.2 ⟨HND.out, by simp, fun a ha b hb => by simp at hb; subst hb; intro e; subst e; have := ((HM.out a).1 ha).2.1; rw [HLK.out] at this; cases this⟩⟩
          rw [List.mem_append, List.mem_singleton, HM.out k', HX.out k']
          constructor
          · rintro (⟨h1, h2, h3⟩ | rfl)
            · exact ⟨h1, Or.inr h2, h3⟩
            · exact ⟨HMK.out, Or.inl rfl, hin⟩
          · rintro ⟨h1, h2 | h2, h3⟩
            · exact Or.inr h2
            · exact Or.inl ⟨h1, h2, h3⟩
        case measure => rw [hrg2.left_eq, hrg.left_eq]; exact hlt
      · have hin : inR f t k = false := by
          rename_i q1 q2
          simp only [inR, leB, ltB, Bool.and_eq_false_iff, Bool.or_eq_false_iff]; exact q2
        go_roundw
        case rel =>
          refine ⟨left', cnt1, ks, hrg1, hkp1, hrow1, fun k' => ?_, by have := HC.out; omega, HZ1.out, HND.out⟩
          rw [HM.out k', HX.out k']
          constructor
          · rintro ⟨h1, h2, h3⟩; exact ⟨h1, Or.inr h2, h3⟩
          · rintro ⟨h1, h2 | h2, h3⟩
            · subst h2; rw [hin] at h3; cases h3
            · exact ⟨h1, h2, h3⟩
        case measure => rw [hrg1.left_eq, hrg.left_eq]; exact hlt
      · have hin : inR f t k = false := by
          rename_i q1
          have : leB f k = false := by simp only [leB, Bool.or_eq_false_iff]; simpa [not_or] using q1
          simp [inR, this]
        go_roundw
        case rel =>
          refine ⟨left', cnt1, ks, hrg1, hkp1, hrow1, fun k' => ?_, by have := HC.out; omega, HZ1.out, HND.out⟩
          rw [HM.out k', HX.out k']
          constructor
          · rintro ⟨h1, h2, h3⟩; exact ⟨h1, Or.inr h2, h3⟩
          · rintro ⟨h1, h2 | h2, h3⟩
            · subst h2; rw [hin] at h3; cases h3
            · exact ⟨h1, h2, h3⟩
        case measure => rw [hrg1.left_eq, hrg.left_eq]; exact hlt

end

end Go.Proofs.YthbdpfccfcceiaaGreatDoor
