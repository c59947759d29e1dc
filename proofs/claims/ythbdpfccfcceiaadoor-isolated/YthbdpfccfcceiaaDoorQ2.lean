/-
  slices.Compact of a sorted slice of texts.
-/
import Derived.Test.YthbdpfccfcceiaaDoorQ1
namespace Go.Proofs.YthbdpfccfcceiaaDoor
open Go.RowKit Go.Maps Go.Sort Go.Lib

theorem comp_spec (d : Array (List UInt8)) (hs : ∀ i j, i ≤ j → j < d.size → d[i]! ≤ d[j]!) : ∀ m, m ≤ d.size → (compactUpTo d m).Pairwise (· < ·) ∧ ∀ x, x ∈ compactUpTo d m ↔ ∃ j, j < m ∧ d[j]! = x := by
  intro m
  induction m with
  | zero => intro _; exact ⟨by simp [compactUpTo], fun x => by simp [compactUpTo]⟩
  | succ m ih =>
    intro hm
    obtain ⟨h1, h2⟩ := ih (by omega)
    rw [compactUpTo_succ]
    by_cases hk : keeps d m = true
    · rw [if_pos hk]
      constructor
      · rw [List.pairwise_append]
        refine ⟨h1, by simp, fun x hx y hy => ?_⟩
        simp at hy; subst hy
        obtain ⟨j, hj, rfl⟩ := (h2 x).1 hx
        have hle := hs j m (by omega) (by omega)
        rcases List.le_iff_lt_or_eq.1 hle with h | h
        · exact h
        · exfalso
          have h3 := hs j (m - 1) (by omega) (by omega)
          have h4 := hs (m - 1) m (by omega) (by omega)
          have h5 : d[m - 1]! = d[m]! := List.le_antisymm h4 (h ▸ h3)
          have : keeps d m = false := keeps_neg (by omega) h5.symm
          rw [this] at hk; cases hk
      · intro x
        rw [List.mem_append, h2, List.mem_singleton]
        constructor
        · rintro (⟨j, hj, rfl⟩ | rfl)
          · exact ⟨j, by omega, rfl⟩
          · exact ⟨m, by omega, rfl⟩
        · rintro ⟨j, hj, rfl⟩
          by_cases e : j = m
          · subst e; exact Or.inr rfl
          · exact Or.inl ⟨j, by omega, rfl⟩
    · rw [if_neg hk, List.append_nil]
      refine ⟨h1, fun x => ?_⟩
      rw [h2]
      constructor
      · rintro ⟨j, hj, rfl⟩; exact ⟨j, by omega, rfl⟩
      · rintro ⟨j, hj, rfl⟩
        by_cases e : j = m
        · subst e
          have hne : ¬ (d[j]! ≠ d[j - 1]!) := fun h => hk (keeps_pos h)
          have hj0 : 0 < j := by
            rcases Nat.eq_zero_or_pos j with h | h
            · subst h; exact absurd (keeps_lt_one d 0 (by omega)) hk
            · exact h
          exact ⟨j - 1, by omega, (Classical.not_not.1 hne).symm⟩
        · exact ⟨j, by omega, rfl⟩

theorem getBang_map (ks : List ByteArray) (j : Nat) (h : j < ks.length) : (ks.map (·.data.toList)).toArray[j]! = (ks[j]).data.toList := by
  rw [getElem!_pos _ j (by simpa using h)]; simp

section
variable {w : World} {base : Nat} {v : Value}

theorem compact_row {ks : List ByteArray} (h : w.ownsRow base 9 1 v ks.length (ks.map Value.string)) (hl : ks.length < 1000000) (hs : ks.Pairwise (fun a b => a.data.toList ≤ b.data.toList)) :
    Calls Tryd.prog 47 #[v] w fun e w' => ∃ v', e = .returned v' ∧ ∃ ks' : List ByteArray, (∀ k, k ∈ ks' ↔ k ∈ ks) ∧ ks'.Pairwise blt ∧ ks'.length ≤ ks.length ∧ w'.ownsRow base 9 1 v' ks'.length (ks'.map Value.string) ∧ v'.ownBlock = v.ownBlock ∧ Kp (fun b => v.ownBlock = some b) w w' := by
  rcases h.2 with ⟨rfl, h0⟩ | ⟨g, cap, cur, rfl, hb, hg, hn, hm, hcs, ht⟩
  · refine (Tryd.slices_Compact_string_empty none 0 w).mono ?_
    rintro e w' ⟨rfl, rfl⟩
    have hk := List.eq_nil_of_length_eq_zero h0
    subst hk
    exact ⟨_, rfl, [], fun k => Iff.rfl, List.Pairwise.nil, Nat.le_refl _, h, rfl, Kp.refl _ _⟩
  · rw [Nat.mul_one] at ht hcs
    have hH := holds_row (w := w) (ks := ks) hg hcs hn ht
    have hc := Tryd.slices_Compact_string g 0 cap (ks.map (·.data.toList)) w hH (by simpa using (by omega : ks.length ≤ 9223372036854775807)) (by simpa using hn)
    rw [List.length_map] at hc
    refine hc.mono ?_
    rintro e w' ⟨rfl, q, rfl⟩
    obtain ⟨p1, p2⟩ := comp_spec (ks.map (·.data.toList)).toArray (fun i j hij hj => by
      simp at hj
      rw [getBang_map ks i (by omega), getBang_map ks j hj]
      by_cases e : i = j
      · subst e; exact List.le_refl _
      · exact (List.pairwise_iff_getElem.1 hs) i j (by omega) hj (by omega)) ks.length (by simp)
    have hcomp : Lib.compact (ks.map (·.data.toList)) = compactUpTo (ks.map (·.data.toList)).toArray ks.length := by simp [Lib.compact]
    have hlen : (Lib.compact (ks.map (·.data.toList))).length ≤ ks.length := by
      rw [hcomp]
      have : (compactUpTo (ks.map (·.data.toList)).toArray ks.length).length ≤ (List.range ks.length).length := by
        unfold compactUpTo; rw [List.length_map]; exact List.length_filter_le _ _
      simpa using this
    refine ⟨_, rfl, (Lib.compact (ks.map (·.data.toList))).map ofL, fun k => ?_, ?_, by simpa using hlen, ?_, rfl, ?_⟩
    · rw [List.mem_map]
      constructor
      · rintro ⟨x, hx, rfl⟩
        rw [hcomp, p2] at hx
        obtain ⟨j, hj, rfl⟩ := hx
        rw [getBang_map ks j hj, ofL_data]; exact List.getElem_mem _
      · intro hk
        obtain ⟨j, hj, rfl⟩ := List.getElem_of_mem hk
        exact ⟨(ks[j]).data.toList, by rw [hcomp, p2]; exact ⟨j, hj, getBang_map ks j hj⟩, ofL_data _⟩
    · rw [List.pairwise_map, hcomp]
      exact p1.imp (fun h => by unfold blt; rw [data_ofL, data_ofL]; exact h)
    · have := row_after (W := Sort.ahead w q) (ks := ks) (ks' := (Lib.compact (ks.map (·.data.toList))).map ofL) (ds := Lib.compact (ks.map (·.data.toList)) ++ List.replicate (ks.length - (Lib.compact (ks.map (·.data.toList))).length) []) (base := base) hg hb hcs hm hn (by simpa using hlen) (by simp; omega)
        (by rw [List.length_map, List.take_left, List.map_map]; simp [Function.comp_def, data_ofL]) (block_lt hg) #[]
      have e0 : ∀ W : World, grow W #[] = W := fun W => by simp [grow]
      rw [e0] at this
      simpa using this
    · have := kp_sorted w q g (Lib.compact (ks.map (fun k : ByteArray => k.data.toList)) ++ List.replicate (ks.length - (Lib.compact (ks.map (fun k : ByteArray => k.data.toList))).length) []).toArray #[]
      have e0 : ∀ W : World, grow W #[] = W := fun W => by simp [grow]
      rw [e0] at this
      exact this.mono (fun b _ hb => by simp [Value.ownBlock, hb])

end

end Go.Proofs.YthbdpfccfcceiaaDoor
