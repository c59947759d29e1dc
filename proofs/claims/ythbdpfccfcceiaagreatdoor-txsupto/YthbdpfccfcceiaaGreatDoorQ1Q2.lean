/-
  Slices of texts that are sorted and made one of each: slices.Sort and slices.Compact, told of rows.
  slices.Compact of a sorted slice of texts.
-/
import Derived.Test.YthbdpfccfcceiaaGreatDoorC2L1L2
import Derived.Lib.SlicesCompact
import Derived.Sort.Walk0
namespace Go.Proofs.YthbdpfccfcceiaaGreatDoor
open Go.RowKit Go.Maps Go.Sort

def ofL (l : List UInt8) : ByteArray := ⟨l.toArray⟩
theorem ofL_data (a : ByteArray) : ofL a.data.toList = a := by simp [ofL]
theorem data_ofL (l : List UInt8) : (ofL l).data.toList = l := by simp [ofL]

/-- The order of texts. -/
def blt (a b : ByteArray) : Prop := a.data.toList < b.data.toList

theorem blt_irrefl (a : ByteArray) : ¬ blt a a := List.lt_irrefl _
theorem blt_trans {a b c : ByteArray} (h : blt a b) (h' : blt b c) : blt a c := List.lt_trans h h'
theorem blt_total {a b : ByteArray} (h : a ≠ b) : blt a b ∨ blt b a := by
  by_cases h1 : blt a b
  · exact Or.inl h1
  · right
    have h2 : b.data.toList ≤ a.data.toList := List.not_lt.1 h1
    rcases List.le_iff_lt_or_eq.1 h2 with h3 | h3
    · exact h3
    · exact absurd (WideShapes.bytes_inj h3).symm h

section
variable {w : World} {base : Nat} {v : Value}

theorem row_form {e n : Nat} {xs : List Value} (h : w.ownsRow base e 1 v n xs) : ∃ a cap, v = .slice a n cap ∧ n ≤ cap ∨ (v = .slice none 0 0 ∧ n = 0) := by
  rcases h.2 with ⟨rfl, rfl⟩ | ⟨g, cap, cur, rfl, _, _, hn, _⟩
  · exact ⟨none, 0, Or.inr ⟨rfl, rfl⟩⟩
  · exact ⟨_, cap, Or.inl ⟨rfl, hn⟩⟩

theorem putCells_take (cur : Array Value) (d : List (List UInt8)) (n : Nat) (hn : d.length = n) (hc : n ≤ cur.size) : (putCells encStr 0 d.toArray cur).toList.take n = d.map encStr := by
  apply List.ext_getElem?
  intro i
  rw [List.getElem?_take]
  by_cases hi : i < n
  · rw [if_pos hi, Array.getElem?_toList]
    simp only [putCells, Array.getElem?_mapIdx]
    rw [Array.getElem?_eq_getElem (by omega), List.getElem?_map, List.getElem?_eq_getElem (by omega)]
    simp [hn, hi]
  · rw [if_neg hi, List.getElem?_map, List.getElem?_eq_none (by omega)]; rfl

theorem heap_putRow {W : World} {g : Nat} {cur : Array Value} {e : TypeId} {fz : Nat × Nat} (h : W.heap[g]? = some (.cells cur e fz)) (d : Array (List UInt8)) : (putRow encStr W g 0 d).heap[g]? = some (.cells (putCells encStr 0 d cur) e fz) := by
  simp [putRow, mapBlock, Array.getElem?_modify, h, onCells]

theorem heap_putRow_other {W : World} {g b : Nat} (h : b ≠ g) (d : Array (List UInt8)) : (putRow encStr W g 0 d).heap[b]? = W.heap[b]? := by
  simp [putRow, mapBlock, Array.getElem?_modify, Ne.symm h]

theorem heap_grow {W : World} (os : Array Obj) {b : Nat} (h : b < W.heap.size) : (grow W os).heap[b]? = W.heap[b]? := by
  simp [grow, Array.getElem?_append, h]

theorem kp_sorted (w : World) (n g : Nat) (d : Array (List UInt8)) (os : Array Obj) : Kp (fun b => b = g) w (grow (putRow encStr (Sort.ahead w n) g 0 d) os) := by
  refine ⟨rfl, rfl, rfl, by simp [grow, putRow, mapBlock, Sort.ahead], fun b hb hne => ?_⟩
  rw [heap_grow os (by simpa [putRow, mapBlock, Sort.ahead] using hb), heap_putRow_other hne]; rfl

theorem holds_row {ks : List ByteArray} {g cap : Nat} {cur : Array Value} {e : TypeId} (hg : w.heap[g]? = some (.cells cur e (0, 0))) (_hcs : cur.size = cap) (_hn : ks.length ≤ cap) (ht : cur.toList.take ks.length = ks.map Value.string) : Holds encStr w g 0 (ks.map (·.data.toList)).toArray := by
  intro j hj
  simp at hj
  refine ⟨?_, by simp [World.frozen?, hg]⟩
  rw [Nat.zero_add, cell_of hg, ← Array.getElem?_toList]
  have h1 : (cur.toList.take ks.length)[j]? = (ks.map Value.string)[j]? := by rw [ht]
  rw [List.getElem?_take, if_pos hj, List.getElem?_map, List.getElem?_eq_getElem hj] at h1
  rw [h1]
  simp [encStr, hj]

theorem row_after {ks ks' : List ByteArray} {g cap : Nat} {cur : Array Value} {W : World} (hg : W.heap[g]? = some (.cells cur 9 (0, 0))) (hb : base ≤ g) (hcs : cur.size = cap) (hm : cap ≤ maxLen) (hn : ks.length ≤ cap) (hl : ks'.length ≤ ks.length)
    {ds : List (List UInt8)} (hd : ds.length = ks.length) (hks : ds.take ks'.length = ks'.map (·.data.toList)) (hlt : g < W.heap.size) (os : Array Obj) :
    (grow (putRow encStr W g 0 ds.toArray) os).ownsRow base 9 1 (.slice (some ⟨g, 0, none⟩) ks'.length cap) ks'.length (ks'.map Value.string) := by
  refine ⟨by simp, Or.inr ⟨g, cap, putCells encStr 0 ds.toArray cur, rfl, hb, ?_, by omega, hm, by simp [putCells, hcs], ?_⟩⟩
  · rw [heap_grow os (by simpa [putRow, mapBlock] using hlt), heap_putRow hg]
  · have h1 := putCells_take cur ds ks.length hd (by omega)
    have h2 : (putCells encStr 0 ds.toArray cur).toList.take ks'.length = (ds.map encStr).take ks'.length := by
      rw [← h1, List.take_take, Nat.min_eq_left hl]
    rw [Nat.mul_one, h2, ← List.map_take, hks, List.map_map]
    apply List.map_congr_left
    intro a _
    simp [encStr]

theorem sort_row {ks : List ByteArray} (h : w.ownsRow base 9 1 v ks.length (ks.map Value.string)) (hl : ks.length < 1000000) :
    Calls Tryz.prog 133 #[v] w fun e w' => e = .returned (.tuple #[]) ∧ ∃ ks' : List ByteArray, ks'.Perm ks ∧ ks'.Pairwise (fun a b => a.data.toList ≤ b.data.toList) ∧ w'.ownsRow base 9 1 v ks'.length (ks'.map Value.string) ∧ Kp (fun b => v.ownBlock = some b) w w' := by
  rcases h.2 with ⟨rfl, h0⟩ | ⟨g, cap, cur, rfl, hb, hg, hn, hm, hcs, ht⟩
  · refine (Tryz.slices_Sort_string_none none 0 w).mono ?_
    rintro e w' ⟨rfl, rfl⟩
    exact ⟨rfl, ks, List.Perm.refl _, by rw [List.eq_nil_of_length_eq_zero h0]; exact List.Pairwise.nil, h, Kp.refl _ _⟩
  · rw [Nat.mul_one] at ht hcs
    have hH := holds_row (w := w) (ks := ks) hg hcs hn ht
    have hc := Tryz.slices_Sort_string g 0 cap (ks.map (·.data.toList)) w hH (block_lt hg) (by simpa using (by omega : ks.length < 4611686018427387904))
    rw [List.length_map] at hc
    refine hc.mono ?_
    rintro e w' ⟨rfl, n, os, rfl⟩
    have hp : ((ks.map (·.data.toList)).mergeSort fun x y => decide (x ≤ y)).Perm (ks.map (·.data.toList)) := List.mergeSort_perm _ _
    have hlen : ((ks.map (·.data.toList)).mergeSort fun x y => decide (x ≤ y)).length = ks.length := by rw [hp.length_eq]; simp
    refine ⟨rfl, ((ks.map (·.data.toList)).mergeSort fun x y => decide (x ≤ y)).map ofL, ?_, ?_, ?_, ?_⟩
    · have := hp.map ofL
      rw [List.map_map] at this
      simpa [Function.comp_def, ofL_data] using this
    · rw [List.pairwise_map]
      have hs := List.pairwise_mergeSort (le := fun x y : List UInt8 => decide (x ≤ y)) (fun a b c h1 h2 => by simp at h1 h2 ⊢; exact List.le_trans h1 h2) (fun a b => by simp; exact List.le_total a b) (ks.map (·.data.toList))
      exact hs.imp (fun h => by rw [data_ofL, data_ofL]; simpa using h)
    · have := row_after (W := Sort.ahead w n) (ks := ks) (ks' := ((ks.map (·.data.toList)).mergeSort fun x y => decide (x ≤ y)).map ofL) (ds := (ks.map (·.data.toList)).mergeSort fun x y => decide (x ≤ y)) (base := base) hg hb hcs hm hn (by simp) hlen (by rw [List.length_map, List.take_of_length_le (by simp), List.map_map]; simp [Function.comp_def, data_ofL]) (block_lt hg) os
      simpa using this
    · exact (kp_sorted w n g _ os).mono (fun b _ hb => by simp [Value.ownBlock, hb])

end

theorem frng.iter {w : World} {P : Program} {k : TypeId} {b r n cnt : Nat} {f : Value → Option Value} {left : Value → Bool} (h : frng w P k b r n f left cnt) : ∃ m s e l, w.heap[r]? = some (.mapIter m s e l) := by
  obtain ⟨D, lf, ⟨es, clock, since, seen, c0, _, _, _, _, h5, _⟩, _⟩ := h
  exact ⟨_, _, _, _, h5⟩

theorem encS_inv2 {g : ByteArray → Option (ByteArray × Bool)} {k : ByteArray} {v : Value} (h : encS (fun k => (g k).map encVer) (.string k) = some v) : ∃ x y, g k = some (x, y) ∧ v = .agg #[.string x, .bool y] := by
  rw [encS_at] at h
  cases e : g k with
  | none => rw [e] at h; cases h
  | some q => rw [e] at h; cases h; exact ⟨q.1, q.2, rfl, rfl⟩


end Go.Proofs.YthbdpfccfcceiaaGreatDoor

namespace Go.Proofs.YthbdpfccfcceiaaGreatDoor
open Go.RowKit Go.Maps Go.Sort Go.Lib

theorem comp_spec (d : Array (List UInt8)) (hs : ∀ i j, i ≤ j → j < d.size → d[i]! ≤ d[j]!) : ∀ m, m ≤ d.size → (compactUpTo d m).Pairwise (· < ·) ∧ ∀ x, x ∈ compactUpTo d m ↔ ∃ j, j < m ∧ d[j]! = x := by
  intro m
  induction m with
  | zero => intro _; exact ⟨by simp [compactUpTo], fun x => by simp [compactUpTo]⟩
  | succ m ih =>
    intro hm
    obtain ⟨h1, h2⟩ := ih (by omega)
    rw [compactUpTo_succ]
    by_cases hk : keeps d m = true
    · rw [if_pos hk]
      constructor
      · rw [List.pairwise_append]
        refine ⟨h1, by simp, fun x hx y hy => ?_⟩
        simp at hy; subst hy
        obtain ⟨j, hj, rfl⟩ := (h2 x).1 hx
        have hle := hs j m (by omega) (by omega)
        rcases List.le_iff_lt_or_eq.1 hle with h | h
        · exact h
        · exfalso
          have h3 := hs j (m - 1) (by omega) (by omega)
          have h4 := hs (m - 1) m (by omega) (by omega)
          have h5 : d[m - 1]! = d[m]! := List.le_antisymm h4 (h ▸ h3)
          have : keeps d m = false := keeps_neg (by omega) h5.symm
          rw [this] at hk; cases hk
      · intro x
        rw [List.mem_append, h2, List.mem_singleton]
        constructor
        · rintro (⟨j, hj, rfl⟩ | rfl)
          · exact ⟨j, by omega, rfl⟩
          · exact ⟨m, by omega, rfl⟩
        · rintro ⟨j, hj, rfl⟩
          by_cases e : j = m
          · subst e; exact Or.inr rfl
          · exact Or.inl ⟨j, by omega, rfl⟩
    · rw [if_neg hk, List.append_nil]
      refine ⟨h1, fun x => ?_⟩
      rw [h2]
      constructor
      · rintro ⟨j, hj, rfl⟩; exact ⟨j, by omega, rfl⟩
      · rintro ⟨j, hj, rfl⟩
        by_cases e : j = m
        · subst e
          have hne : ¬ (d[j]! ≠ d[j - 1]!) := fun h => hk (keeps_pos h)
          have hj0 : 0 < j := by
            rcases Nat.eq_zero_or_pos j with h | h
            · subst h; exact absurd (keeps_lt_one d 0 (by omega)) hk
            · exact h
          exact ⟨j - 1, by omega, (Classical.not_not.1 hne).symm⟩
        · exact ⟨j, by omega, rfl⟩

theorem getBang_map (ks : List ByteArray) (j : Nat) (h : j < ks.length) : (ks.map (·.data.toList)).toArray[j]! = (ks[j]).data.toList := by
  rw [getElem!_pos _ j (by simpa using h)]; simp

section
variable {w : World} {base : Nat} {v : Value}

theorem compact_row {ks : List ByteArray} (h : w.ownsRow base 9 1 v ks.length (ks.map Value.string)) (hl : ks.length < 1000000) (hs : ks.Pairwise (fun a b => a.data.toList ≤ b.data.toList)) :
    Calls Tryz.prog 200 #[v] w fun e w' => ∃ v', e = .returned v' ∧ ∃ ks' : List ByteArray, (∀ k, k ∈ ks' ↔ k ∈ ks) ∧ ks'.Pairwise blt ∧ ks'.length ≤ ks.length ∧ w'.ownsRow base 9 1 v' ks'.length (ks'.map Value.string) ∧ v'.ownBlock = v.ownBlock ∧ Kp (fun b => v.ownBlock = some b) w w' := by
  rcases h.2 with ⟨rfl, h0⟩ | ⟨g, cap, cur, rfl, hb, hg, hn, hm, hcs, ht⟩
  · refine (Tryz.slices_Compact_string_empty none 0 w).mono ?_
    rintro e w' ⟨rfl, rfl⟩
    have hk := List.eq_nil_of_length_eq_zero h0
    subst hk
    exact ⟨_, rfl, [], fun k => Iff.rfl, List.Pairwise.nil, Nat.le_refl _, h, rfl, Kp.refl _ _⟩
  · rw [Nat.mul_one] at ht hcs
    have hH := holds_row (w := w) (ks := ks) hg hcs hn ht
    have hc := Tryz.slices_Compact_string g 0 cap (ks.map (·.data.toList)) w hH (by simpa using (by omega : ks.length ≤ 9223372036854775807)) (by simpa using hn)
    rw [List.length_map] at hc
    refine hc.mono ?_
    rintro e w' ⟨rfl, q, rfl⟩
    obtain ⟨p1, p2⟩ := comp_spec (ks.map (·.data.toList)).toArray (fun i j hij hj => by
      simp at hj
      rw [getBang_map ks i (by omega), getBang_map ks j hj]
      by_cases e : i = j
      · subst e; exact List.le_refl _
      · exact (List.pairwise_iff_getElem.1 hs) i j (by omega) hj (by omega)) ks.length (by simp)
    have hcomp : Lib.compact (ks.map (·.data.toList)) = compactUpTo (ks.map (·.data.toList)).toArray ks.length := by simp [Lib.compact]
    have hlen : (Lib.compact (ks.map (·.data.toList))).length ≤ ks.length := by
      rw [hcomp]
      have : (compactUpTo (ks.map (·.data.toList)).toArray ks.length).length ≤ (List.range ks.length).length := by
        unfold compactUpTo; rw [List.length_map]; exact List.length_filter_le _ _
      simpa using this
    refine ⟨_, rfl, (Lib.compact (ks.map (·.data.toList))).map ofL, fun k => ?_, ?_, by simpa using hlen, ?_, rfl, ?_⟩
    · rw [List.mem_map]
      constructor
      · rintro ⟨x, hx, rfl⟩
        rw [hcomp, p2] at hx
        obtain ⟨j, hj, rfl⟩ := hx
        rw [getBang_map ks j hj, ofL_data]; exact List.getElem_mem _
      · intro hk
        obtain ⟨j, hj, rfl⟩ := List.getElem_of_mem hk
        exact ⟨(ks[j]).data.toList, by rw [hcomp, p2]; exact ⟨j, hj, getBang_map ks j hj⟩, ofL_data _⟩
    · rw [List.pairwise_map, hcomp]
      exact p1.imp (fun h => by unfold blt; rw [data_ofL, data_ofL]; exact h)
    · have := row_after (W := Sort.ahead w q) (ks := ks) (ks' := (Lib.compact (ks.map (·.data.toList))).map ofL) (ds := Lib.compact (ks.map (·.data.toList)) ++ List.replicate (ks.length - (Lib.compact (ks.map (·.data.toList))).length) []) (base := base) hg hb hcs hm hn (by simpa using hlen) (by simp; omega)
        (by rw [List.length_map, List.take_left, List.map_map]; simp [Function.comp_def, data_ofL]) (block_lt hg) #[]
      have e0 : ∀ W : World, grow W #[] = W := fun W => by simp [grow]
      rw [e0] at this
      simpa using this
    · have := kp_sorted w q g (Lib.compact (ks.map (fun k : ByteArray => k.data.toList)) ++ List.replicate (ks.length - (Lib.compact (ks.map (fun k : ByteArray => k.data.toList))).length) []).toArray #[]
      have e0 : ∀ W : World, grow W #[] = W := fun W => by simp [grow]
      rw [e0] at this
      exact this.mono (fun b _ hb => by simp [Value.ownBlock, hb])

end

end Go.Proofs.YthbdpfccfcceiaaGreatDoor
