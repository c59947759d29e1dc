/-
  Slices of texts that are sorted and made one of each: slices.Sort and slices.Compact, told of rows.
  How many entries a map has: as many as keys that it tells.
-/
import Derived.Test.YthbdpfccfcceiaaGreatDoorL1L2
import Derived.Lib.SlicesCompact
import Derived.Sort.Walk0
import Derived.Test.YthbdpfccfcceiaaGreatDoorD5S1
namespace Go.Proofs.YthbdpfccfcceiaaGreatDoor
open Go.RowKit Go.Maps Go.Sort

def ofL (l : List UInt8) : ByteArray := ⟨l.toArray⟩
theorem ofL_data (a : ByteArray) : ofL a.data.toList = a := by simp [ofL]
theorem data_ofL (l : List UInt8) : (ofL l).data.toList = l := by simp [ofL]

/-- The order of texts. -/
def blt (a b : ByteArray) : Prop := a.data.toList < b.data.toList

theorem blt_irrefl (a : ByteArray) : ¬ blt a a := List.lt_irrefl _
theorem blt_trans {a b c : ByteArray} (h : blt a b) (h' : blt b c) : blt a c := List.lt_trans h h'
theorem blt_total {a b : ByteArray} (h : a ≠ b) : blt a b ∨ blt b a := by
  by_cases h1 : blt a b
  · exact Or.inl h1
  · right
    have h2 : b.data.toList ≤ a.data.toList := List.not_lt.1 h1
    rcases List.le_iff_lt_or_eq.1 h2 with h3 | h3
    · exact h3
    · exact absurd (WideShapes.bytes_inj h3).symm h

section
variable {w : World} {base : Nat} {v : Value}

theorem row_form {e n : Nat} {xs : List Value} (h : w.ownsRow base e 1 v n xs) : ∃ a cap, v = .slice a n cap ∧ n ≤ cap ∨ (v = .slice none 0 0 ∧ n = 0) := by
  rcases h.2 with ⟨rfl, rfl⟩ | ⟨g, cap, cur, rfl, _, _, hn, _⟩
  · exact ⟨none, 0, Or.inr ⟨rfl, rfl⟩⟩
  · exact ⟨_, cap, Or.inl ⟨rfl, hn⟩⟩

theorem putCells_take (cur : Array Value) (d : List (List UInt8)) (n : Nat) (hn : d.length = n) (hc : n ≤ cur.size) : (putCells encStr 0 d.toArray cur).toList.take n = d.map encStr := by
  apply List.ext_getElem?
  intro i
  rw [List.getElem?_take]
  by_cases hi : i < n
  · rw [if_pos hi, Array.getElem?_toList]
    simp only [putCells, Array.getElem?_mapIdx]
    rw [Array.getElem?_eq_getElem (by omega), List.getElem?_map, List.getElem?_eq_getElem (by omega)]
    simp [hn, hi]
  · rw [if_neg hi, List.getElem?_map, List.getElem?_eq_none (by omega)]; rfl

theorem heap_putRow {W : World} {g : Nat} {cur : Array Value} {e : TypeId} {fz : Nat × Nat} (h : W.heap[g]? = some (.cells cur e fz)) (d : Array (List UInt8)) : (putRow encStr W g 0 d).heap[g]? = some (.cells (putCells encStr 0 d cur) e fz) := by
  simp [putRow, mapBlock, Array.getElem?_modify, h, onCells]

theorem heap_putRow_other {W : World} {g b : Nat} (h : b ≠ g) (d : Array (List UInt8)) : (putRow encStr W g 0 d).heap[b]? = W.heap[b]? := by
  simp [putRow, mapBlock, Array.getElem?_modify, Ne.symm h]

theorem heap_grow {W : World} (os : Array Obj) {b : Nat} (h : b < W.heap.size) : (grow W os).heap[b]? = W.heap[b]? := by
  simp [grow, Array.getElem?_append, h]

theorem kp_sorted (w : World) (n g : Nat) (d : Array (List UInt8)) (os : Array Obj) : Kp (fun b => b = g) w (grow (putRow encStr (Sort.ahead w n) g 0 d) os) := by
  refine ⟨rfl, rfl, rfl, by simp [grow, putRow, mapBlock, Sort.ahead], fun b hb hne => ?_⟩
  rw [heap_grow os (by simpa [putRow, mapBlock, Sort.ahead] using hb), heap_putRow_other hne]; rfl

theorem holds_row {ks : List ByteArray} {g cap : Nat} {cur : Array Value} {e : TypeId} (hg : w.heap[g]? = some (.cells cur e (0, 0))) (_hcs : cur.size = cap) (_hn : ks.length ≤ cap) (ht : cur.toList.take ks.length = ks.map Value.string) : Holds encStr w g 0 (ks.map (·.data.toList)).toArray := by
  intro j hj
  simp at hj
  refine ⟨?_, by simp [World.frozen?, hg]⟩
  rw [Nat.zero_add, cell_of hg, ← Array.getElem?_toList]
  have h1 : (cur.toList.take ks.length)[j]? = (ks.map Value.string)[j]? := by rw [ht]
  rw [List.getElem?_take, if_pos hj, List.getElem?_map, List.getElem?_eq_getElem hj] at h1
  rw [h1]
  simp [encStr, hj]

theorem row_after {ks ks' : List ByteArray} {g cap : Nat} {cur : Array Value} {W : World} (hg : W.heap[g]? = some (.cells cur 9 (0, 0))) (hb : base ≤ g) (hcs : cur.size = cap) (hm : cap ≤ maxLen) (hn : ks.length ≤ cap) (hl : ks'.length ≤ ks.length)
    {ds : List (List UInt8)} (hd : ds.length = ks.length) (hks : ds.take ks'.length = ks'.map (·.data.toList)) (hlt : g < W.heap.size) (os : Array Obj) :
    (grow (putRow encStr W g 0 ds.toArray) os).ownsRow base 9 1 (.slice (some ⟨g, 0, none⟩) ks'.length cap) ks'.length (ks'.map Value.string) := by
  refine ⟨by simp, Or.inr ⟨g, cap, putCells encStr 0 ds.toArray cur, rfl, hb, ?_, by omega, hm, by simp [putCells, hcs], ?_⟩⟩
  · rw [heap_grow os (by simpa [putRow, mapBlock] using hlt), heap_putRow hg]
  · have h1 := putCells_take cur ds ks.length hd (by omega)
    have h2 : (putCells encStr 0 ds.toArray cur).toList.take ks'.length = (ds.map encStr).take ks'.length := by
      rw [← h1, List.take_take, Nat.min_eq_left hl]
    rw [Nat.mul_one, h2, ← List.map_take, hks, List.map_map]
    apply List.map_congr_left
    intro a _
    simp [encStr]

theorem sort_row {ks : List ByteArray} (h : w.ownsRow base 9 1 v ks.length (ks.map Value.string)) (hl : ks.length < 1000000) :
    Calls Tryz.prog 133 #[v] w fun e w' => e = .returned (.tuple #[]) ∧ ∃ ks' : List ByteArray, ks'.Perm ks ∧ ks'.Pairwise (fun a b => a.data.toList ≤ b.data.toList) ∧ w'.ownsRow base 9 1 v ks'.length (ks'.map Value.string) ∧ Kp (fun b => v.ownBlock = some b) w w' := by
  rcases h.2 with ⟨rfl, h0⟩ | ⟨g, cap, cur, rfl, hb, hg, hn, hm, hcs, ht⟩
  · refine (Tryz.slices_Sort_string_none none 0 w).mono ?_
    rintro e w' ⟨rfl, rfl⟩
    exact ⟨rfl, ks, List.Perm.refl _, by rw [List.eq_nil_of_length_eq_zero h0]; exact List.Pairwise.nil, h, Kp.refl _ _⟩
  · rw [Nat.mul_one] at ht hcs
    have hH := holds_row (w := w) (ks := ks) hg hcs hn ht
    have hc := Tryz.slices_Sort_string g 0 cap (ks.map (·.data.toList)) w hH (block_lt hg) (by simpa using (by omega : ks.length < 4611686018427387904))
    rw [List.length_map] at hc
    refine hc.mono ?_
    rintro e w' ⟨rfl, n, os, rfl⟩
    have hp : ((ks.map (·.data.toList)).mergeSort fun x y => decide (x ≤ y)).Perm (ks.map (·.data.toList)) := List.mergeSort_perm _ _
    have hlen : ((ks.map (·.data.toList)).mergeSort fun x y => decide (x ≤ y)).length = ks.length := by rw [hp.length_eq]; simp
    refine ⟨rfl, ((ks.map (·.data.toList)).mergeSort fun x y => decide (x ≤ y)).map ofL, ?_, ?_, ?_, ?_⟩
    · have := hp.map ofL
      rw [List.map_map] at this
      simpa [Function.comp_def, ofL_data] using this
    · rw [List.pairwise_map]
      have hs := List.pairwise_mergeSort (le := fun x y : List UInt8 => decide (x ≤ y)) (fun a b c h1 h2 => by simp at h1 h2 ⊢; exact List.le_trans h1 h2) (fun a b => by simp; exact List.le_total a b) (ks.map (·.data.toList))
      exact hs.imp (fun h => by rw [data_ofL, data_ofL]; simpa using h)
    · have := row_after (W := Sort.ahead w n) (ks := ks) (ks' := ((ks.map (·.data.toList)).mergeSort fun x y => decide (x ≤ y)).map ofL) (ds := (ks.map (·.data.toList)).mergeSort fun x y => decide (x ≤ y)) (base := base) hg hb hcs hm hn (by simp) hlen (by rw [List.length_map, List.take_of_length_le (by simp), List.map_map]; simp [Function.comp_def, data_ofL]) (block_lt hg) os
      simpa using this
    · exact (kp_sorted w n g _ os).mono (fun b _ hb => by simp [Value.ownBlock, hb])

end

theorem frng.iter {w : World} {P : Program} {k : TypeId} {b r n cnt : Nat} {f : Value → Option Value} {left : Value → Bool} (h : frng w P k b r n f left cnt) : ∃ m s e l, w.heap[r]? = some (.mapIter m s e l) := by
  obtain ⟨D, lf, ⟨es, clock, since, seen, c0, _, _, _, _, h5, _⟩, _⟩ := h
  exact ⟨_, _, _, _, h5⟩

theorem encS_inv2 {g : ByteArray → Option (ByteArray × Bool)} {k : ByteArray} {v : Value} (h : encS (fun k => (g k).map encVer) (.string k) = some v) : ∃ x y, g k = some (x, y) ∧ v = .agg #[.string x, .bool y] := by
  rw [encS_at] at h
  cases e : g k with
  | none => rw [e] at h; cases h
  | some q => rw [e] at h; cases h; exact ⟨q.1, q.2, rfl, rfl⟩


end Go.Proofs.YthbdpfccfcceiaaGreatDoor

namespace Go.Proofs.YthbdpfccfcceiaaGreatDoor
open Go.RowKit Go.Maps

section
variable {P : Program} {k : TypeId} {w : World} {b n : Nat} {f : Value → Option Value}

theorem ownsMap_from {D : DataW Value} {R : Value → Option (DataW Value × List MemPlace)} (h : w.ownsMap P k R b n D) {es : List (Lit × DataW Value)} (e : D = .map es) : ∀ p ∈ es, ∃ x, keyOf P k x = some p.1 := by
  obtain ⟨es0, clock, _, F, _, hD⟩ := h
  intro p hp
  rw [hD] at e
  injection e with e
  subst e
  obtain ⟨x, hx, rfl⟩ := List.mem_map.1 (mem_sorted.1 hp)
  obtain ⟨y, hy⟩ := F.reads x hx
  exact ⟨x.key, by rw [WideElems.rg_of hy]; exact WideElems.rd_key hy⟩

theorem fmap.card (h : fmap w P k b n f) (K : Keyed P k) (L : List Value) (hn : L.Nodup) (hL : ∀ x, x ∈ L ↔ (f x).isSome = true) : n = L.length := by
  obtain ⟨D, hO, hs, hf⟩ := h
  obtain ⟨es, eD, hp⟩ := hO.tidy K
  have hfrom := ownsMap_from hO eD
  rw [← hs, eD]
  show es.length = L.length
  have key : ∀ x ∈ L, ∃ l, keyOf P k x = some l := fun x hx => hf.key x ((hL x).1 hx)
  have h1 : (L.map fun x => keyOf P k x).Nodup := by
    unfold List.Nodup
    rw [List.pairwise_map]
    refine List.Pairwise.imp_of_mem (fun {a b} ha hb hne e => ?_) hn
    obtain ⟨l, hl⟩ := key a ha
    exact hne (K.inj hl (e ▸ hl))
  have h2 : (es.map fun p => some p.1).Nodup := by
    unfold List.Nodup
    rw [List.pairwise_map]
    exact hp.imp (fun hne e => hne (by injection e))
  have hperm : (L.map fun x => keyOf P k x).Perm (es.map fun p => some p.1) := by
    rw [List.perm_ext_iff_of_nodup h1 h2]
    intro a
    rw [List.mem_map, List.mem_map]
    constructor
    · rintro ⟨x, hx, rfl⟩
      obtain ⟨l, hl⟩ := key x hx
      have hh := hf.has x l hl
      rw [(hL x).1 hx, eD, has_eq] at hh
      obtain ⟨p, hp, hsk⟩ := List.any_eq_true.1 hh
      exact ⟨p, hp, by rw [hl, WideAt.sameKey_eq hsk]⟩
    · rintro ⟨p, hp, rfl⟩
      obtain ⟨x, hx⟩ := hfrom p hp
      refine ⟨x, ?_, hx⟩
      rw [hL, ← hf.has x p.1 hx, eD, has_eq, List.any_eq_true]
      exact ⟨p, hp, WideAt.sameKey_self (K.key hx)⟩
  have := hperm.length_eq
  simpa using this.symm

end

theorem encP_some {g : ByteArray → Int → Option (ByteArray × Bool)} {x : Value} : (encP (fun k m => (g k m).map encVer) x).isSome = true ↔ ∃ k m, x = .agg #[.string k, .int .i64 m] ∧ (g k m).isSome = true := by
  constructor
  · intro h
    unfold encP at h
    split at h
    · rename_i cs
      split at h
      · rename_i s n hcs
        refine ⟨s, n, ?_, by simpa using h⟩
        have : cs = #[.string s, .int .i64 n] := by apply Array.toList_inj.1; simpa using hcs
        rw [this]
      · cases h
    · cases h
  · rintro ⟨k, m, rfl, h⟩
    rw [encP_at]
    simpa using h

section
variable {own : Nat → Lab} {c : Nat} {w : World} {p : Nat} {s : XS} {mo ph mv mm : Nat} {pt mw : Int → Nat} {sl : ByteArray → Value}

/-- How many versions a store has. -/
theorem XR.nv_eq (h : XR own c w p s mo ph mv mm pt mw sl) (hK : Keyed Tryz.prog 225) (hup : ∀ k, (s.mom k).Pairwise (· < ·)) (hver : ∀ k m, (s.ver k m).isSome = true ↔ m ∈ s.mom k) (ks : List ByteArray) (hn : ks.Nodup) (hks : ∀ k, s.mom k ≠ [] → k ∈ ks) :
    s.nv = (ks.map fun k => (s.mom k).length).sum := by
  have := h.vers.card hK (ks.flatMap fun k => (s.mom k).map fun m => Value.agg #[.string k, .int .i64 m]) ?_ ?_
  · rw [this, List.length_flatMap]
    simp
  · unfold List.Nodup
    rw [List.pairwise_flatMap]
    refine ⟨fun k _ => ?_, ?_⟩
    · rw [List.pairwise_map]
      exact (hup k).imp (fun hlt e => by injection e with e; injection e with e; injection e with _ e; injection e with e _; injection e with _ e; omega)
    · refine hn.imp (fun {a b} hne x hx y hy e => ?_)
      obtain ⟨m, _, rfl⟩ := List.mem_map.1 hx
      obtain ⟨m', _, rfl⟩ := List.mem_map.1 hy
      injection e with e; injection e with e; injection e with e _; injection e with e
      exact hne e
  · intro x
    rw [encP_some, List.mem_flatMap]
    constructor
    · rintro ⟨k, _, hx⟩
      obtain ⟨m, hm, rfl⟩ := List.mem_map.1 hx
      exact ⟨k, m, rfl, (hver k m).2 hm⟩
    · rintro ⟨k, m, rfl, hx⟩
      have hm := (hver k m).1 hx
      exact ⟨k, hks k (fun e => by rw [e] at hm; cases hm), List.mem_map.2 ⟨m, hm, rfl⟩⟩

end

end Go.Proofs.YthbdpfccfcceiaaGreatDoor
