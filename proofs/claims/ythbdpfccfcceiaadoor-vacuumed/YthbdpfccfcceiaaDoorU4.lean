/-
  How many versions stand behind a moment, and how many are left when nothing more may go.
-/
import Derived.Test.YthbdpfccfcceiaaDoorU3
namespace Go.Proofs.YthbdpfccfcceiaaDoor
open Go.RowKit

theorem sum_add (a : ByteArray → Nat) (d : Nat) (q : ByteArray → Bool) : ∀ l : List ByteArray, (l.map fun k => a k + if q k = true then d else 0).sum = (l.map a).sum + d * l.countP q
  | [] => by simp
  | k :: r => by
    have ih := sum_add a d q r
    simp only [List.map_cons, List.sum_cons, ih]
    cases h : q k
    · rw [List.countP_cons_of_neg (by simp [h])]; simp; omega
    · rw [List.countP_cons_of_pos h, Nat.mul_add]; simp; omega

theorem one6 : ∀ K ∈ keys6, keys6.countP (fun k => decide (k = K)) = 1 := by decide +kernel
theorem two6 : ∀ K ∈ keys6, ∀ K' ∈ keys6, K' ≠ K → keys6.countP (fun k => decide (k = K' ∨ k = K)) = 2 := by decide +kernel

theorem act_count (a1 a2 a3 : Int) : keys6.countP (fun k => (actWr a1 a2 a3 k).isSome) = if pk a3 3 = 0 ∧ keyN (a3.tdiv 3) ≠ keyN a1 then 2 else 1 := by
  unfold actWr
  by_cases h3 : pk a3 3 = 0
  · simp only [h3, if_true, true_and]
    by_cases hk : keyN (a3.tdiv 3) = keyN a1
    · rw [if_neg (fun h => h hk), hk, ← one6 (keyN a1) (keyN_mem _)]
      congr 1
      funext k
      by_cases e : k = keyN a1 <;> simp [updS, e]
    · rw [if_pos hk, ← two6 (keyN a1) (keyN_mem _) (keyN (a3.tdiv 3)) (keyN_mem _) hk]
      congr 1
      funext k
      by_cases e : k = keyN (a3.tdiv 3)
      · simp [updS, e]
      · by_cases e' : k = keyN a1
        · subst e'; simp [updS, e]
        · simp [updS, e, e']
  · simp only [h3, if_false, false_and]
    rw [← one6 (keyN a1) (keyN_mem _)]
    congr 1
    funext k
    by_cases e : k = keyN a1 <;> simp [updS, e]

/-- How many versions stand behind a moment. -/
def lateX (s : XS) (h : Int) : Nat := (keys6.map fun k => (s.mom k).countP (fun m => decide (h < m))).sum

theorem lateX_acted (s : XS) (a1 a2 a3 : Int) (nv nm : Nat) (h : Int) : lateX (acted s (actWr a1 a2 a3) nv nm) h = lateX s h + if h < s.now + 1 then (if pk a3 3 = 0 ∧ keyN (a3.tdiv 3) ≠ keyN a1 then 2 else 1) else 0 := by
  unfold lateX
  have e : ∀ k, ((acted s (actWr a1 a2 a3) nv nm).mom k).countP (fun m => decide (h < m)) = (s.mom k).countP (fun m => decide (h < m)) + if (actWr a1 a2 a3 k).isSome = true then (if h < s.now + 1 then 1 else 0) else 0 := fun k => by
    show (if (actWr a1 a2 a3 k).isSome = true then s.mom k ++ [s.now + 1] else s.mom k).countP _ = _
    split
    · rw [List.countP_append]
      by_cases hh : h < s.now + 1
      · rw [if_pos hh]; simp [hh]
      · rw [if_neg hh]; simp [hh]
    · rfl
  simp only [e]
  rw [sum_add, act_count]
  by_cases hh : h < s.now + 1
  · rw [if_pos hh, if_pos hh, Nat.one_mul]
  · rw [if_neg hh, if_neg hh, Nat.zero_mul]

theorem Ran.late {l : List A3} {s : XS} (hr : Ran l s) (h : Int) : ∀ f : Nat → A3, (∀ j, j < l.length → l[j]? = some (f j)) → lateX s h = laterN f h l.length + if h < 1 then 1 else 0 := by
  refine Ran.ind (P := fun l s => ∀ f : Nat → A3, (∀ j, j < l.length → l[j]? = some (f j)) → lateX s h = laterN f h l.length + if h < 1 then 1 else 0) (fun s hF => ?_) (fun l s a nv nm g hr _ ih => ?_) hr
  · intro f _
    unfold lateX
    have e : ∀ k, (s.mom k).countP (fun m => decide (h < m)) = 0 + if decide (k = ka) = true then (if h < 1 then 1 else 0) else 0 := fun k => by
      rw [hF.mom]
      by_cases ek : k = ka
      · rw [if_pos ek]
        by_cases hh : h < 1 <;> simp [ek, hh]
      · rw [if_neg ek]; simp [ek]
    simp only [e]
    rw [sum_add, one6 ka (keyN_mem 0)]
    have : (keys6.map fun _ => 0).sum = 0 := by decide
    rw [this]
    simp [laterN]
  · intro f hf
    have hl : ∀ j, j < l.length → l[j]? = some (f j) := fun j hj => by
      have := hf j (by simp; omega)
      rw [List.getElem?_append_left hj] at this
      exact this
    have ha : f l.length = a := by
      have := hf l.length (by simp)
      rw [List.getElem?_append_right (Nat.le_refl _), Nat.sub_self] at this
      simpa using this.symm
    have hnow := hr.facts.1
    have e0 : lateX (acted { s with log := g } (actWr a.1 a.2.1 a.2.2) nv nm) h = lateX s h + if h < s.now + 1 then (if pk a.2.2 3 = 0 ∧ keyN (a.2.2.tdiv 3) ≠ keyN a.1 then 2 else 1) else 0 := lateX_acted { s with log := g } a.1 a.2.1 a.2.2 nv nm h
    rw [e0, ih f hl, List.length_append]
    show _ = (laterN f h l.length + if h < (l.length : Int) + 2 then (if pk (f l.length).2.2 3 = 0 ∧ keyN ((f l.length).2.2.tdiv 3) ≠ keyN (f l.length).1 then 2 else 1) else 0) + _
    rw [ha, hnow]
    have e : (h < 1 + (l.length : Int) + 1) = (h < (l.length : Int) + 2) := by
      have : (1 : Int) + l.length + 1 = l.length + 2 := by omega
      rw [this]
    simp only [e]
    omega

theorem range_at (f : Nat → A3) (n : Nat) : ∀ j, j < ((List.range n).map f).length → ((List.range n).map f)[j]? = some (f j) := fun j hj => by
  simp at hj
  simp [hj]

theorem count_split (l : List Int) (h : Int) : l.length = l.countP (fun m => decide (h < m)) + l.countP (fun m => decide (m ≤ h)) := by
  induction l with
  | nil => rfl
  | cons a r ih =>
    by_cases ha : h < a
    · rw [List.countP_cons_of_pos (by simpa using ha), List.countP_cons_of_neg (by simp; omega), List.length_cons, ih]; omega
    · rw [List.countP_cons_of_neg (by simpa using ha), List.countP_cons_of_pos (by simp; omega), List.length_cons, ih]; omega

/-- Of a key of which nothing may go there is one version at the most that is not behind the horizon: the one that tells that it is there. -/
theorem spent_zero {s : XS} (ok : XOk s) {k : ByteArray} {h : Int} (h0 : spentX s k h = 0) : (s.mom k).countP (fun m => decide (m ≤ h)) = if (valAt s k h).2 = true then 1 else 0 := by
  have hft := filter_take (s.mom k) h (ok.up k)
  unfold spentX at h0
  unfold valAt
  cases e : ((s.mom k).filter (fun m => decide (m ≤ h))).getLast? with
  | none =>
    have hnil := List.getLast?_eq_none_iff.1 e
    rw [List.countP_eq_length_filter, hnil]
    rfl
  | some m =>
    rw [e] at h0
    have hm : m ∈ s.mom k := (List.mem_filter.1 (List.mem_of_getLast? e)).1
    have hpos : 0 < (s.mom k).countP (fun m => decide (m ≤ h)) := by
      rw [List.countP_eq_length_filter]
      exact List.length_pos_iff.2 (fun h0 => by rw [h0] at e; cases e)
    have hsome := (ok.ver k m).2 hm
    obtain ⟨v, hv⟩ := Option.isSome_iff_exists.1 hsome
    simp only [hv, Option.getD_some] at h0 ⊢
    cases hd : v.2
    · rw [hd] at h0
      simp only [Bool.false_eq_true, if_false] at h0
      simp
      omega
    · rw [hd] at h0
      simp at h0
      have : (s.mom k).countP (fun m => decide (m ≤ h)) = 0 := by
        rw [List.countP_eq_zero]
        intro a ha
        have := h0 a ha
        simp; omega
      omega

theorem pairs6_count (g : ByteArray → ByteArray × Bool) : (pairs6 g).length = (keys6.map fun k => if (g k).2 = true then 1 else 0).sum := by
  unfold pairs6
  rw [filterMap_pairs, List.length_map, ← List.countP_eq_length_filter]
  have := sum_add (fun _ => 0) 1 (fun k => (g k).2) keys6
  simp only [Nat.zero_add, Nat.one_mul] at this
  rw [this]
  have h0 : (keys6.map fun _ => 0).sum = 0 := by decide
  rw [h0, Nat.zero_add]

theorem sum_two (a b : ByteArray → Nat) : ∀ l : List ByteArray, (l.map fun k => a k + b k).sum = (l.map a).sum + (l.map b).sum
  | [] => rfl
  | k :: r => by
    have ih := sum_two a b r
    simp only [List.map_cons, List.sum_cons, ih]
    omega

theorem nv_left {s : XS} (ok : XOk s) (hnv : s.nv = (keys6.map fun k => (s.mom k).length).sum) {h : Int} (h0 : ∀ k, spentX s k h = 0) : s.nv = lateX s h + (pairs6 fun k => valAt s k h).length := by
  rw [hnv, pairs6_count]
  unfold lateX
  rw [← sum_two]
  congr 1
  refine List.map_congr_left (fun k _ => ?_)
  rw [count_split (s.mom k) h, spent_zero ok (h0 k)]

theorem Gone.late {s s' : XS} {h : Int} {c : ByteArray → Nat} (ok : XOk s) (g : Gone s s' h c) : lateX s' h = lateX s h := by
  unfold lateX
  congr 1
  refine List.map_congr_left (fun k _ => ?_)
  rw [g.mom]
  conv => rhs; rw [← List.take_append_drop (c k) (s.mom k)]
  rw [List.countP_append]
  have : ((s.mom k).take (c k)).countP (fun m => decide (h < m)) = 0 := by
    rw [List.countP_eq_zero]
    intro m hm
    have := take_le ok k (g.le k) m hm
    simp; omega
  omega

theorem pairs6_same {g g' : ByteArray → ByteArray × Bool} (h : ∀ k, SameV (g k) (g' k)) : pairs6 g = pairs6 g' := by
  unfold pairs6
  congr 1
  funext k
  obtain ⟨h1, h2⟩ := h k
  unfold pairOf
  cases e : (g k).2
  · rw [← h1, e]; rfl
  · rw [← h1, e, h2 e]

theorem SameV.trans {a b c : ByteArray × Bool} (h : SameV a b) (h' : SameV b c) : SameV a c := ⟨h.1.trans h'.1, fun e => (h.2 e).trans (h'.2 (h.1 ▸ e))⟩
theorem SameV.refl (a : ByteArray × Bool) : SameV a a := ⟨rfl, fun _ => rfl⟩

/-- How many versions the acts make at most. -/
theorem Ran.nv_le {l : List A3} {s : XS} (hr : Ran l s) (ok : XOk s) (f : Nat → A3) (hf : ∀ j, j < l.length → l[j]? = some (f j)) : (keys6.map fun k => (s.mom k).length).sum ≤ 2 * l.length + 1 := by
  have h1 := hr.late (-1) f hf
  have h2 := laterN_le f (-1) l.length
  have h3 : (keys6.map fun k => (s.mom k).length).sum = lateX s (-1) := by
    unfold lateX
    congr 1
    refine List.map_congr_left (fun k _ => ?_)
    rw [eq_comm, List.countP_eq_length]
    intro m hm
    have := ok.mom k m hm
    simp; omega
  rw [h3, h1]
  simp
  omega

end Go.Proofs.YthbdpfccfcceiaaDoor
