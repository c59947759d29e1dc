/-
  The tie stays, call by call.
  The law's steps on one pair of stores: each makes the program's call, then the document's, and tells whether they answer alike.
  A store in memory, the blocks that bear it left unsaid; and which blocks are not its own.
-/
import Derived.Test.YthbdpfccfcceiaaGreatDoorT0T1C3J2J3N1
import Derived.Test.YthbdpfccfcceiaaGreatDoorJ4J5C4
import Derived.Test.YthbdpfccfcceiaaGreatDoorD5S1S2S3
import Derived.Test.YthbdpfccfcceiaaGreatDoorD6J1
namespace Go.Proofs.YthbdpfccfcceiaaGreatDoor
open Go.RowKit

theorem sorted_ext : ∀ {a b : List ByteArray}, a.Pairwise blt → b.Pairwise blt → (∀ k, k ∈ a ↔ k ∈ b) → a = b
  | [], [], _, _, _ => rfl
  | [], y :: b, _, _, h => by have := (h y).2 (by simp); cases this
  | x :: a, [], _, _, h => by have := (h x).1 (by simp); cases this
  | x :: a, y :: b, ha, hb, h => by
    obtain ⟨a1, a2⟩ := List.pairwise_cons.1 ha
    obtain ⟨b1, b2⟩ := List.pairwise_cons.1 hb
    have e : x = y := by
      rcases List.mem_cons.1 ((h x).1 (by simp)) with e | hx
      · exact e
      · rcases List.mem_cons.1 ((h y).2 (by simp)) with e | hy
        · exact e.symm
        · exact absurd (blt_trans (a1 y hy) (b1 x hx)) (blt_irrefl _)
    subst e
    rw [sorted_ext a2 b2 (fun k => ?_)]
    constructor
    · intro hk
      rcases List.mem_cons.1 ((h k).1 (List.mem_cons_of_mem _ hk)) with e | h1
      · exact absurd (e ▸ a1 k hk) (blt_irrefl _)
      · exact h1
    · intro hk
      rcases List.mem_cons.1 ((h k).2 (List.mem_cons_of_mem _ hk)) with e | h1
      · exact absurd (e ▸ b1 k hk) (blt_irrefl _)
      · exact h1

theorem nodup_le : ∀ {a : List ByteArray} {b : List ByteArray}, a.Pairwise (· ≠ ·) → (∀ k ∈ a, k ∈ b) → a.length ≤ b.length
  | [], _, _, _ => Nat.zero_le _
  | x :: a, b, ha, h => by
    obtain ⟨a1, a2⟩ := List.pairwise_cons.1 ha
    have hx : x ∈ b := h x (by simp)
    have h1 := nodup_le (a := a) (b := b.filter (fun k => decide (k ≠ x))) a2 (fun k hk => List.mem_filter.2 ⟨h k (List.mem_cons_of_mem _ hk), by simpa using (a1 k hk).symm⟩)
    have h2 : (b.filter (fun k => decide (k ≠ x))).length < b.length := List.length_filter_lt_length_iff_exists.2 ⟨x, hx, by simp⟩
    simp only [List.length_cons]
    omega

section
variable {s : XS} {y : YS}

theorem there_iff {n : Int} : thereY y n = true ↔ ∃ j : Nat, n = (j : Int) + 1 ∧ ∃ hj : j < y.txs.length, (y.txs[j]).over = false := by
  constructor
  · exact there_in
  · rintro ⟨j, rfl, hj, ho⟩
    unfold thereY
    simp [List.getElem?_eq_getElem hj, ho]; omega

theorem txOf_at {j : Nat} (hj : j < y.txs.length) (ho : (y.txs[j]).over = false) : txOf y ((j : Int) + 1) = some (xtOf y.txs[j]) := by
  have h : thereY y ((j : Int) + 1) = true := there_iff.2 ⟨j, rfl, hj, ho⟩
  simp [txOf, h, List.getElem?_eq_getElem hj]

theorem txOf_not {n : Int} (h : thereY y n = false) : txOf y n = none := by simp [txOf, h]

theorem txOf_some {n : Int} {t : XT} (h : txOf y n = some t) : ∃ j : Nat, n = (j : Int) + 1 ∧ ∃ hj : j < y.txs.length, (y.txs[j]).over = false ∧ t = xtOf y.txs[j] := by
  by_cases ht : thereY y n = true
  · obtain ⟨j, rfl, hj, ho⟩ := there_iff.1 ht
    rw [txOf_at hj ho] at h
    exact ⟨j, rfl, hj, ho, (Option.some.inj h).symm⟩
  · rw [txOf_not (by simpa using ht)] at h; cases h

/-- Two states of the document in which one transaction alone differs. -/
theorem txOf_upd {y' : YS} {j : Nat} {t' : YT} (hj : j < y.txs.length) (e : y'.txs = y.txs.set j t') (n : Int) : txOf y' n = updI (txOf y) ((j : Int) + 1) (if t'.over then none else some (xtOf t')) n := by
  have hj' : j < y'.txs.length := by rw [e]; simpa using hj
  by_cases hn : n = (j : Int) + 1
  · subst hn
    rw [updI_same]
    have e1 : y'.txs[j] = t' := by simp [e]
    cases ho : t'.over with
    | true =>
      have : thereY y' ((j : Int) + 1) = false := by
        rw [Bool.eq_false_iff]; intro h
        obtain ⟨j', e2, hj2, ho2⟩ := there_iff.1 h
        have : j' = j := by omega
        subst this
        rw [e1, ho] at ho2; cases ho2
      simp [txOf_not this]
    | false =>
      rw [txOf_at hj' (by rw [e1, ho]), e1]; simp
  · rw [updI_other _ hn]
    have hg : ∀ i : Nat, i ≠ j → y'.txs[i]? = y.txs[i]? := fun i hi => by rw [e, List.getElem?_set_ne (Ne.symm hi)]
    by_cases h1 : 1 ≤ n
    · have hi : (n - 1).toNat ≠ j := by omega
      have e1 : thereY y' n = thereY y n := by unfold thereY; rw [hg _ hi]
      unfold txOf
      rw [e1, hg _ hi]
    · have h2 : decide (1 ≤ n) = false := by simpa using h1
      have f : ∀ z : YS, thereY z n = false := fun z => by
        unfold thereY; split
        · simp [h2]
        · rfl
      rw [txOf_not (f y'), txOf_not (f y)]

theorem openN_set : ∀ {l : List YT} {j : Nat} (hj : j < l.length) (t : YT), (l[j]).over = false → openN (l.set j t) = if t.over then openN l - 1 else openN l
  | a :: r, 0, _, t, h => by
    have h' : a.over = false := by simpa using h
    cases ht : t.over <;> simp [openN, h', ht]
  | a :: r, j + 1, hj, t, h => by
    have ih := openN_set (l := r) (j := j) (by simpa using hj) t (by simpa using h)
    have hp : 1 ≤ openN r := by
      unfold openN
      exact List.length_pos_of_mem (List.mem_filter.2 ⟨List.getElem_mem (by simpa using hj : j < r.length), by simpa using h⟩)
    simp only [openN, List.set_cons_succ] at ih hp ⊢
    cases ha : a.over <;> cases ht : t.over <;> simp [ha, ht] at ih ⊢ <;> omega

theorem Tied.closed (h : Tied s y) {j : Nat} (hj : j < y.txs.length) (ho : (y.txs[j]).over = false) : Tied { s with txs := updI s.txs ((j : Int) + 1) none, nopen := s.nopen - 1 } (overAt y j hj) := by
  refine ⟨h.now, ?_, fun n => ?_, ?_, h.mom, h.ver, h.nv, h.nm, h.hor, h.lgl, h.lgb, h.sy, h.nob, h.lg, h.syn, h.lgn⟩
  · simp [overAt]; exact h.begun
  · rw [txOf_upd (y := y) (t' := { y.txs[j] with over := true }) hj rfl]
    have : s.txs = txOf y := funext h.txs
    simp [this]
  · show s.nopen - 1 = openN (y.txs.set j _)
    rw [openN_set hj _ ho, h.nopen]; simp

theorem YI.closed (h : YI y) {j : Nat} (hj : j < y.txs.length) (ho : (y.txs[j]).over = false) : YI (overAt y j hj) := by
  refine ⟨h.now, h.len, h.ver, h.up, fun t ht => ?_, ?_, h.hor, fun t ht ho' => ?_, h.bku, h.lgv⟩
  · rcases List.mem_or_eq_of_mem_set ht with h1 | rfl
    · exact h.txs t h1
    · have := h.txs _ (List.getElem_mem hj)
      exact ⟨this.sees, this.len, this.one, this.ok⟩
  · have h1 := h.opn
    show openN (y.txs.set j _) ≤ 8
    rw [openN_set hj _ ho]
    simp; omega
  · rcases List.mem_or_eq_of_mem_set ht with h1 | rfl
    · exact h.pin t h1 ho'
    · cases ho'

theorem Tied.opened (h : Tied s y) : Tied { s with begun := s.begun + 1, txs := updI s.txs (s.begun + 1) (some ⟨s.now, fun _ => none, 0⟩), nopen := s.nopen + 1 } { y with txs := y.txs ++ [newYT y] } := by
  have hs : s.txs = txOf y := funext h.txs
  refine ⟨h.now, ?_, fun n => ?_, ?_, h.mom, h.ver, h.nv, h.nm, h.hor, h.lgl, h.lgb, h.sy, h.nob, h.lg, h.syn, h.lgn⟩
  · simp [h.begun]
  · show updI s.txs (s.begun + 1) _ n = _
    rw [hs, h.begun]
    by_cases hn : n = (y.txs.length : Int) + 1
    · subst hn
      rw [updI_same, txOf_at (y := { y with txs := y.txs ++ [newYT y] }) (j := y.txs.length) (by simp) (by simp [newYT])]
      simp [xtOf, newYT, h.now]
      funext k; rfl
    · rw [updI_other _ hn]
      by_cases h1 : 1 ≤ n ∧ n ≤ y.txs.length
      · have : (y.txs ++ [newYT y])[(n - 1).toNat]? = y.txs[(n - 1).toNat]? := List.getElem?_append_left (by omega)
        have e1 : thereY { y with txs := y.txs ++ [newYT y] } n = thereY y n := by
          unfold thereY
          dsimp only
          rw [this]
        unfold txOf
        rw [e1]
        show _ = if thereY y n = true then ((y.txs ++ [newYT y])[(n - 1).toNat]?).map xtOf else none
        rw [this]
      · have f : ∀ z : YS, z.txs.length ≤ y.txs.length + 1 → (n - 1).toNat < y.txs.length + 1 → thereY z n = true → 1 ≤ n := fun z _ _ ht => by
          obtain ⟨j, rfl, _⟩ := there_iff.1 ht; omega
        have g1 : thereY y n = false := by
          rw [Bool.eq_false_iff]; intro ht
          obtain ⟨j, rfl, hj, _⟩ := there_iff.1 ht
          exact h1 ⟨by omega, by omega⟩
        have g2 : thereY { y with txs := y.txs ++ [newYT y] } n = false := by
          rw [Bool.eq_false_iff]; intro ht
          obtain ⟨j, rfl, hj, _⟩ := there_iff.1 ht
          have : j < y.txs.length + 1 := by simpa using hj
          exact h1 ⟨by omega, by omega⟩
        rw [txOf_not g1, txOf_not g2]
  · show s.nopen + 1 = openN (y.txs ++ [newYT y])
    rw [openN_snoc, h.nopen]; simp [newYT]

theorem YI.opened (h : YI y) (h8 : openN y.txs ≠ 8) : YI { y with txs := y.txs ++ [newYT y] } := by
  have ho := h.opn
  refine ⟨h.now, h.len, h.ver, h.up, fun t ht => ?_, by show openN (y.txs ++ [newYT y]) ≤ 8; rw [openN_snoc]; simp [newYT]; omega, h.hor, fun t ht ho' => by
    rcases List.mem_append.1 ht with h1 | h1
    · exact h.pin t h1 ho'
    · have e : t = newYT y := by simpa using h1
      subst e
      exact h.hor.2, h.bku, h.lgv⟩
  rcases List.mem_append.1 ht with h1 | h1
  · exact h.txs t h1
  · have : t = newYT y := by simpa using h1
    subst this
    exact ⟨⟨h.now.1, Int.le_refl _⟩, by simp [newYT], by simp [newYT], by simp [newYT]⟩

theorem Tied.newTx_none (h : Tied s y) : s.txs (s.begun + 1) = none := by
  rw [h.txs, txOf_not]
  rw [Bool.eq_false_iff]; intro ht
  obtain ⟨j, e, hj, _⟩ := there_iff.1 ht
  have := h.begun
  omega

theorem idxK_congr {l l' : List YV} (h : l.map (·.key) = l'.map (·.key)) (k : ByteArray) : idxK l k = idxK l' k := by
  have e : ∀ l : List YV, idxK l k = (l.map (·.key)).findIdx? (fun a => a.toList == k.toList) := fun l => by
    rw [List.findIdx?_map]; rfl
  rw [e l, e l', h]

theorem keys_set {l : List YV} {k : ByteArray} {i : Nat} (h : idxK l k = some i) (gone : Bool) (val : ByteArray) : (l.set i ⟨k, 0, gone, val⟩).map (·.key) = l.map (·.key) := by
  obtain ⟨hi, e⟩ := idxK_key h
  rw [List.map_set]
  apply List.ext_getElem?
  intro j
  rw [List.getElem?_set]
  split
  · rename_i hj
    subst hj
    simp [hi, e]
  · rfl

/-- A transaction's list with a version written anew. -/
theorem wrOf_set {l : List YV} {k : ByteArray} {i : Nat} (h : idxK l k = some i) (gone : Bool) (val : ByteArray) : wrOf (l.set i ⟨k, 0, gone, val⟩) = updS (wrOf l) k (some (val, gone)) := by
  obtain ⟨hi, e⟩ := idxK_key h
  funext k'
  have hc := idxK_congr (keys_set h gone val) k'
  by_cases hk : k' = k
  · subst hk
    rw [updS_same, wrOf_some (hc.trans h) (by simpa using hi)]
    simp
  · rw [updS_other _ hk]
    cases hx : idxK l k' with
    | none => rw [wrOf_none hx, wrOf_none (hc.trans hx)]
    | some a =>
      obtain ⟨ha, ea⟩ := idxK_key hx
      have hne : i ≠ a := fun e2 => by subst e2; exact hk (ea.symm.trans e)
      rw [wrOf_some hx ha, wrOf_some (hc.trans hx) (by simpa using ha)]
      simp [List.getElem_set_ne hne]

theorem wrOf_snoc {l : List YV} {k : ByteArray} (h : idxK l k = none) (gone : Bool) (val : ByteArray) : wrOf (l ++ [⟨k, 0, gone, val⟩]) = updS (wrOf l) k (some (val, gone)) := by
  funext k'
  have hl : l.length < (l ++ [(⟨k, 0, gone, val⟩ : YV)]).length := by simp
  by_cases hk : k' = k
  · subst hk
    have : idxK (l ++ [⟨k', 0, gone, val⟩]) k' = some l.length := by
      unfold idxK at h ⊢
      rw [List.findIdx?_append, h]
      simp
    rw [updS_same, wrOf_some this hl]
    simp
  · rw [updS_other _ hk]
    cases hx : idxK l k' with
    | none =>
      rw [wrOf_none hx, wrOf_none]
      rw [idxK_none] at hx ⊢
      intro y hy
      rcases List.mem_append.1 hy with h1 | h1
      · exact hx y h1
      · have : y = ⟨k, 0, gone, val⟩ := by simpa using h1
        subst this
        exact fun e => hk e.symm
    | some a =>
      obtain ⟨ha, ea⟩ := idxK_key hx
      have : idxK (l ++ [⟨k, 0, gone, val⟩]) k' = some a := by
        unfold idxK at hx ⊢
        rw [List.findIdx?_append, hx]; rfl
      rw [wrOf_some hx ha, wrOf_some this (by simp; omega)]
      simp [List.getElem_append_left ha]

theorem wrote_again {t : YT} {k : ByteArray} {i : Nat} (h : idxK t.l k = some i) (gone : Bool) (val : ByteArray) : wrote (xtOf t) k (val, gone) = some (xtOf { t with l := t.l.set i ⟨k, 0, gone, val⟩ }) := by
  have h1 : ((xtOf t).wr k).isSome = true := by simp [xtOf, wrOf_isSome, h]
  rw [wrote, if_pos h1]
  simp [xtOf, wrOf_set h]

theorem wrote_new {t : YT} {k : ByteArray} (h : idxK t.l k = none) (h10 : t.l.length < 10) (gone : Bool) (val : ByteArray) : wrote (xtOf t) k (val, gone) = some (xtOf { t with l := t.l ++ [⟨k, 0, gone, val⟩] }) := by
  have h1 : ¬ ((xtOf t).wr k).isSome = true := by simp [xtOf, wrOf_none h]
  rw [wrote, if_neg h1, if_pos (by simpa [xtOf] using h10)]
  simp [xtOf, wrOf_snoc h]

theorem wrote_full {t : YT} {k : ByteArray} (h : idxK t.l k = none) (h10 : t.l.length = 10) (gone : Bool) (val : ByteArray) : wrote (xtOf t) k (val, gone) = none := by
  have h1 : ¬ ((xtOf t).wr k).isSome = true := by simp [xtOf, wrOf_none h]
  rw [wrote, if_neg h1, if_neg (by simp [xtOf, h10])]

theorem Tied.written (h : Tied s y) {j : Nat} (hj : j < y.txs.length) (ho : (y.txs[j]).over = false) (l' : List YV) : Tied { s with txs := updI s.txs ((j : Int) + 1) (some (xtOf { y.txs[j] with l := l' })) } (setTx y j { y.txs[j] with l := l' }) := by
  refine ⟨h.now, ?_, fun n => ?_, ?_, h.mom, h.ver, h.nv, h.nm, h.hor, h.lgl, h.lgb, h.sy, h.nob, h.lg, h.syn, h.lgn⟩
  · simp [setTx]; exact h.begun
  · rw [txOf_upd (y := y) (t' := { y.txs[j] with l := l' }) hj rfl]
    have : s.txs = txOf y := funext h.txs
    simp [this, ho]
  · show s.nopen = openN (y.txs.set j _)
    rw [openN_set hj _ ho, h.nopen]; simp [ho]

theorem YI.written (h : YI y) {j : Nat} (hj : j < y.txs.length) (ho : (y.txs[j]).over = false) (t' : YT) (ht : TI y.now t') (ho' : t'.over = false) (hp : y.hor ≤ t'.sees) : YI (setTx y j t') := by
  refine ⟨h.now, h.len, h.ver, h.up, fun t h1 => ?_, by show openN (y.txs.set j t') ≤ 8; rw [openN_set hj _ ho, ho']; exact h.opn, h.hor, fun t h1 ho1 => by
    rcases List.mem_or_eq_of_mem_set h1 with h1 | rfl
    · exact h.pin t h1 ho1
    · exact hp, h.bku, h.lgv⟩
  rcases List.mem_or_eq_of_mem_set h1 with h1 | rfl
  · exact h.txs t h1
  · exact ht

theorem TI.again {n : Int} {t : YT} (h : TI n t) {k : ByteArray} {i : Nat} (hi : idxK t.l k = some i) (hk : isKey k = true) (gone : Bool) {val : ByteArray} (hv : val.size ≤ 20) : TI n { t with l := t.l.set i ⟨k, 0, gone, val⟩ } := by
  refine ⟨h.sees, by simpa using h.len, ?_, fun v hv' => ?_⟩
  · have := h.one
    rw [← List.pairwise_map (f := fun v : YV => v.key) (R := fun a b => a ≠ b)] at this ⊢
    rw [keys_set hi]; exact this
  · rcases List.mem_or_eq_of_mem_set hv' with h1 | rfl
    · exact h.ok v h1
    · exact ⟨hk, hv⟩

theorem TI.more {n : Int} {t : YT} (h : TI n t) {k : ByteArray} (hi : idxK t.l k = none) (h10 : t.l.length < 10) (hk : isKey k = true) (gone : Bool) {val : ByteArray} (hv : val.size ≤ 20) : TI n { t with l := t.l ++ [⟨k, 0, gone, val⟩] } := by
  refine ⟨h.sees, by simp; omega, ?_, fun v hv' => ?_⟩
  · rw [List.pairwise_append]
    refine ⟨h.one, by simp, fun a ha b hb => ?_⟩
    have : b = ⟨k, 0, gone, val⟩ := by simpa using hb
    subst this
    exact idxK_none.1 hi a ha
  · rcases List.mem_append.1 hv' with h1 | h1
    · exact h.ok v h1
    · have : v = ⟨k, 0, gone, val⟩ := by simpa using h1
      subst this
      exact ⟨hk, hv⟩

theorem isKey_size {k : ByteArray} (h : isKey k = true) : k.size ≤ 8 := by
  unfold isKey at h
  simp at h
  exact h.2.1

theorem isKey_in {k : ByteArray} (h : isKey k = true) : inR eb tilde k = true := by
  unfold isKey at h
  simp only [Bool.and_eq_true, decide_eq_true_eq] at h
  obtain ⟨h1, _, h3⟩ := h
  unfold inR
  rw [leB_eq, Bool.and_eq_true]
  refine ⟨?_, ?_⟩
  · rw [Bool.not_eq_true', Bool.eq_false_iff]
    intro h4
    have := (ltB_blt _ _).1 h4
    exact List.not_lt_nil _ this
  · rw [ltB_blt]
    unfold blt
    cases hd : k.data.toList with
    | nil =>
      have : k.data.toList.length = 0 := by rw [hd]; rfl
      have h5 : k.data.toList.length = k.size := by simp
      omega
    | cons a r =>
      rw [hd] at h3
      have ha : kb a = true := by
        have := List.all_eq_true.1 h3 a (by simp)
        exact this
      unfold kb at ha
      have ha' := of_decide_eq_true ha
      show a :: r < [126]
      rw [List.cons_lt_cons_iff]
      left
      rw [UInt8.lt_iff_toNat_lt]
      show a.toNat < 126
      omega

theorem over_iff (h : Tied s y) (hy : YI y) (t : YT) : overt s (xtOf t) ↔ ConfY y t := by
  constructor
  · rintro ⟨k, hk, hc⟩
    rw [h.mom] at hc
    unfold changed at hc
    cases hg : (momsOf y.l k).getLast? with
    | none => rw [hg] at hc; cases hc
    | some m =>
      rw [hg] at hc
      have hc : t.sees < m := of_decide_eq_true hc
      obtain ⟨v, hv, e1, e2⟩ := mem_moms.1 (List.mem_of_getLast? hg)
      obtain ⟨i, hi, rfl⟩ := List.getElem_of_mem hv
      refine ⟨i, hi, ?_, by omega⟩
      rw [e1, ← wrOf_isSome]
      exact hk
  · rintro ⟨i, hi, hk, ht⟩
    refine ⟨(y.l[i]).key, by simpa [xtOf, wrOf_isSome] using hk, ?_⟩
    rw [h.mom]
    obtain ⟨z, e, _, hz⟩ := last_top (moms_up hy.up (y.l[i]).key) (x := (y.l[i]).t) (mem_moms.2 ⟨_, List.getElem_mem hi, rfl, rfl⟩)
    unfold changed
    rw [e]
    exact decide_eq_true (show t.sees < z by omega)

open Classical in
/-- The versions of a commit. -/
theorem moms_news {tl : List YV} {n : Int} : ∀ {ks : List ByteArray}, ks.Pairwise blt → (∀ k ∈ ks, ∃ v ∈ tl, v.key = k) → ∀ k, momsOf (ks.filterMap (pickK tl n)) k = if k ∈ ks then [n] else []
  | [], _, _, k => by simp [momsOf]
  | a :: r, hs, hm, k => by
    obtain ⟨h1, h2⟩ := List.pairwise_cons.1 hs
    have ih := moms_news (tl := tl) (n := n) h2 (fun k hk => hm k (List.mem_cons_of_mem _ hk)) k
    obtain ⟨i, hi, hl, he⟩ := idxK_of_mem (hm a (by simp))
    have hp : pickK tl n a = some { tl[i] with t := n } := by simp [pickK, hi, List.getElem?_eq_getElem hl]
    rw [List.filterMap_cons_some hp]
    unfold momsOf at ih ⊢
    by_cases hk : k = a
    · subst hk
      have hnr : k ∉ r := fun hr => blt_irrefl _ (h1 k hr)
      rw [if_neg hnr] at ih
      rw [List.filter_cons_of_pos (by simp [he]), List.map_cons, ih]
      simp
    · have hne : ¬ a = k := fun e => hk e.symm
      rw [List.filter_cons_of_neg (by simp [he, hne]), ih]
      simp [hk]

open Classical in
theorem ver_news {tl : List YV} {n : Int} : ∀ {ks : List ByteArray}, ks.Pairwise blt → (∀ k ∈ ks, ∃ v ∈ tl, v.key = k) → ∀ k m, verOf (ks.filterMap (pickK tl n)) k m = if k ∈ ks ∧ m = n then wrOf tl k else none
  | [], _, _, k, m => by simp [verOf]
  | a :: r, hs, hm, k, m => by
    obtain ⟨h1, h2⟩ := List.pairwise_cons.1 hs
    have ih := ver_news (tl := tl) (n := n) h2 (fun k hk => hm k (List.mem_cons_of_mem _ hk)) k m
    obtain ⟨i, hi, hl, he⟩ := idxK_of_mem (hm a (by simp))
    have hp : pickK tl n a = some { tl[i] with t := n } := by simp [pickK, hi, List.getElem?_eq_getElem hl]
    rw [List.filterMap_cons_some hp]
    unfold verOf at ih ⊢
    by_cases hk : k = a
    · subst hk
      have hnr : k ∉ r := fun hr => blt_irrefl _ (h1 k hr)
      by_cases hn : m = n
      · subst hn
        rw [List.find?_cons_of_pos (by simp [he]), wrOf_some hi hl]
        simp
      · have hn' : ¬ n = m := fun e => hn e.symm
        rw [List.find?_cons_of_neg (by simp [hn']), ih]
        simp [hnr, hn]
    · have hne : ¬ a = k := fun e => hk e.symm
      rw [List.find?_cons_of_neg (by simp [he, hne]), ih]
      simp [hk]

theorem moms_append (l m : List YV) (k : ByteArray) : momsOf (l ++ m) k = momsOf l k ++ momsOf m k := by simp [momsOf]

theorem ver_append (l m : List YV) (k : ByteArray) (n : Int) : verOf (l ++ m) k n = (verOf l k n).or (verOf m k n) := by
  unfold verOf
  rw [List.find?_append]
  cases l.find? (fun y => decide (y.key = k ∧ y.t = n)) <;> rfl

theorem pick_toW {tl : List YV} {n : Int} : ∀ {ws : List (ByteArray × ByteArray × Bool)}, (∀ x ∈ ws, wrOf tl x.1 = some x.2) → ((ws.map Prod.fst).filterMap (pickK tl n)).map toW = ws
  | [], _ => rfl
  | x :: r, h => by
    have hx := h x (by simp)
    have ih := pick_toW (n := n) (fun y hy => h y (List.mem_cons_of_mem _ hy))
    cases hi : idxK tl x.1 with
    | none => rw [wrOf_none hi] at hx; cases hx
    | some i =>
      obtain ⟨hl, ek⟩ := idxK_key hi
      rw [wrOf_some hi hl] at hx
      have hp : pickK tl n x.1 = some { tl[i] with t := n } := by simp [pickK, hi, List.getElem?_eq_getElem hl]
      rw [List.map_cons, List.filterMap_cons_some hp, List.map_cons, ih]
      congr 1
      exact Prod.ext ek (Option.some.inj hx)

theorem news_toW {tl : List YV} {n : Int} {ws : List (ByteArray × ByteArray × Bool)} (h : WsOf (wrOf tl) ws) {ks : List ByteArray} (hs : ks.Pairwise blt) (hm : ∀ k, k ∈ ks ↔ ∃ v ∈ tl, v.key = k) : (ks.filterMap (pickK tl n)).map toW = ws := by
  have e : ks = ws.map Prod.fst := sorted_ext hs h.up (fun k => by
    rw [hm, ← wrOf_mem]
    refine ⟨h.all k, fun hk => ?_⟩
    obtain ⟨x, hx, rfl⟩ := List.mem_map.1 hk
    rw [h.at_ x hx]; rfl)
  rw [e]
  exact pick_toW h.at_

theorem Tied.committed (h : Tied s y) (hy : YI y) {j : Nat} (hj : j < y.txs.length) (ho : (y.txs[j]).over = false) {ks : List ByteArray} (hs : ks.Pairwise blt) (hm : ∀ k, k ∈ ks ↔ ∃ v ∈ (y.txs[j]).l, v.key = k)
    {nv' nm' : Nat} (hnv : nv' ≤ s.nv + (xtOf y.txs[j]).nw) (hnm : nm' ≤ s.nm + (xtOf y.txs[j]).nw) {l' : XL} (hl : LogC s (xtOf y.txs[j]).wr l') :
    Tied { comm { s with log := l' } (xtOf y.txs[j]) (fun _ => false) nv' nm' with txs := updI s.txs ((j : Int) + 1) none, nopen := s.nopen - 1 } (commY y j hj ks) := by
  have hc := h.closed hj ho
  have hlen := (hy.txs _ (List.getElem_mem hj)).len
  have h1 := h.nv
  have h2 := h.nm
  have hw : ∀ k, (wrOf (y.txs[j]).l k).isSome = true ↔ k ∈ ks := fun k => wrOf_mem.trans (hm k).symm
  refine ⟨by simp [comm, commY, h.now], hc.begun, hc.txs, hc.nopen, fun k => ?_, fun k m => ?_, ?_, ?_, h.hor, ?_, ?_, ?_, h.nob, ?_, ?_, ?_⟩
  · show (if ((wrOf (y.txs[j]).l k).isSome && !false) = true then s.mom k ++ [s.now + 1] else s.mom k) = momsOf (y.l ++ ks.filterMap (pickK (y.txs[j]).l (y.now + 1))) k
    rw [moms_append, moms_news hs (fun k hk => (hm k).1 hk), h.mom, h.now]
    by_cases hk : k ∈ ks
    · simp [(hw k).2 hk, hk]
    · have : (wrOf (y.txs[j]).l k).isSome = false := by rw [Bool.eq_false_iff]; exact fun e => hk ((hw k).1 e)
      simp [this, hk]
  · show (if m = s.now + 1 ∧ ((wrOf (y.txs[j]).l k).isSome && !false) = true then wrOf (y.txs[j]).l k else s.ver k m) = verOf (y.l ++ ks.filterMap (pickK (y.txs[j]).l (y.now + 1))) k m
    rw [ver_append, ver_news hs (fun k hk => (hm k).1 hk), h.ver, h.now]
    by_cases hn : m = y.now + 1
    · have h0 : verOf y.l k m = none := by
        unfold verOf
        rw [List.find?_eq_none.2]; rfl
        intro v hv
        have := hy.ver v hv
        simp; omega
      rw [h0]
      by_cases hk : k ∈ ks
      · simp [(hw k).2 hk, hk, hn]
      · have : (wrOf (y.txs[j]).l k).isSome = false := by rw [Bool.eq_false_iff]; exact fun e => hk ((hw k).1 e)
        simp [this, hk]
    · simp [hn]
  · show (nv' : Int) ≤ 10 * (y.now + 1)
    have : nv' ≤ s.nv + (y.txs[j]).l.length := hnv
    omega
  · show (nm' : Int) ≤ 10 * (y.now + 1)
    have : nm' ≤ s.nm + (y.txs[j]).l.length := hnm
    omega
  · obtain ⟨ws, hws, hw10, hlg, hsy⟩ := hl
    have := h.lgl
    show (l'.lg.length : Int) ≤ y.now + 1 + y.hor
    rw [hlg]; simp; omega
  · obtain ⟨ws, hws, hw10, hlg, hsy⟩ := hl
    intro b hb
    have hb' : b ∈ l'.lg := hb
    rw [hlg] at hb'
    rcases List.mem_append.1 hb' with h1 | h1
    · exact h.lgb b h1
    · simp at h1; subst h1
      have := bodyC_length_le (s.now + 1).toNat ws (fun x hx => by
        obtain ⟨v, hv, ek, ev⟩ := wrOf_val (hws.at_ x hx)
        have hk := (hy.txs _ (List.getElem_mem hj)).ok v hv
        refine ⟨by rw [← ek]; exact isKey_size hk.1, by rw [ev]; exact hk.2⟩)
      omega
  · obtain ⟨ws, hws, hw10, hlg, hsy⟩ := hl
    show l'.sy ≤ bytesOf (filesB l'.lg)
    rw [hlg, hsy]
    exact Nat.le_trans h.sy (bytesOf_snoc _ _)
  · obtain ⟨ws, hws, hw10, hlg, hsy⟩ := hl
    show y.lg ++ [bodyC (y.now + 1).toNat ((ks.filterMap (pickK (y.txs[j]).l (y.now + 1))).map toW)] = l'.lg
    rw [hlg, h.lg, h.now, news_toW hws hs hm]
  · obtain ⟨ws, hws, hw10, hlg, hsy⟩ := hl
    show y.syn = (l'.sy : Int)
    rw [hsy]
    exact h.syn
  · intro b hb
    rcases List.mem_append.1 hb with h1 | h1
    · exact h.lgn b h1
    · simp at h1; subst h1; simp [bodyC]

theorem YI.committed (hy : YI y) {j : Nat} (hj : j < y.txs.length) (ho : (y.txs[j]).over = false) (h0 : ¬ (y.txs[j]).l.length = 0) (hnow : y.now ≠ 2000) {ks : List ByteArray} (hs : ks.Pairwise blt) (hm : ∀ k, k ∈ ks ↔ ∃ v ∈ (y.txs[j]).l, v.key = k) : YI (commY y j hj ks) := by
  have hn := hy.now
  have ht := hy.txs _ (List.getElem_mem hj)
  have hks : ks.length ≤ 10 := by
    have h1 := nodup_le (a := ks) (b := (y.txs[j]).l.map (·.key)) (hs.imp (fun {a b} h e => by subst e; exact blt_irrefl _ h)) (fun k hk => by
      obtain ⟨v, hv, e⟩ := (hm k).1 hk
      exact List.mem_map.2 ⟨v, hv, e⟩)
    have h2 := ht.len
    rw [List.length_map] at h1
    omega
  have hc := hy.closed hj ho
  refine ⟨⟨by show 0 ≤ y.now + 1; omega, by show y.now + 1 ≤ 2000; omega⟩, ?_, ?_, ?_, fun t h1 => ?_, hc.opn, ⟨hy.hor.1, by show y.hor ≤ y.now + 1; have := hy.hor; omega⟩, hc.pin, hy.bku, ?_⟩
  · show ((y.l ++ ks.filterMap (pickK (y.txs[j]).l (y.now + 1))).length : Int) ≤ 10 * (y.now + 1)
    have h1 := List.length_filterMap_le (pickK (y.txs[j]).l (y.now + 1)) ks
    have h2 := hy.len
    rw [List.length_append]
    omega
  · intro v hv
    show 1 ≤ v.t ∧ v.t ≤ y.now + 1 ∧ _
    rcases List.mem_append.1 hv with h1 | h1
    · have := hy.ver v h1
      exact ⟨this.1, by omega, this.2.2⟩
    · obtain ⟨k, hk, v0, hv0, e, rfl⟩ := pick_mem h1
      exact ⟨by show 1 ≤ y.now + 1; omega, Int.le_refl _, (ht.ok v0 hv0).1⟩
  · show (y.l ++ ks.filterMap (pickK (y.txs[j]).l (y.now + 1))).Pairwise _
    rw [List.pairwise_append]
    refine ⟨hy.up, ?_, fun a ha b hb => ?_⟩
    · rw [List.pairwise_filterMap]
      refine hs.imp ?_
      intro a b hab u hu v hv
      obtain ⟨a', ha', _, _, e1, e2⟩ := pick_mem (ks := [a]) (l := (y.txs[j]).l) (n := y.now + 1) (y := u) (List.mem_filterMap.2 ⟨a, by simp, hu⟩)
      obtain ⟨b', hb', _, _, e3, e4⟩ := pick_mem (ks := [b]) (l := (y.txs[j]).l) (n := y.now + 1) (y := v) (List.mem_filterMap.2 ⟨b, by simp, hv⟩)
      have ea : a' = a := by simpa using ha'
      have eb : b' = b := by simpa using hb'
      subst ea; subst eb; subst e2; subst e4
      refine ⟨Int.le_refl _, fun _ e => ?_⟩
      have e' : a' = b' := by rw [← e1, ← e3]; exact e
      exact blt_irrefl _ (e' ▸ hab)
    · have h1 := hy.ver a ha
      obtain ⟨k, hk, v0, hv0, e, rfl⟩ := pick_mem hb
      exact ⟨by show a.t ≤ y.now + 1; omega, fun e => by have : a.t = y.now + 1 := e; omega⟩
  · have h2 := hc.txs t h1
    exact ⟨⟨h2.sees.1, by have := h2.sees.2; show t.sees ≤ y.now + 1; have : t.sees ≤ y.now := this; omega⟩, h2.len, h2.one, h2.ok⟩
  · have hmem : ∀ v ∈ ks.filterMap (pickK (y.txs[j]).l (y.now + 1)), isKey v.key = true ∧ v.s.size ≤ 20 := fun v hv => by
      obtain ⟨k, hk, v0, hv0, e, rfl⟩ := pick_mem hv
      exact ht.ok v0 hv0
    refine hy.lgv.commit hn.1 (by omega) ?_ ?_ ?_ (fun x hx => ?_)
    · rw [List.map_map, List.pairwise_map, List.pairwise_filterMap]
      refine hs.imp ?_
      intro a b hab u hu v hv
      obtain ⟨a', ha', _, _, e1, e2⟩ := pick_mem (ks := [a]) (l := (y.txs[j]).l) (n := y.now + 1) (y := u) (List.mem_filterMap.2 ⟨a, by simp, hu⟩)
      obtain ⟨b', hb', _, _, e3, e4⟩ := pick_mem (ks := [b]) (l := (y.txs[j]).l) (n := y.now + 1) (y := v) (List.mem_filterMap.2 ⟨b, by simp, hv⟩)
      have ea : a' = a := by simpa using ha'
      have eb : b' = b := by simpa using hb'
      subst ea; subst eb; subst e2; subst e4
      show blt _ _
      rw [e1, e3]
      exact hab
    · rw [List.length_map]
      have hne : (y.txs[j]).l ≠ [] := fun e => h0 (by rw [e]; rfl)
      obtain ⟨v, hv⟩ := List.exists_mem_of_ne_nil _ hne
      have hk := (hm v.key).2 ⟨v, hv, rfl⟩
      obtain ⟨i, hi, _⟩ := idxK_of_mem (l := (y.txs[j]).l) (k := v.key) ⟨v, hv, rfl⟩
      refine List.length_pos_iff.2 (List.ne_nil_of_mem (a := { (y.txs[j]).l[i]'(idxK_lt hi) with t := y.now + 1 }) (List.mem_filterMap.2 ⟨v.key, hk, ?_⟩))
      unfold pickK
      rw [hi]
      simp [List.getElem?_eq_getElem (idxK_lt hi)]
    · rw [List.length_map]
      have h1 := List.length_filterMap_le (pickK (y.txs[j]).l (y.now + 1)) ks
      omega
    · obtain ⟨v, hv, rfl⟩ := List.mem_map.1 hx
      exact hmem v hv

/-- A store that was just made. -/
def newYS : YS := ⟨[], 0, [], 0, 0, .slice none 0 0, []⟩

theorem tied_new (mu : Nat) : Tied (newXS mu) newYS := by
  refine ⟨rfl, rfl, fun n => ?_, rfl, fun _ => rfl, fun _ _ => rfl, by simp [newXS, newYS], by simp [newXS, newYS], rfl, by simp [newXS, newYS], by simp [newXS], by simp [newXS], fun _ => rfl, rfl, rfl, by simp [newYS]⟩
  rw [txOf_not]; rfl
  simp [thereY, newYS]

theorem yi_new : YI newYS := ⟨by simp [newYS], by simp [newYS], by simp [newYS], by simp [newYS], by simp [newYS], by simp [newYS, openN], by simp [newYS], by simp [newYS], rfl, lgv_nil⟩

end

end Go.Proofs.YthbdpfccfcceiaaGreatDoor

namespace Go.Proofs.YthbdpfccfcceiaaGreatDoor
open Go.RowKit

section
variable {R : Ending → World → Prop}

theorem text_same (s : ByteArray) (e : Int) (w : World) (hR : R (.returned (.bool true)) w) :
    Calls Tryz.prog 98 #[.string s, .int .i64 e, .string s, .int .i64 e] w R := by
  go_enter Tryz.func98, Tryz.ntmps98
  go_wp2
  exact hR

def pickN (c : Int) (n : Nat) : Nat := if c < 0 then ((-(c + 1)).tmod n).toNat else (c.tmod n).toNat

theorem pickN_lt (c : Int) (n : Nat) (hn : 0 < n) : pickN c n < n := by
  have h1 : (0 : Int) < n := by omega
  unfold pickN
  split
  · have b1 : 0 ≤ -(c + 1) := by omega
    have m1 := Int.tmod_nonneg (n : Int) b1
    have m2 := Int.tmod_lt_of_pos (-(c + 1)) h1
    omega
  · have b1 : 0 ≤ c := by omega
    have m1 := Int.tmod_nonneg (n : Int) b1
    have m2 := Int.tmod_lt_of_pos c h1
    omega

theorem pick_any (c : Int) (n : Nat) (w : World) (hc : -9223372036854775808 ≤ c ∧ c ≤ 9223372036854775807) (hn : 0 < n) (hn2 : n < 1000000000) (hR : R (.returned (.int .i64 (pickN c n))) w) :
    Calls Tryz.prog 60 #[.int .i64 c, .int .i64 n] w R := by
  have hn0 : (n : Int) ≠ 0 := by omega
  have h1 : (0 : Int) < n := by omega
  have h2 : (n : Int) < 1000000000 := by omega
  by_cases h0 : c < 0
  · have b1 : 0 ≤ -(c + 1) := by omega
    have m1 := Int.tmod_nonneg (n : Int) b1
    have m2 := Int.tmod_lt_of_pos (-(c + 1)) h1
    rw [pickN, if_pos h0, Int.toNat_of_nonneg m1, Int.neg_tmod] at hR
    go_enter Tryz.func60, Tryz.ntmps60
    go_wp2
    exact hR
  · have b1 : 0 ≤ c := by omega
    have m1 := Int.tmod_nonneg (n : Int) b1
    have m2 := Int.tmod_lt_of_pos c h1
    rw [pickN, if_neg h0, Int.toNat_of_nonneg m1, Int.tmod_eq_emod_of_nonneg b1] at hR
    go_enter Tryz.func60, Tryz.ntmps60
    go_wp2
    exact hR

end

end Go.Proofs.YthbdpfccfcceiaaGreatDoor

namespace Go.Proofs.YthbdpfccfcceiaaGreatDoor
open Go.RowKit


def stepV (kind e a b : Int) (s t : ByteArray) (vl vm : Value) : Value := .agg #[.int .i64 kind, .int .i64 e, .int .i64 a, .int .i64 b, .string s, .string t, vl, vm]
def pairV (px py : Nat) : Value := .agg #[.pointer (some ⟨px, 0, none⟩), .pointer (some ⟨py, 0, none⟩)]

/-- The world in which the steps make their calls: the pair and the step laid into blocks of their own. -/
def boxW (w : World) (px py : Nat) (kind e a b : Int) (s t : ByteArray) (vl vm : Value) : World :=
  (w.alloc (.cells #[.pointer (some ⟨px, 0, none⟩), .pointer (some ⟨py, 0, none⟩)] 81)).alloc (.cells #[.int .i64 kind, .int .i64 e, .int .i64 a, .int .i64 b, .string s, .string t, vl, vm] 71)

section
variable {R : Ending → World → Prop}

theorem boxW_kp (w : World) (px py : Nat) (kind e a b : Int) (s t : ByteArray) (vl vm : Value) : Kp (fun _ => False) w (boxW w px py kind e a b s t vl vm) :=
  (Kp.alloc _ _ _).trans (Kp.alloc (fun _ => False) _ _) (fun _ _ h => h)

theorem boxW_size (w : World) (px py : Nat) (kind e a b : Int) (s t : ByteArray) (vl vm : Value) : (boxW w px py kind e a b s t vl vm).heap.size = w.heap.size + 2 := by simp [boxW]

theorem box_pair {w w2 : World} {px py : Nat} {kind e a b : Int} {s t : ByteArray} {vl vm : Value} (h : Kp (fun b => b < w.heap.size) (boxW w px py kind e a b s t vl vm) w2) :
    w2.heap[w.heap.size]? = some (.cells #[.pointer (some ⟨px, 0, none⟩), .pointer (some ⟨py, 0, none⟩)] 81 (0, 0)) := by
  rw [h.block _ (by rw [boxW_size]; omega) (by simp), boxW, Below.heap_alloc _ _ _ (by simp)]
  exact heap_alloc_new w _

theorem box_step {w w2 : World} {px py : Nat} {kind e a b : Int} {s t : ByteArray} {vl vm : Value} (h : Kp (fun b => b < w.heap.size) (boxW w px py kind e a b s t vl vm) w2) :
    w2.heap[w.heap.size + 1]? = some (.cells #[.int .i64 kind, .int .i64 e, .int .i64 a, .int .i64 b, .string s, .string t, vl, vm] 71 (0, 0)) := by
  rw [h.block _ (by rw [boxW_size]; omega) (by simp)]
  have := heap_alloc_new (w.alloc (.cells #[.pointer (some ⟨px, 0, none⟩), .pointer (some ⟨py, 0, none⟩)] 81)) (.cells #[.int .i64 kind, .int .i64 e, .int .i64 a, .int .i64 b, .string s, .string t, vl, vm] 71)
  simpa [boxW] using this

set_option maxRecDepth 20000 in
set_option maxHeartbeats 1000000 in
theorem txs_begin (w : World) (p px py : Nat) (e a b : Int) (s t : ByteArray) (vl vm : Value)
    (hX : Calls Tryz.prog 34 #[.pointer (some ⟨px, 0, none⟩)] (boxW w px py 2 e a b s t vl vm) (fun r w2 => ∃ n er, r = .returned (.tuple #[.int .i64 n, .int .i64 er]) ∧ Kp (fun b => b < w.heap.size) (boxW w px py 2 e a b s t vl vm) w2 ∧
      Calls Tryz.prog 101 #[.pointer (some ⟨py, 0, none⟩)] w2 (fun r' w3 => r' = .returned (.tuple #[.int .i64 n, .int .i64 er]) ∧ R (.returned (.bool true)) w3))) :
    Calls Tryz.prog 61 #[.pointer (some ⟨p, 0, none⟩), pairV px py, stepV 2 e a b s t vl vm] w R := by
  unfold boxW at hX
  have HX := hid_of hX
  unfold pairV stepV
  clear hX
  go_enter Tryz.func61, Tryz.ntmps61
  go_wp2_with (first
    | (go_at_call 34; refine HX.out.mono ?_; rintro r w2 ⟨n, er, rfl, hk, hy⟩; have HY := hid_of hy; have q1 := cell_of (box_pair hk) 1; clear hy hk)
    | (go_at_call 101; refine HY.out.mono ?_; rintro r w3 ⟨rfl, hr⟩)
    | go_in)
  exact hr

set_option maxRecDepth 20000 in
set_option maxHeartbeats 1000000 in
theorem txs_get (w : World) (p px py : Nat) (e a b : Int) (s t : ByteArray) (vl vm : Value)
    (hX : Calls Tryz.prog 102 #[.pointer (some ⟨px, 0, none⟩), .int .i64 a, .string s] (boxW w px py 3 e a b s t vl vm) (fun r w2 => ∃ u er, r = .returned (.tuple #[.string u, .int .i64 er]) ∧ Kp (fun b => b < w.heap.size) (boxW w px py 3 e a b s t vl vm) w2 ∧
      Calls Tryz.prog 103 #[.pointer (some ⟨py, 0, none⟩), .int .i64 a, .string s] w2 (fun r' w3 => r' = .returned (.tuple #[.string u, .int .i64 er]) ∧ R (.returned (.bool true)) w3))) :
    Calls Tryz.prog 61 #[.pointer (some ⟨p, 0, none⟩), pairV px py, stepV 3 e a b s t vl vm] w R := by
  unfold boxW at hX
  have HX := hid_of hX
  unfold pairV stepV
  clear hX
  go_enter Tryz.func61, Tryz.ntmps61
  go_wp2_with (first
    | (go_at_call 102; refine HX.out.mono ?_; rintro r w2 ⟨u, er, rfl, hk, hy⟩; have HY := hid_of hy; have q1 := cell_of (box_pair hk) 1; have q12 := cell_of (box_step hk) 2; have q14 := cell_of (box_step hk) 4; clear hy hk)
    | (go_at_call 103; refine HY.out.mono ?_; rintro r w3 ⟨rfl, hr⟩)
    | go_in)
  exact hr

set_option maxRecDepth 20000 in
set_option maxHeartbeats 1000000 in
theorem txs_scan (w : World) (p px py : Nat) (e a b : Int) (s t : ByteArray) (vl vm : Value)
    (hX : Calls Tryz.prog 104 #[.pointer (some ⟨px, 0, none⟩), .int .i64 a, .string s, .string t] (boxW w px py 4 e a b s t vl vm) (fun r w2 => ∃ v er, r = .returned (.tuple #[v, .int .i64 er]) ∧ Kp (fun b => b < w.heap.size) (boxW w px py 4 e a b s t vl vm) w2 ∧
      Calls Tryz.prog 105 #[.pointer (some ⟨py, 0, none⟩), .int .i64 a, .string s, .string t] w2 (fun r' w3 => ∃ v', r' = .returned (.tuple #[v', .int .i64 er]) ∧ Calls Tryz.prog 100 #[.pointer (some ⟨p, 0, none⟩), v, .int .i64 er, v', .int .i64 er] w3 (fun r w4 => r = .returned (.bool true) ∧ R (.returned (.bool true)) w4)))) :
    Calls Tryz.prog 61 #[.pointer (some ⟨p, 0, none⟩), pairV px py, stepV 4 e a b s t vl vm] w R := by
  unfold boxW at hX
  have HX := hid_of hX
  unfold pairV stepV
  clear hX
  go_enter Tryz.func61, Tryz.ntmps61
  go_wp2_with (first
    | (go_at_call 104; refine HX.out.mono ?_; rintro r w2 ⟨v, er, rfl, hk, hy⟩; have HY := hid_of hy; have q1 := cell_of (box_pair hk) 1; have q12 := cell_of (box_step hk) 2; have q14 := cell_of (box_step hk) 4; have q15 := cell_of (box_step hk) 5; clear hy hk)
    | (go_at_call 105; refine HY.out.mono ?_; rintro r w3 ⟨v', rfl, hp⟩; have HP := hid_of hp; clear hp)
    | (go_at_call 100; refine HP.out.mono ?_; rintro r w4 ⟨rfl, hr⟩)
    | go_in)
  exact hr

set_option maxRecDepth 20000 in
set_option maxHeartbeats 1000000 in
theorem txs_put (w : World) (p px py : Nat) (e a b : Int) (s t : ByteArray) (vl vm : Value)
    (hX : Calls Tryz.prog 35 #[.pointer (some ⟨px, 0, none⟩), .int .i64 a, .string s, .string t] (boxW w px py 5 e a b s t vl vm) (fun r w2 => ∃ er, r = .returned (.int .i64 er) ∧ Kp (fun b => b < w.heap.size) (boxW w px py 5 e a b s t vl vm) w2 ∧
      Calls Tryz.prog 106 #[.pointer (some ⟨py, 0, none⟩), .int .i64 a, .agg #[.string s, .int .i64 0, .bool false, .string t]] w2 (fun r' w3 => r' = .returned (.int .i64 er) ∧ R (.returned (.bool true)) w3))) :
    Calls Tryz.prog 61 #[.pointer (some ⟨p, 0, none⟩), pairV px py, stepV 5 e a b s t vl vm] w R := by
  unfold boxW at hX
  have HX := hid_of hX
  unfold pairV stepV
  clear hX
  go_enter Tryz.func61, Tryz.ntmps61
  go_wp2_with (first
    | (go_at_call 35; refine HX.out.mono ?_; rintro r w2 ⟨er, rfl, hk, hy⟩; have HY := hid_of hy; have q1 := cell_of (box_pair hk) 1; have q12 := cell_of (box_step hk) 2; have q14 := cell_of (box_step hk) 4; have q15 := cell_of (box_step hk) 5; clear hy hk)
    | (go_at_call 106; refine HY.out.mono ?_; rintro r w3 ⟨rfl, hr⟩)
    | go_in)
  exact hr

set_option maxRecDepth 20000 in
set_option maxHeartbeats 1000000 in
theorem txs_delete (w : World) (p px py : Nat) (e a b : Int) (s t : ByteArray) (vl vm : Value)
    (hX : Calls Tryz.prog 73 #[.pointer (some ⟨px, 0, none⟩), .int .i64 a, .string s] (boxW w px py 6 e a b s t vl vm) (fun r w2 => ∃ er, r = .returned (.int .i64 er) ∧ Kp (fun b => b < w.heap.size) (boxW w px py 6 e a b s t vl vm) w2 ∧
      Calls Tryz.prog 106 #[.pointer (some ⟨py, 0, none⟩), .int .i64 a, .agg #[.string s, .int .i64 0, .bool true, .string ⟨#[]⟩]] w2 (fun r' w3 => r' = .returned (.int .i64 er) ∧ R (.returned (.bool true)) w3))) :
    Calls Tryz.prog 61 #[.pointer (some ⟨p, 0, none⟩), pairV px py, stepV 6 e a b s t vl vm] w R := by
  unfold boxW at hX
  have HX := hid_of hX
  unfold pairV stepV
  clear hX
  go_enter Tryz.func61, Tryz.ntmps61
  go_wp2_with (first
    | (go_at_call 73; refine HX.out.mono ?_; rintro r w2 ⟨er, rfl, hk, hy⟩; have HY := hid_of hy; have q1 := cell_of (box_pair hk) 1; have q12 := cell_of (box_step hk) 2; have q14 := cell_of (box_step hk) 4; clear hy hk)
    | (go_at_call 106; refine HY.out.mono ?_; rintro r w3 ⟨rfl, hr⟩)
    | go_in)
  exact hr

set_option maxRecDepth 20000 in
set_option maxHeartbeats 1000000 in
theorem txs_commit (w : World) (p px py : Nat) (e a b : Int) (s t : ByteArray) (vl vm : Value)
    (hX : Calls Tryz.prog 36 #[.pointer (some ⟨px, 0, none⟩), .int .i64 a] (boxW w px py 7 e a b s t vl vm) (fun r w2 => ∃ n er, r = .returned (.tuple #[.int .i64 n, .int .i64 er]) ∧ Kp (fun b => b < w.heap.size) (boxW w px py 7 e a b s t vl vm) w2 ∧
      Calls Tryz.prog 107 #[.pointer (some ⟨py, 0, none⟩), .int .i64 a] w2 (fun r' w3 => r' = .returned (.tuple #[.int .i64 n, .int .i64 er]) ∧ R (.returned (.bool true)) w3))) :
    Calls Tryz.prog 61 #[.pointer (some ⟨p, 0, none⟩), pairV px py, stepV 7 e a b s t vl vm] w R := by
  unfold boxW at hX
  have HX := hid_of hX
  unfold pairV stepV
  clear hX
  go_enter Tryz.func61, Tryz.ntmps61
  go_wp2_with (first
    | (go_at_call 36; refine HX.out.mono ?_; rintro r w2 ⟨n, er, rfl, hk, hy⟩; have HY := hid_of hy; have q1 := cell_of (box_pair hk) 1; have q12 := cell_of (box_step hk) 2; clear hy hk)
    | (go_at_call 107; refine HY.out.mono ?_; rintro r w3 ⟨rfl, hr⟩)
    | go_in)
  exact hr

set_option maxRecDepth 20000 in
set_option maxHeartbeats 1000000 in
theorem txs_abort (w : World) (p px py : Nat) (e a b : Int) (s t : ByteArray) (vl vm : Value)
    (hX : Calls Tryz.prog 108 #[.pointer (some ⟨px, 0, none⟩), .int .i64 a] (boxW w px py 8 e a b s t vl vm) (fun r w2 => ∃ er, r = .returned (.int .i64 er) ∧ Kp (fun b => b < w.heap.size) (boxW w px py 8 e a b s t vl vm) w2 ∧
      Calls Tryz.prog 109 #[.pointer (some ⟨py, 0, none⟩), .int .i64 a] w2 (fun r' w3 => r' = .returned (.int .i64 er) ∧ R (.returned (.bool true)) w3))) :
    Calls Tryz.prog 61 #[.pointer (some ⟨p, 0, none⟩), pairV px py, stepV 8 e a b s t vl vm] w R := by
  unfold boxW at hX
  have HX := hid_of hX
  unfold pairV stepV
  clear hX
  go_enter Tryz.func61, Tryz.ntmps61
  go_wp2_with (first
    | (go_at_call 108; refine HX.out.mono ?_; rintro r w2 ⟨er, rfl, hk, hy⟩; have HY := hid_of hy; have q1 := cell_of (box_pair hk) 1; have q12 := cell_of (box_step hk) 2; clear hy hk)
    | (go_at_call 109; refine HY.out.mono ?_; rintro r w3 ⟨rfl, hr⟩)
    | go_in)
  exact hr

set_option maxRecDepth 20000 in
set_option maxHeartbeats 1000000 in
theorem txs_now (w : World) (p px py : Nat) (e a b : Int) (s t : ByteArray) (vl vm : Value)
    (hX : Calls Tryz.prog 15 #[.pointer (some ⟨px, 0, none⟩)] (boxW w px py 9 e a b s t vl vm) (fun r w2 => ∃ n, r = .returned (.int .i64 n) ∧ Kp (fun b => b < w.heap.size) (boxW w px py 9 e a b s t vl vm) w2 ∧
      w2.cell? ⟨py, 2, none⟩ = some (.int .i64 n) ∧ R (.returned (.bool true)) w2)) :
    Calls Tryz.prog 61 #[.pointer (some ⟨p, 0, none⟩), pairV px py, stepV 9 e a b s t vl vm] w R := by
  unfold boxW at hX
  have HX := hid_of hX
  unfold pairV stepV
  clear hX
  go_enter Tryz.func61, Tryz.ntmps61
  go_wp2_with (first
    | (go_at_call 15; refine HX.out.mono ?_; rintro r w2 ⟨n, rfl, hk, hy, hr⟩; have q1 := cell_of (box_pair hk) 1; clear hk)
    | go_in)
  exact hr

end

end Go.Proofs.YthbdpfccfcceiaaGreatDoor

namespace Go.Proofs.YthbdpfccfcceiaaGreatDoor
open Go.RowKit

def XE (own : Nat → Lab) (c : Nat) (w : World) (p : Nat) (s : XS) : Prop := ∃ mo ph mv mm pt mw sl, XR own c w p s mo ph mv mm pt mw sl

section
variable {own own' : Nat → Lab} {c : Nat} {w w' : World} {p : Nat} {s s' : XS} {N M : Nat → Prop}

theorem XE.frame (h : XE own c w p s) (hb : ∀ b, b < w.heap.size → (own b).c = c → w'.heap[b]? = w.heap[b]?) (ho : ∀ b, b < w.heap.size → (own b).c = c → own' b = own b) : XE own' c w' p s := by
  obtain ⟨mo, ph, mv, mm, pt, mw, sl, h⟩ := h
  exact ⟨mo, ph, mv, mm, pt, mw, sl, h.frame hb ho⟩

/-- A store, and blocks that are not its own. -/
structure Ns (N : Nat → Prop) (own : Nat → Lab) (w : World) : Prop where
  out : ∀ b, N b → b < w.heap.size ∧ (own b).c ≠ 2
  tab : Tab w
  tabN : TabN own 2
def St (N : Nat → Prop) (w : World) (p : Nat) (s : XS) : Prop := ∃ own, XE own 2 w p s ∧ Ns N own w

theorem St.read (h : St N w p s) (k : Kp (fun _ => False) w w') (hM : ∀ b, M b → N b ∨ (w.heap.size ≤ b ∧ b < w'.heap.size)) : St M w' p s := by
  obtain ⟨own, hx, hN⟩ := h
  refine ⟨fun b => if b < w.heap.size then own b else ⟨0, 9, 0, eb⟩, hx.frame (fun b hb _ => k.block b hb (fun e => e)) (fun b hb _ => by simp [hb]), fun b hb => ?_, hN.tab.kept k, by unfold TabN; simp only [hN.tab.lt.1, hN.tab.lt.2, if_true]; exact hN.tabN⟩
  rcases hM b hb with h1 | ⟨h1, h2⟩
  · have h2 := hN.out b h1
    have := k.size
    refine ⟨by omega, ?_⟩
    simp only [h2.1, if_true]
    exact h2.2
  · refine ⟨h2, ?_⟩
    have : ¬ b < w.heap.size := by omega
    simp [this]

theorem St.kept (h : St N w p s) (k : Kp (fun _ => False) w w') : St N w' p s := h.read k (fun _ h => Or.inl h)

theorem St.up (_hx : XE own 2 w p s) (hN : Ns N own w) (k : Kp (fun b => (own b).c = 2) w w') (ho : ∀ b, b < w.heap.size → own' b = own b) (hx' : XE own' 2 w' p s') : St N w' p s' ∧ Kp (fun b => ¬ N b) w w' := by
  refine ⟨⟨own', hx', fun b hb => ?_, hN.tab.kp k hN.tabN.1 hN.tabN.2, by unfold TabN; rw [ho 0 hN.tab.lt.1, ho 1 hN.tab.lt.2]; exact hN.tabN⟩, k.mono (fun b _ e hn => (hN.out b hn).2 e)⟩
  have h1 := hN.out b hb
  have := k.size
  refine ⟨by omega, ?_⟩
  rw [ho b h1.1]; exact h1.2

end

end Go.Proofs.YthbdpfccfcceiaaGreatDoor
