/-
  What Vacuum leaves: the first versions of each key are gone, as many as may go and were wanted; what is told from the horizon on stays.
-/
import Derived.Test.YthbdpfccfcceiaaGreatDoorV7E1
namespace Go.Proofs.YthbdpfccfcceiaaGreatDoor
open Go.RowKit

structure Gone (s s' : XS) (h : Int) (c : ByteArray → Nat) : Prop where
  now : s'.now = s.now
  hor : s'.hor = s.hor
  begun : s'.begun = s.begun
  txs : s'.txs = s.txs
  nopen : s'.nopen = s.nopen
  log : s'.log = s.log
  bk : s'.bk = s.bk
  nv : s'.nv ≤ s.nv
  nm : s'.nm ≤ s.nm
  le : ∀ k, c k ≤ spentX s k h
  mom : ∀ k, s'.mom k = (s.mom k).drop (c k)
  ver : ∀ k m, s'.ver k m = if m ∈ (s.mom k).take (c k) then none else s.ver k m

theorem spentX_congr {s s' : XS} {k : ByteArray} (h1 : s'.mom k = s.mom k) (h2 : ∀ m, s'.ver k m = s.ver k m) (t : Int) : spentX s' k t = spentX s k t := by
  unfold spentX
  rw [h1]
  split
  · rfl
  · rw [h2]

theorem drop_other {s : XS} {k a : ByteArray} (n : Nat) (e : a ≠ k) (t : Int) : spentX (dropX s k n) a t = spentX s a t :=
  spentX_congr (by simp [dropX, updS, e]) (fun m => by simp [dropX, e]) t

theorem le_sum_map {c : ByteArray → Nat} : ∀ {l : List ByteArray} {k : ByteArray}, k ∈ l → c k ≤ (l.map c).sum
  | a :: r, k, h => by
    rw [List.map_cons, List.sum_cons]
    rcases List.mem_cons.1 h with e | h
    · rw [e]; omega
    · have := le_sum_map (c := c) h
      omega

theorem vac_char (h most : Int) : ∀ (ks : List ByteArray) (s : XS) (gone : Int), ks.Pairwise blt → (∀ k ∈ ks, 0 < spentX s k h) →
    ∃ c, Gone s (vacGo h most ks s gone).1 h c ∧ (∀ k, k ∉ ks → c k = 0) ∧ (vacGo h most ks s gone).2 = gone + ((ks.map c).sum : Nat) ∧ ((vacGo h most ks s gone).2 = gone ∨ (vacGo h most ks s gone).2 ≤ most) ∧ ((vacGo h most ks s gone).2 < most → ∀ k ∈ ks, c k = spentX s k h) ∧ (∀ k1 k2, k1 ∈ ks → blt k1 k2 → 0 < c k2 → c k1 = spentX s k1 h)
  | [], s, gone, _, _ => ⟨fun _ => 0, ⟨rfl, rfl, rfl, rfl, rfl, rfl, rfl, Nat.le_refl _, Nat.le_refl _, fun _ => Nat.zero_le _, fun _ => rfl, fun k m => by simp [vacGo]⟩, fun _ _ => rfl, by simp [vacGo], Or.inl rfl, fun _ k hk => (by cases hk), fun k1 _ hk => (by cases hk)⟩
  | k :: r, s, gone, hn, hp => by
    obtain ⟨hkl, hnr⟩ := List.pairwise_cons.1 hn
    have hkr : k ∉ r := fun h => blt_irrefl _ (hkl k h)
    have hk := hp k (by simp)
    by_cases hc : min (spentX s k h : Int) (most - gone) < 1
    · have e : vacGo h most (k :: r) s gone = (s, gone) := by rw [vacGo, if_pos hc]
      rw [e]
      refine ⟨fun _ => 0, ⟨rfl, rfl, rfl, rfl, rfl, rfl, rfl, Nat.le_refl _, Nat.le_refl _, fun _ => Nat.zero_le _, fun _ => rfl, fun k m => by simp⟩, fun _ _ => rfl, ?_, Or.inl rfl, fun hlt => ?_, fun _ _ _ _ h => absurd h (Nat.lt_irrefl 0)⟩
      · have : ((k :: r).map fun _ => 0).sum = 0 := by
          generalize k :: r = l
          induction l with
          | nil => rfl
          | cons a l ih => rw [List.map_cons, List.sum_cons, ih]
        rw [this]; simp
      · exfalso
        have : gone < most := hlt
        omega
    · obtain ⟨n, hn'⟩ : ∃ n : Nat, min (spentX s k h : Int) (most - gone) = n := ⟨(min (spentX s k h : Int) (most - gone)).toNat, by omega⟩
      have e : vacGo h most (k :: r) s gone = vacGo h most r (dropX s k n) (gone + n) := by rw [vacGo, if_neg hc, hn', Int.toNat_natCast]
      rw [e]
      have hr : ∀ a, a ∈ r → a ≠ k := fun a ha e => hkr (e ▸ ha)
      obtain ⟨c1, g, h0, h1, h2, h3, h4⟩ := vac_char h most r (dropX s k n) (gone + n) hnr (fun a ha => by rw [drop_other n (hr a ha)]; exact hp a (List.mem_cons_of_mem _ ha))
      have hck : c1 k = 0 := h0 k hkr
      have hle : n ≤ spentX s k h := by omega
      refine ⟨updS c1 k n, ⟨g.now, g.hor, g.begun, g.txs, g.nopen, g.log, g.bk, Nat.le_trans g.nv (Nat.sub_le _ _), Nat.le_trans g.nm ?_, fun a => ?_, fun a => ?_, fun a m => ?_⟩, fun a ha => ?_, ?_, ?_, fun hlt a ha => ?_, fun k1 k2 hk1 hb hc2 => ?_⟩
      · show (if n = (s.mom k).length then s.nm - 1 else s.nm) ≤ s.nm
        split <;> omega
      · by_cases ea : a = k
        · subst ea; rw [updS_same]; exact hle
        · rw [updS_other _ ea]
          have := g.le a
          rw [drop_other n ea] at this
          exact this
      · rw [g.mom]
        by_cases ea : a = k
        · subst ea
          rw [updS_same, hck]
          simp [dropX, updS]
        · rw [updS_other _ ea]
          simp [dropX, updS, ea]
      · rw [g.ver]
        by_cases ea : a = k
        · subst ea
          rw [updS_same, hck]
          simp [dropX]
        · rw [updS_other _ ea]
          simp [dropX, updS, ea]
      · have ea : a ≠ k := fun e => ha (by rw [e]; simp)
        rw [updS_other _ ea]
        exact h0 a (fun h => ha (List.mem_cons_of_mem _ h))
      · rw [h1, List.map_cons, List.sum_cons, updS_same]
        have : r.map (updS c1 k n) = r.map c1 := List.map_congr_left (fun a ha => updS_other _ (hr a ha) _)
        rw [this]
        omega
      · right
        rcases h2 with h | h <;> omega
      · rcases List.mem_cons.1 ha with rfl | ha'
        · rw [updS_same]
          rw [h1] at hlt
          omega
        · rw [updS_other _ (hr a ha'), h3 hlt a ha', drop_other n (hr a ha')]
      · have e2 : k2 ≠ k := fun e => by
          subst e
          rcases List.mem_cons.1 hk1 with e1 | h1
          · subst e1; exact blt_irrefl _ hb
          · exact blt_irrefl _ (blt_trans hb (hkl k1 h1))
        rw [updS_other _ e2] at hc2
        have hk2 : k2 ∈ r := Classical.byContradiction fun hn => by rw [h0 k2 hn] at hc2; omega
        rcases List.mem_cons.1 hk1 with e1 | hr1
        · subst e1
          rw [updS_same]
          have := le_sum_map (c := c1) hk2
          rw [h1] at h2
          omega
        · rw [updS_other _ (hr k1 hr1), h4 k1 k2 hr1 hb hc2, drop_other n (hr k1 hr1)]

section
variable {s s' : XS} {h : Int} {c : ByteArray → Nat}

theorem take_le (ok : XOk s) (k : ByteArray) {n : Nat} (hn : n ≤ spentX s k h) : ∀ m ∈ (s.mom k).take n, m ≤ h := by
  intro m hm
  have hc : n ≤ (s.mom k).countP (fun m => decide (m ≤ h)) := by
    unfold spentX at hn
    split at hn
    · omega
    · split at hn <;> omega
  have h1 : m ∈ (s.mom k).filter (fun m => decide (m ≤ h)) := by
    rw [filter_take _ _ (ok.up k)]
    exact List.take_subset_take_left _ hc hm
  simpa using (List.mem_filter.1 h1).2

theorem filter_drop (ok : XOk s) (k : ByteArray) {n : Nat} (hn : n ≤ spentX s k h) {t : Int} (ht : h ≤ t) :
    (s.mom k).filter (fun m => decide (m ≤ t)) = (s.mom k).take n ++ ((s.mom k).drop n).filter (fun m => decide (m ≤ t)) := by
  have h1 : ((s.mom k).take n).filter (fun m => decide (m ≤ t)) = (s.mom k).take n := by
    rw [List.filter_eq_self]
    intro m hm
    have := take_le ok k hn m hm
    simp; omega
  have e : s.mom k = (s.mom k).take n ++ (s.mom k).drop n := (List.take_append_drop _ _).symm
  conv => lhs; rw [e, List.filter_append, h1]

theorem not_take (ok : XOk s) (k : ByteArray) {n : Nat} {m : Int} (hm : m ∈ (s.mom k).drop n) : m ∉ (s.mom k).take n := fun h2 => by
  have hp := ok.up k
  rw [← List.take_append_drop n (s.mom k), List.pairwise_append] at hp
  have := hp.2.2 m h2 m hm
  omega

theorem XOk.gone (ok : XOk s) (g : Gone s s' h c) : XOk s' := by
  refine ⟨by rw [g.now]; exact ok.now, by rw [g.hor, g.now]; exact ok.hor, by rw [g.begun]; exact ok.begun, fun k => ?_, fun k m hm => ?_, fun k m => ?_, fun k hk => ?_, fun n t e => ?_, ?_, ?_, by rw [g.log, g.now, g.hor]; exact ok.lgl, by rw [g.log]; exact ok.lgb, by rw [g.log]; exact ok.sy⟩
  · rw [g.mom]; exact List.Pairwise.sublist (List.drop_sublist _ _) (ok.up k)
  · rw [g.mom] at hm; rw [g.now]; exact ok.mom k m (List.mem_of_mem_drop hm)
  · rw [g.ver, g.mom]
    by_cases hm : m ∈ (s.mom k).take (c k)
    · rw [if_pos hm]
      constructor
      · intro h; cases h
      · intro h; exact absurd hm (not_take ok k h)
    · rw [if_neg hm, ok.ver]
      constructor
      · intro h
        rw [← List.take_append_drop (c k) (s.mom k), List.mem_append] at h
        exact h.resolve_left hm
      · exact List.mem_of_mem_drop
  · rw [g.mom] at hk
    exact ok.key k (fun e => hk (by rw [e, List.drop_nil]))
  · rw [g.txs] at e
    have t1 := ok.tx n t e
    exact ⟨by rw [g.begun]; exact t1.num, by rw [g.hor, g.now]; exact t1.sees, t1.nw, t1.keys, t1.pos, t1.vals⟩
  · have := ok.nm; have := g.nm; rw [g.now]; omega
  · have := ok.nv; have := g.nv; rw [g.now]; omega

/-- Nothing that is told of differs. -/
def SameV (a b : ByteArray × Bool) : Prop := a.2 = b.2 ∧ (a.2 = true → a.1 = b.1)

theorem Gone.val (ok : XOk s) (g : Gone s s' h c) (k : ByteArray) {t : Int} (ht : h ≤ t) : SameV (valAt s' k t) (valAt s k t) := by
  have hf := filter_drop ok k (g.le k) ht
  unfold valAt
  rw [g.mom, hf]
  cases e : (((s.mom k).drop (c k)).filter (fun m => decide (m ≤ t))).getLast? with
  | some m =>
    have hm : m ∈ (s.mom k).drop (c k) := (List.mem_filter.1 (List.mem_of_getLast? e)).1
    have e2 : ((s.mom k).take (c k) ++ ((s.mom k).drop (c k)).filter (fun m => decide (m ≤ t))).getLast? = some m := by
      rw [List.getLast?_append, e]; rfl
    have hv : s'.ver k m = s.ver k m := by rw [g.ver, if_neg (not_take ok k hm)]
    simp only [e2, hv]
    exact ⟨rfl, fun _ => rfl⟩
  | none =>
    have hnil : ((s.mom k).drop (c k)).filter (fun m => decide (m ≤ t)) = [] := List.getLast?_eq_none_iff.1 e
    rw [hnil, List.append_nil]
    cases e3 : ((s.mom k).take (c k)).getLast? with
    | none => exact ⟨rfl, fun _ => rfl⟩
    | some m =>
      -- the last of those that went is a deletion
      have hne : (s.mom k).take (c k) ≠ [] := fun h0 => by rw [h0] at e3; cases e3
      have hlen : ((s.mom k).take (c k)).length = c k := by
        have h1 := g.le k
        have h2 := spentX_le s k h
        simp; omega
      have hfh := filter_drop ok k (g.le k) (Int.le_refl h)
      have hnilh : ((s.mom k).drop (c k)).filter (fun m => decide (m ≤ h)) = [] := by
        rw [List.filter_eq_nil_iff] at hnil ⊢
        intro a ha
        have := hnil a ha
        simp at this ⊢
        omega
      rw [hnilh, List.append_nil] at hfh
      have hcnt : (s.mom k).countP (fun m => decide (m ≤ h)) = c k := by rw [List.countP_eq_length_filter, hfh, hlen]
      have hc0 : 0 < c k := by rw [← hlen]; exact List.length_pos_iff.2 hne
      have hle := g.le k
      have hsp : spentX s k h = if ((s.ver k m).getD (eb, false)).2 = true then c k else c k - 1 := by
        unfold spentX
        rw [hfh, e3]
        simp only [hcnt]
      rw [hsp] at hle
      split at hle
      · rename_i hd
        cases hv : s.ver k m with
        | none => rw [hv] at hd; cases hd
        | some v =>
          rw [hv] at hd
          simp only [Option.getD_some] at hd
          refine ⟨?_, fun h => by cases h⟩
          simp only [hv, hd]
          rfl
      · omega

/-- What may still go. -/
theorem Gone.spent (ok : XOk s) (g : Gone s s' h c) (k : ByteArray) : spentX s' k h = spentX s k h - c k := by
  have hf := filter_drop ok k (g.le k) (Int.le_refl h)
  have hle := g.le k
  have hlen : ((s.mom k).take (c k)).length = c k := by
    have h2 := spentX_le s k h
    simp; omega
  have hcnt : (s.mom k).countP (fun m => decide (m ≤ h)) = c k + ((s.mom k).drop (c k)).countP (fun m => decide (m ≤ h)) := by
    rw [List.countP_eq_length_filter, hf, List.length_append, hlen, ← List.countP_eq_length_filter]
  have hub : spentX s k h ≤ (s.mom k).countP (fun m => decide (m ≤ h)) := by
    unfold spentX
    split
    · omega
    · split <;> omega
  cases e : (((s.mom k).drop (c k)).filter (fun m => decide (m ≤ h))).getLast? with
  | none =>
    have hnil := List.getLast?_eq_none_iff.1 e
    have h0 : ((s.mom k).drop (c k)).countP (fun m => decide (m ≤ h)) = 0 := by rw [List.countP_eq_length_filter, hnil]; rfl
    have : spentX s' k h = 0 := by
      unfold spentX
      rw [g.mom, e]
    omega
  | some m =>
    have hm : m ∈ (s.mom k).drop (c k) := (List.mem_filter.1 (List.mem_of_getLast? e)).1
    have e2 : ((s.mom k).filter (fun m => decide (m ≤ h))).getLast? = some m := by rw [hf, List.getLast?_append, e]; rfl
    have hv : s'.ver k m = s.ver k m := by rw [g.ver, if_neg (not_take ok k hm)]
    unfold spentX
    rw [g.mom, e, e2]
    simp only [hv, hcnt]
    split <;> omega

end

end Go.Proofs.YthbdpfccfcceiaaGreatDoor
