/-
  What Vacuum leaves: the first versions of each key are gone, as many as may go and were wanted; what is told from the horizon on stays.
  What a store tells of a moment stays, whatever is committed behind it; the six keys behind acts.
  What a store tells at each moment from one to another: the law's told; that two such lists are the same.
-/
import Derived.Test.YthbdpfccfcceiaaGreatDoorV7
import Derived.Test.YthbdpfccfcceiaaGreatDoorC4E1
import Derived.Test.YthbdpfccfcceiaaGreatDoorI1
import Derived.Test.YthbdpfccfcceiaaGreatDoorV3
import Derived.Test.YthbdpfccfcceiaaGreatDoorQ1N1
namespace Go.Proofs.YthbdpfccfcceiaaGreatDoor
open Go.RowKit

structure Gone (s s' : XS) (h : Int) (c : ByteArray → Nat) : Prop where
  now : s'.now = s.now
  hor : s'.hor = s.hor
  begun : s'.begun = s.begun
  txs : s'.txs = s.txs
  nopen : s'.nopen = s.nopen
  log : s'.log = s.log
  bk : s'.bk = s.bk
  nv : s'.nv ≤ s.nv
  nm : s'.nm ≤ s.nm
  le : ∀ k, c k ≤ spentX s k h
  mom : ∀ k, s'.mom k = (s.mom k).drop (c k)
  ver : ∀ k m, s'.ver k m = if m ∈ (s.mom k).take (c k) then none else s.ver k m

theorem spentX_congr {s s' : XS} {k : ByteArray} (h1 : s'.mom k = s.mom k) (h2 : ∀ m, s'.ver k m = s.ver k m) (t : Int) : spentX s' k t = spentX s k t := by
  unfold spentX
  rw [h1]
  split
  · rfl
  · rw [h2]

theorem drop_other {s : XS} {k a : ByteArray} (n : Nat) (e : a ≠ k) (t : Int) : spentX (dropX s k n) a t = spentX s a t :=
  spentX_congr (by simp [dropX, updS, e]) (fun m => by simp [dropX, e]) t

theorem le_sum_map {c : ByteArray → Nat} : ∀ {l : List ByteArray} {k : ByteArray}, k ∈ l → c k ≤ (l.map c).sum
  | a :: r, k, h => by
    rw [List.map_cons, List.sum_cons]
    rcases List.mem_cons.1 h with e | h
    · rw [e]; omega
    · have := le_sum_map (c := c) h
      omega

theorem vac_char (h most : Int) : ∀ (ks : List ByteArray) (s : XS) (gone : Int), ks.Pairwise blt → (∀ k ∈ ks, 0 < spentX s k h) →
    ∃ c, Gone s (vacGo h most ks s gone).1 h c ∧ (∀ k, k ∉ ks → c k = 0) ∧ (vacGo h most ks s gone).2 = gone + ((ks.map c).sum : Nat) ∧ ((vacGo h most ks s gone).2 = gone ∨ (vacGo h most ks s gone).2 ≤ most) ∧ ((vacGo h most ks s gone).2 < most → ∀ k ∈ ks, c k = spentX s k h) ∧ (∀ k1 k2, k1 ∈ ks → blt k1 k2 → 0 < c k2 → c k1 = spentX s k1 h)
  | [], s, gone, _, _ => ⟨fun _ => 0, ⟨rfl, rfl, rfl, rfl, rfl, rfl, rfl, Nat.le_refl _, Nat.le_refl _, fun _ => Nat.zero_le _, fun _ => rfl, fun k m => by simp [vacGo]⟩, fun _ _ => rfl, by simp [vacGo], Or.inl rfl, fun _ k hk => (by cases hk), fun k1 _ hk => (by cases hk)⟩
  | k :: r, s, gone, hn, hp => by
    obtain ⟨hkl, hnr⟩ := List.pairwise_cons.1 hn
    have hkr : k ∉ r := fun h => blt_irrefl _ (hkl k h)
    have hk := hp k (by simp)
    by_cases hc : min (spentX s k h : Int) (most - gone) < 1
    · have e : vacGo h most (k :: r) s gone = (s, gone) := by rw [vacGo, if_pos hc]
      rw [e]
      refine ⟨fun _ => 0, ⟨rfl, rfl, rfl, rfl, rfl, rfl, rfl, Nat.le_refl _, Nat.le_refl _, fun _ => Nat.zero_le _, fun _ => rfl, fun k m => by simp⟩, fun _ _ => rfl, ?_, Or.inl rfl, fun hlt => ?_, fun _ _ _ _ h => absurd h (Nat.lt_irrefl 0)⟩
      · have : ((k :: r).map fun _ => 0).sum = 0 := by
          generalize k :: r = l
          induction l with
          | nil => rfl
          | cons a l ih => rw [List.map_cons, List.sum_cons, ih]
        rw [this]; simp
      · exfalso
        have : gone < most := hlt
        omega
    · obtain ⟨n, hn'⟩ : ∃ n : Nat, min (spentX s k h : Int) (most - gone) = n := ⟨(min (spentX s k h : Int) (most - gone)).toNat, by omega⟩
      have e : vacGo h most (k :: r) s gone = vacGo h most r (dropX s k n) (gone + n) := by rw [vacGo, if_neg hc, hn', Int.toNat_natCast]
      rw [e]
      have hr : ∀ a, a ∈ r → a ≠ k := fun a ha e => hkr (e ▸ ha)
      obtain ⟨c1, g, h0, h1, h2, h3, h4⟩ := vac_char h most r (dropX s k n) (gone + n) hnr (fun a ha => by rw [drop_other n (hr a ha)]; exact hp a (List.mem_cons_of_mem _ ha))
      have hck : c1 k = 0 := h0 k hkr
      have hle : n ≤ spentX s k h := by omega
      refine ⟨updS c1 k n, ⟨g.now, g.hor, g.begun, g.txs, g.nopen, g.log, g.bk, Nat.le_trans g.nv (Nat.sub_le _ _), Nat.le_trans g.nm ?_, fun a => ?_, fun a => ?_, fun a m => ?_⟩, fun a ha => ?_, ?_, ?_, fun hlt a ha => ?_, fun k1 k2 hk1 hb hc2 => ?_⟩
      · show (if n = (s.mom k).length then s.nm - 1 else s.nm) ≤ s.nm
        split <;> omega
      · by_cases ea : a = k
        · subst ea; rw [updS_same]; exact hle
        · rw [updS_other _ ea]
          have := g.le a
          rw [drop_other n ea] at this
          exact this
      · rw [g.mom]
        by_cases ea : a = k
        · subst ea
          rw [updS_same, hck]
          simp [dropX, updS]
        · rw [updS_other _ ea]
          simp [dropX, updS, ea]
      · rw [g.ver]
        by_cases ea : a = k
        · subst ea
          rw [updS_same, hck]
          simp [dropX]
        · rw [updS_other _ ea]
          simp [dropX, updS, ea]
      · have ea : a ≠ k := fun e => ha (by rw [e]; simp)
        rw [updS_other _ ea]
        exact h0 a (fun h => ha (List.mem_cons_of_mem _ h))
      · rw [h1, List.map_cons, List.sum_cons, updS_same]
        have : r.map (updS c1 k n) = r.map c1 := List.map_congr_left (fun a ha => updS_other _ (hr a ha) _)
        rw [this]
        omega
      · right
        rcases h2 with h | h <;> omega
      · rcases List.mem_cons.1 ha with rfl | ha'
        · rw [updS_same]
          rw [h1] at hlt
          omega
        · rw [updS_other _ (hr a ha'), h3 hlt a ha', drop_other n (hr a ha')]
      · have e2 : k2 ≠ k := fun e => by
          subst e
          rcases List.mem_cons.1 hk1 with e1 | h1
          · subst e1; exact blt_irrefl _ hb
          · exact blt_irrefl _ (blt_trans hb (hkl k1 h1))
        rw [updS_other _ e2] at hc2
        have hk2 : k2 ∈ r := Classical.byContradiction fun hn => by rw [h0 k2 hn] at hc2; omega
        rcases List.mem_cons.1 hk1 with e1 | hr1
        · subst e1
          rw [updS_same]
          have := le_sum_map (c := c1) hk2
          rw [h1] at h2
          omega
        · rw [updS_other _ (hr k1 hr1), h4 k1 k2 hr1 hb hc2, drop_other n (hr k1 hr1)]

section
variable {s s' : XS} {h : Int} {c : ByteArray → Nat}

theorem take_le (ok : XOk s) (k : ByteArray) {n : Nat} (hn : n ≤ spentX s k h) : ∀ m ∈ (s.mom k).take n, m ≤ h := by
  intro m hm
  have hc : n ≤ (s.mom k).countP (fun m => decide (m ≤ h)) := by
    unfold spentX at hn
    split at hn
    · omega
    · split at hn <;> omega
  have h1 : m ∈ (s.mom k).filter (fun m => decide (m ≤ h)) := by
    rw [filter_take _ _ (ok.up k)]
    exact List.take_subset_take_left _ hc hm
  simpa using (List.mem_filter.1 h1).2

theorem filter_drop (ok : XOk s) (k : ByteArray) {n : Nat} (hn : n ≤ spentX s k h) {t : Int} (ht : h ≤ t) :
    (s.mom k).filter (fun m => decide (m ≤ t)) = (s.mom k).take n ++ ((s.mom k).drop n).filter (fun m => decide (m ≤ t)) := by
  have h1 : ((s.mom k).take n).filter (fun m => decide (m ≤ t)) = (s.mom k).take n := by
    rw [List.filter_eq_self]
    intro m hm
    have := take_le ok k hn m hm
    simp; omega
  have e : s.mom k = (s.mom k).take n ++ (s.mom k).drop n := (List.take_append_drop _ _).symm
  conv => lhs; rw [e, List.filter_append, h1]

theorem not_take (ok : XOk s) (k : ByteArray) {n : Nat} {m : Int} (hm : m ∈ (s.mom k).drop n) : m ∉ (s.mom k).take n := fun h2 => by
  have hp := ok.up k
  rw [← List.take_append_drop n (s.mom k), List.pairwise_append] at hp
  have := hp.2.2 m h2 m hm
  omega

theorem XOk.gone (ok : XOk s) (g : Gone s s' h c) : XOk s' := by
  refine ⟨by rw [g.now]; exact ok.now, by rw [g.hor, g.now]; exact ok.hor, by rw [g.begun]; exact ok.begun, fun k => ?_, fun k m hm => ?_, fun k m => ?_, fun k hk => ?_, fun n t e => ?_, ?_, ?_, by rw [g.log, g.now, g.hor]; exact ok.lgl, by rw [g.log]; exact ok.lgb, by rw [g.log]; exact ok.sy⟩
  · rw [g.mom]; exact List.Pairwise.sublist (List.drop_sublist _ _) (ok.up k)
  · rw [g.mom] at hm; rw [g.now]; exact ok.mom k m (List.mem_of_mem_drop hm)
  · rw [g.ver, g.mom]
    by_cases hm : m ∈ (s.mom k).take (c k)
    · rw [if_pos hm]
      constructor
      · intro h; cases h
      · intro h; exact absurd hm (not_take ok k h)
    · rw [if_neg hm, ok.ver]
      constructor
      · intro h
        rw [← List.take_append_drop (c k) (s.mom k), List.mem_append] at h
        exact h.resolve_left hm
      · exact List.mem_of_mem_drop
  · rw [g.mom] at hk
    exact ok.key k (fun e => hk (by rw [e, List.drop_nil]))
  · rw [g.txs] at e
    have t1 := ok.tx n t e
    exact ⟨by rw [g.begun]; exact t1.num, by rw [g.hor, g.now]; exact t1.sees, t1.nw, t1.keys, t1.pos, t1.vals⟩
  · have := ok.nm; have := g.nm; rw [g.now]; omega
  · have := ok.nv; have := g.nv; rw [g.now]; omega

/-- Nothing that is told of differs. -/
def SameV (a b : ByteArray × Bool) : Prop := a.2 = b.2 ∧ (a.2 = true → a.1 = b.1)

theorem Gone.val (ok : XOk s) (g : Gone s s' h c) (k : ByteArray) {t : Int} (ht : h ≤ t) : SameV (valAt s' k t) (valAt s k t) := by
  have hf := filter_drop ok k (g.le k) ht
  unfold valAt
  rw [g.mom, hf]
  cases e : (((s.mom k).drop (c k)).filter (fun m => decide (m ≤ t))).getLast? with
  | some m =>
    have hm : m ∈ (s.mom k).drop (c k) := (List.mem_filter.1 (List.mem_of_getLast? e)).1
    have e2 : ((s.mom k).take (c k) ++ ((s.mom k).drop (c k)).filter (fun m => decide (m ≤ t))).getLast? = some m := by
      rw [List.getLast?_append, e]; rfl
    have hv : s'.ver k m = s.ver k m := by rw [g.ver, if_neg (not_take ok k hm)]
    simp only [e2, hv]
    exact ⟨rfl, fun _ => rfl⟩
  | none =>
    have hnil : ((s.mom k).drop (c k)).filter (fun m => decide (m ≤ t)) = [] := List.getLast?_eq_none_iff.1 e
    rw [hnil, List.append_nil]
    cases e3 : ((s.mom k).take (c k)).getLast? with
    | none => exact ⟨rfl, fun _ => rfl⟩
    | some m =>
      -- the last of those that went is a deletion
      have hne : (s.mom k).take (c k) ≠ [] := fun h0 => by rw [h0] at e3; cases e3
      have hlen : ((s.mom k).take (c k)).length = c k := by
        have h1 := g.le k
        have h2 := spentX_le s k h
        simp; omega
      have hfh := filter_drop ok k (g.le k) (Int.le_refl h)
      have hnilh : ((s.mom k).drop (c k)).filter (fun m => decide (m ≤ h)) = [] := by
        rw [List.filter_eq_nil_iff] at hnil ⊢
        intro a ha
        have := hnil a ha
        simp at this ⊢
        omega
      rw [hnilh, List.append_nil] at hfh
      have hcnt : (s.mom k).countP (fun m => decide (m ≤ h)) = c k := by rw [List.countP_eq_length_filter, hfh, hlen]
      have hc0 : 0 < c k := by rw [← hlen]; exact List.length_pos_iff.2 hne
      have hle := g.le k
      have hsp : spentX s k h = if ((s.ver k m).getD (eb, false)).2 = true then c k else c k - 1 := by
        unfold spentX
        rw [hfh, e3]
        simp only [hcnt]
      rw [hsp] at hle
      split at hle
      · rename_i hd
        cases hv : s.ver k m with
        | none => rw [hv] at hd; cases hd
        | some v =>
          rw [hv] at hd
          simp only [Option.getD_some] at hd
          refine ⟨?_, fun h => by cases h⟩
          simp only [hv, hd]
          rfl
      · omega

/-- What may still go. -/
theorem Gone.spent (ok : XOk s) (g : Gone s s' h c) (k : ByteArray) : spentX s' k h = spentX s k h - c k := by
  have hf := filter_drop ok k (g.le k) (Int.le_refl h)
  have hle := g.le k
  have hlen : ((s.mom k).take (c k)).length = c k := by
    have h2 := spentX_le s k h
    simp; omega
  have hcnt : (s.mom k).countP (fun m => decide (m ≤ h)) = c k + ((s.mom k).drop (c k)).countP (fun m => decide (m ≤ h)) := by
    rw [List.countP_eq_length_filter, hf, List.length_append, hlen, ← List.countP_eq_length_filter]
  have hub : spentX s k h ≤ (s.mom k).countP (fun m => decide (m ≤ h)) := by
    unfold spentX
    split
    · omega
    · split <;> omega
  cases e : (((s.mom k).drop (c k)).filter (fun m => decide (m ≤ h))).getLast? with
  | none =>
    have hnil := List.getLast?_eq_none_iff.1 e
    have h0 : ((s.mom k).drop (c k)).countP (fun m => decide (m ≤ h)) = 0 := by rw [List.countP_eq_length_filter, hnil]; rfl
    have : spentX s' k h = 0 := by
      unfold spentX
      rw [g.mom, e]
    omega
  | some m =>
    have hm : m ∈ (s.mom k).drop (c k) := (List.mem_filter.1 (List.mem_of_getLast? e)).1
    have e2 : ((s.mom k).filter (fun m => decide (m ≤ h))).getLast? = some m := by rw [hf, List.getLast?_append, e]; rfl
    have hv : s'.ver k m = s.ver k m := by rw [g.ver, if_neg (not_take ok k hm)]
    unfold spentX
    rw [g.mom, e, e2]
    simp only [hv, hcnt]
    split <;> omega

end

end Go.Proofs.YthbdpfccfcceiaaGreatDoor

namespace Go.Proofs.YthbdpfccfcceiaaGreatDoor
open Go.RowKit

theorem valAt_same {s s' : XS} (h1 : s'.mom = s.mom) (h2 : s'.ver = s.ver) (k : ByteArray) (t : Int) : valAt s' k t = valAt s k t := by
  unfold valAt
  rw [h1, h2]

theorem Actd.valAt {s s' : XS} {wr : ByteArray → Option (ByteArray × Bool)} (a : Actd s s' wr) (ok : XOk s) (k : ByteArray) {t : Int} (ht : t ≤ s.now) : valAt s' k t = valAt s k t := by
  have hf : (s'.mom k).filter (fun m => decide (m ≤ t)) = (s.mom k).filter (fun m => decide (m ≤ t)) := by
    rw [a.mom]
    split
    · rw [List.filter_append, List.filter_cons_of_neg (by simp; omega)]; simp
    · rfl
  unfold Go.Proofs.YthbdpfccfcceiaaGreatDoor.valAt
  rw [hf]
  cases e : ((s.mom k).filter (fun m => decide (m ≤ t))).getLast? with
  | none => rfl
  | some m =>
    have hm := List.mem_of_getLast? e
    have hm2 := ok.mom k m (List.mem_filter.1 hm).1
    have hv : s'.ver k m = s.ver k m := by rw [a.ver, if_neg (fun h => by have := h.1; omega)]
    simp only [hv]

theorem actWr_keys (a1 a2 a3 : Int) (k : ByteArray) (h : (actWr a1 a2 a3 k).isSome = true) : k ∈ keys6 := by
  unfold actWr at h
  split at h
  · by_cases e : k = keyN (a3.tdiv 3)
    · rw [e]; exact keyN_mem _
    · rw [updS_other _ e] at h
      by_cases e' : k = keyN a1
      · rw [e']; exact keyN_mem _
      · rw [updS_other _ e'] at h; cases h
  · by_cases e' : k = keyN a1
    · rw [e']; exact keyN_mem _
    · rw [updS_other _ e'] at h; cases h

theorem six_mom {s s' : XS} {wr : ByteArray → Option (ByteArray × Bool)} (h : Six s) (hm : ∀ k, s'.mom k = if (wr k).isSome = true then s.mom k ++ [s.now + 1] else s.mom k) (hw : ∀ k, (wr k).isSome = true → k ∈ keys6) : Six s' := fun k hk => by
  rw [hm] at hk
  split at hk
  · exact hw k (by assumption)
  · exact h k hk

theorem Ran.six {l : List A3} {s : XS} (h : Ran l s) : Six s := by
  refine Ran.ind (P := fun _ s => Six s) (fun s h => ?_) (fun l s a nv nm _ _ _ ih => ?_) h
  · intro k hk
    rw [h.mom] at hk
    by_cases e : k = ka
    · rw [e]; exact keyN_mem 0
    · rw [if_neg e] at hk; exact absurd rfl hk
  · exact six_mom ih (fun k => rfl) (actWr_keys _ _ _)

end Go.Proofs.YthbdpfccfcceiaaGreatDoor

namespace Go.Proofs.YthbdpfccfcceiaaGreatDoor
open Go.RowKit Go.Maps

theorem infoPairs : (Tryz.prog.info? 43).map (fun i => (i.zero, i.size, i.bytes)) = some (some (.slice none 0 0), 1, 24) := by kernel_rfl

/-- Lists of pairs in memory. -/
def ToldAt (lo hi : Nat) (w : World) (v : Value) (n : Nat) (L : Nat → List (ByteArray × ByteArray)) : Prop :=
  ∃ a cap, v = .slice a n cap ∧ hi ≤ w.heap.size ∧ (0 < n → ∃ g, a = some ⟨g, 0, none⟩ ∧ lo ≤ g ∧ g < hi ∧ ∀ j, j < n → ∃ v', w.cell? ⟨g, j, none⟩ = some v' ∧ PairsAt lo hi w v' (L j))

theorem ToldAt.kp {S : Nat → Prop} {lo hi n : Nat} {w w' : World} {v : Value} {L : Nat → List (ByteArray × ByteArray)} (h : ToldAt lo hi w v n L) (k : Kp S w w') (hs : ∀ b, lo ≤ b → b < hi → ¬ S b) : ToldAt lo hi w' v n L := by
  obtain ⟨a, cap, rfl, hh, h⟩ := h
  refine ⟨a, cap, rfl, Nat.le_trans hh k.size, fun hl => ?_⟩
  obtain ⟨g, rfl, h1, h2, h3⟩ := h hl
  refine ⟨g, rfl, h1, h2, fun j hj => ?_⟩
  obtain ⟨v', h4, h5⟩ := h3 j hj
  exact ⟨v', (k.cell (a := ⟨g, j, none⟩) (by show g < _; omega) (hs g h1 h2)).trans h4, h5.kp k hs⟩

theorem PairsAt.wide {lo hi hi' : Nat} {w : World} {v : Value} {l : List (ByteArray × ByteArray)} (h : PairsAt lo hi w v l) {lo' : Nat} (h1 : lo' ≤ lo) (h2 : hi ≤ hi') (h3 : hi' ≤ w.heap.size) : PairsAt lo' hi' w v l := by
  obtain ⟨a, cap, rfl, hh, h⟩ := h
  refine ⟨a, cap, rfl, h3, fun hl => ?_⟩
  obtain ⟨g, rfl, b1, b2, b3⟩ := h hl
  exact ⟨g, rfl, by omega, by omega, b3⟩

section
variable {R : Ending → World → Prop}

set_option maxRecDepth 20000 in
set_option maxHeartbeats 1000000 in
theorem told_walk (w : World) (p : Nat) (t0 t1 : Int) (hb : 0 ≤ t0 ∧ t0 ≤ t1 ∧ t1 < 100000) (f : Int → List (ByteArray × ByteArray))
    (H : ∀ t wr, Kp (fun _ => False) w wr → t0 ≤ t → t ≤ t1 → Calls Tryz.prog 27 #[.pointer (some ⟨p, 0, none⟩), .int .i64 t, .string ⟨#[]⟩, .string ⟨#[126]⟩] wr fun r w' => ∃ a cap, r = .returned (.tuple #[.slice a (f t).length cap, .int .i64 0]) ∧ Kp (fun _ => False) wr w' ∧ PairsAt wr.heap.size w'.heap.size w' (.slice a (f t).length cap) (f t))
    (hR : ∀ w' v, Kp (fun _ => False) w w' → ToldAt w.heap.size w'.heap.size w' v (t1 - t0 + 1).toNat (fun j => f (t0 + j)) → R (.returned (.tuple #[v, .bool true])) w') :
    Calls Tryz.prog 18 #[.pointer (some ⟨p, 0, none⟩), .int .i64 t0, .int .i64 t1] w R := by
  have HH := hid_of H
  have HR := hid_of hR
  obtain ⟨b0, b1, b2⟩ := hb
  obtain ⟨i0, hi, hz0, hz1, hz2⟩ := info_parts infoPairs
  clear H hR
  go_enter Tryz.func18, Tryz.ntmps18
  go_wp2
  go_loopw [8, 9, 10, 11] (fun v8 v9 _ _ wr => ∃ (i : Nat) (vs : List Value), t0 + i ≤ t1 + 1 ∧ v9 = .int .i64 (t0 + i) ∧ Kp (fun _ => False) w wr ∧ wr.ownsRow w.heap.size 43 1 v8 i vs ∧ ∀ j, j < i → ∃ v', vs[j]? = some v' ∧ PairsAt w.heap.size wr.heap.size wr v' (f (t0 + j)) ∧ (f (t0 + j) ≠ [] → v'.ownBlock ≠ v8.ownBlock))
    (fun _ v9 _ _ _ => (t1 + 1 - intOf v9).toNat)
  case atStart => exact ⟨0, [], by omega, by simp, Kp.refl _ _, World.ownsRow_nil _ _ _ _, fun j hj => by omega⟩
  case round =>
    obtain ⟨i, vs, hi1, rfl, hkp, hrow, hps⟩ := hrel
    have HPS := hid_of hps
    have HKP := hid_of hkp
    clear hps
    by_cases hlt : t0 + i ≤ t1
    · have HC := hid_of (HH.out (t0 + i) wr hkp (by omega) hlt)
      have HB := hid_of (show i < 100000 by omega)
      clear hkp
      go_wp2_with (first
        | (go_at_call 27; refine Calls.mono HC.out ?_; rintro r w2 ⟨a, cap, rfl, hk2, hp2⟩; have hrow2 := ownsRow_kp hrow hk2 (fun _ _ h => h); have HK2 := hid_of hk2; have HP2 := hid_of hp2; clear hk2 hp2)
        | (at_builtin; refine wpList_append_own_at _ rfl _ _ 39 rfl w.heap.size 43 i0 (.slice none 0 0) 1 24 Tryz.underlying39 hi hz0 hz1 hz2 rfl (by decide) _ _ _ rfl (hrow2.alloc _) ⟨w2.heap.size, 0, none⟩ 1 1 [.slice a (f (t0 + i)).length cap] rfl rfl (cell_one_new _ _ _) (by simp [Value.oneCell']) (by have := HB.out; unfold maxLen; omega) (by have := HB.out; omega) (by have := HKP.out.size; have := HK2.out.size; simp; omega) ?_; intro v' w3 hown' hgrow hnil hloc)
        | go_in)
      have hb8 : ∀ b, Value.ownBlock u8 = some b → w.heap.size ≤ b := fun b hb => (hrow2.lt b hb).1
      have K23 : Kp (fun b => Value.ownBlock u8 = some b) w2 w3 := (Kp.alloc (fun b => Value.ownBlock u8 = some b) w2 _).trans (Kp.of_grown (S := fun b => Value.ownBlock u8 = some b) hgrow (fun _ h => h)) (fun _ _ h => h)
      go_roundw
      case rel =>
        have hk13 : Kp (fun _ => False) w w3 := (HKP.out.trans HK2.out (fun _ _ h => h)).trans K23 (fun b hb h => by have := hb8 b h; omega)
        refine ⟨i + 1, vs ++ [.slice a (f (t0 + i)).length cap], by omega, by go_num, hk13, hown', fun j hj => ?_⟩
        have hlen : vs.length = i := by have := hrow.1; omega
        have hz1 := HKP.out.size
        have hz2 := HK2.out.size
        have hz3 := K23.size
        have apart : ∀ (x : Value) (l : List (ByteArray × ByteArray)), PairsAt w.heap.size w2.heap.size w2 x l → (l ≠ [] → x.ownBlock ≠ Value.ownBlock u8) → PairsAt w.heap.size w3.heap.size w3 x l ∧ (l ≠ [] → x.ownBlock ≠ v'.ownBlock) := fun x l hp hne => by
          obtain ⟨a', cap', rfl, hh, hp⟩ := hp
          refine ⟨⟨a', cap', rfl, Nat.le_refl _, fun hl => ?_⟩, fun hl => ?_⟩
          · obtain ⟨g, rfl, q1, q2, q3⟩ := hp hl
            have hgn : ¬ Value.ownBlock u8 = some g := fun e => hne hl (by rw [e]; rfl)
            exact ⟨g, rfl, q1, by omega, fun m hm => ⟨(K23.cell (a := ⟨g, m * 2, none⟩) q2 hgn).trans (q3 m hm).1, (K23.cell (a := ⟨g, m * 2 + 1, none⟩) q2 hgn).trans (q3 m hm).2⟩⟩
          · obtain ⟨g, rfl, q1, q2, q3⟩ := hp hl
            rcases hloc with e | e
            · rw [e]; exact hne hl
            · rw [e]
              simp [Value.ownBlock]
              omega
        by_cases e : j = i
        · rw [e]
          refine ⟨.slice a (f (t0 + i)).length cap, by rw [List.getElem?_append_right (by omega), hlen, Nat.sub_self]; rfl, ?_⟩
          refine apart _ _ (HP2.out.wide (lo' := w.heap.size) (hi' := w2.heap.size) hz1 (Nat.le_refl _) (Nat.le_refl _)) (fun hl => ?_)
          obtain ⟨a', cap', e', _, hp⟩ := HP2.out
          cases e'
          obtain ⟨g, rfl, q1, q2, q3⟩ := hp hl
          intro e
          have := (hrow.lt g (by rw [← e]; rfl)).2
          omega
        · obtain ⟨v'', h4, h5, h6⟩ := HPS.out j (by omega)
          refine ⟨v'', by rw [List.getElem?_append_left (by omega)]; exact h4, ?_⟩
          exact apart _ _ ((h5.kp HK2.out (fun _ _ _ h => h)).wide (Nat.le_refl _) hz2 (Nat.le_refl _)) h6
      case measure => simp [intOf]; omega
    · have hie : t0 + i = t1 + 1 := by omega
      have hF := HR.out wr u8 hkp ?_
      · have HF := hid_of hF
        clear hkp hF
        go_wp2
        exact HF.out
      · have hn : (t1 - t0 + 1).toNat = i := by omega
        rw [hn]
        have hlen : vs.length = i := by have := hrow.1; omega
        rcases hrow.2 with ⟨e, h0⟩ | ⟨g, cap, cur, e, hb, hg, hnc, _, hcs, ht⟩
        · exact ⟨none, 0, by rw [e, h0], Nat.le_refl _, fun h => by omega⟩
        · refine ⟨_, cap, e, Nat.le_refl _, fun _ => ⟨g, rfl, hb, block_lt hg, fun j hj => ?_⟩⟩
          obtain ⟨v', h4, h5, _⟩ := HPS.out j hj
          refine ⟨v', ?_, h5⟩
          rw [cell_of hg, ← Array.getElem?_toList, ← h4, ← ht, List.getElem?_take, if_pos (by omega)]

end

end Go.Proofs.YthbdpfccfcceiaaGreatDoor
