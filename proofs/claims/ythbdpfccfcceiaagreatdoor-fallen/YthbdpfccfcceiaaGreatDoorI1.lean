/-
  The six keys of the laws: what Range, Scan and Get tell of a store that has no others.
-/
import Derived.Test.YthbdpfccfcceiaaGreatDoorV2E9
import Derived.Test.YthbdpfccfcceiaaGreatDoorE5E6
namespace Go.Proofs.YthbdpfccfcceiaaGreatDoor
open Go.RowKit Go.Maps

def keys6 : List ByteArray := [k6 0, k6 1, k6 2, k6 3, k6 4, k6 5]

theorem keyN_mem (n : Int) : keyN n ∈ keys6 := by
  have b1 := pk_lt n (n := 6) (by decide)
  have hq : pk n 6 = 0 ∨ pk n 6 = 1 ∨ pk n 6 = 2 ∨ pk n 6 = 3 ∨ pk n 6 = 4 ∨ pk n 6 = 5 := by omega
  unfold keyN keys6
  rcases hq with e | e | e | e | e | e <;> rw [e] <;> simp

theorem keys6_sorted : keys6.Pairwise blt := by
  have h : keys6.Pairwise (fun a b => a.data.toList < b.data.toList) := by decide
  exact h
theorem keys6_in : ∀ k ∈ keys6, inR ⟨#[]⟩ ⟨#[126]⟩ k = true := by decide +kernel
theorem keys6_key : ∀ k ∈ keys6, isKey k = true := by decide
theorem keys6_at (i : Nat) (h : i < 6) : keys6[i]? = some (keyN i) := by
  match i, h with
  | 0, _ => rfl
  | 1, _ => rfl
  | 2, _ => rfl
  | 3, _ => rfl
  | 4, _ => rfl
  | 5, _ => rfl

/-- No key but the six. -/
def Six (s : XS) : Prop := ∀ k, s.mom k ≠ [] → k ∈ keys6

def pairs6 (g : ByteArray → ByteArray × Bool) : List (ByteArray × ByteArray) := keys6.filterMap (pairOf g)

theorem pairs6_len (g : ByteArray → ByteArray × Bool) : (pairs6 g).length ≤ 6 := List.length_filterMap_le _ _

theorem filterMap_pairs (g : ByteArray → ByteArray × Bool) : ∀ l : List ByteArray, l.filterMap (pairOf g) = (l.filter fun k => (g k).2).map fun k => (k, (g k).1)
  | [] => rfl
  | k :: r => by
    cases h : (g k).2
    · rw [List.filterMap_cons_none (by simp [pairOf, h]), List.filter_cons_of_neg (by simp [h]), filterMap_pairs g r]
    · rw [List.filterMap_cons_some (b := (k, (g k).1)) (by simp [pairOf, h]), List.filter_cons_of_pos (by simp [h]), filterMap_pairs g r]; rfl

theorem sorted_same {l l' : List ByteArray} (h : l.Pairwise blt) (h' : l'.Pairwise blt) (hm : ∀ k, k ∈ l ↔ k ∈ l') : l = l' := by
  have nd : ∀ {l : List ByteArray}, l.Pairwise blt → l.Nodup := fun {l} h => by
    unfold List.Nodup
    exact h.imp (fun {a b} hab e => by subst e; exact blt_irrefl _ hab)
  exact List.Perm.eq_of_pairwise (le := blt) (fun a b _ _ h1 h2 => absurd (blt_trans h1 h2) (blt_irrefl a)) h h' ((List.perm_ext_iff_of_nodup (nd h) (nd h')).2 hm)

theorem pairs_eq (g : ByteArray → ByteArray × Bool) (ks : List ByteArray) (hs : ks.Pairwise blt) (h1 : ∀ k ∈ ks, k ∈ keys6) (h2 : ∀ k ∈ keys6, (g k).2 = true → k ∈ ks) : ks.filterMap (pairOf g) = pairs6 g := by
  unfold pairs6
  rw [filterMap_pairs, filterMap_pairs]
  congr 1
  refine sorted_same (List.Pairwise.filter _ hs) (List.Pairwise.filter _ keys6_sorted) (fun k => ?_)
  rw [List.mem_filter, List.mem_filter]
  exact ⟨fun ⟨a, b⟩ => ⟨h1 k a, b⟩, fun ⟨a, b⟩ => ⟨h2 k a b, b⟩⟩

theorem valAt_nil {s : XS} {k : ByteArray} {t : Int} (h : s.mom k = []) : valAt s k t = (eb, false) := by simp [valAt, h]

/-- Pairs in memory, in a block between two. -/
def PairsAt (lo hi : Nat) (w : World) (v : Value) (l : List (ByteArray × ByteArray)) : Prop :=
  ∃ a cap, v = .slice a l.length cap ∧ hi ≤ w.heap.size ∧ (l ≠ [] → ∃ g, a = some ⟨g, 0, none⟩ ∧ lo ≤ g ∧ g < hi ∧ ∀ j (hj : j < l.length), w.cell? ⟨g, j * 2, none⟩ = some (.string l[j].1) ∧ w.cell? ⟨g, j * 2 + 1, none⟩ = some (.string l[j].2))

theorem PairsAt.kp {S : Nat → Prop} {lo hi : Nat} {w w' : World} {v : Value} {l : List (ByteArray × ByteArray)} (h : PairsAt lo hi w v l) (k : Kp S w w') (hs : ∀ b, lo ≤ b → b < hi → ¬ S b) : PairsAt lo hi w' v l := by
  obtain ⟨a, cap, rfl, hh, h⟩ := h
  refine ⟨a, cap, rfl, Nat.le_trans hh k.size, fun hl => ?_⟩
  obtain ⟨g, rfl, h1, h2, h3⟩ := h hl
  refine ⟨g, rfl, h1, h2, fun j hj => ?_⟩
  have hn := hs g h1 h2
  exact ⟨(k.cell (a := ⟨g, j * 2, none⟩) (by show g < _; omega) hn).trans (h3 j hj).1, (k.cell (a := ⟨g, j * 2 + 1, none⟩) (by show g < _; omega) hn).trans (h3 j hj).2⟩

theorem cells2_at6 (l : List (ByteArray × ByteArray)) (j : Nat) (hj : j < l.length) : (cells2 l)[j * 2]? = some (.string l[j].1) ∧ (cells2 l)[j * 2 + 1]? = some (.string l[j].2) := by
  induction l generalizing j with
  | nil => simp at hj
  | cons a r ih =>
    match j with
    | 0 => exact ⟨rfl, rfl⟩
    | j + 1 =>
      have h := ih j (by simpa using hj)
      have e1 : (j + 1) * 2 = j * 2 + 1 + 1 := by omega
      rw [e1]
      exact ⟨h.1, h.2⟩

theorem PairsAt.of_row {w : World} {base n : Nat} {v : Value} {l : List (ByteArray × ByteArray)} (h : w.ownsRow base 105 2 v n (cells2 l)) : PairsAt base w.heap.size w v l := by
  have hl := h.1
  rw [cells2_len] at hl
  have hn : l.length = n := by omega
  rcases h.2 with ⟨rfl, h0⟩ | ⟨g, cap, cur, rfl, hb, hg, hnc, _, hcs, ht⟩
  · have : l = [] := List.eq_nil_of_length_eq_zero (by omega)
    subst this
    exact ⟨none, 0, rfl, Nat.le_refl _, fun h => absurd rfl h⟩
  · refine ⟨_, cap, by rw [hn], Nat.le_refl _, fun _ => ⟨g, rfl, hb, block_lt hg, fun j hj => ?_⟩⟩
    have hat : ∀ i, i < n * 2 → cur[i]? = (cells2 l)[i]? := fun i hi => by
      rw [← ht, List.getElem?_take, if_pos hi, Array.getElem?_toList]
    have := cells2_at6 l j hj
    exact ⟨by rw [cell_of hg, hat _ (by omega)]; exact this.1, by rw [cell_of hg, hat _ (by omega)]; exact this.2⟩

section
variable {N : Nat → Prop} {w : World} {p : Nat} {s : XS}
variable {R : Ending → World → Prop}

theorem XOk.nmOk (ok : XOk s) : s.nm < 100000 := by have := ok.nm; have := ok.now; omega

theorem e_range (h : St N w p s) (ok : XOk s) (six : Six s) (m : Int) (h1 : s.hor ≤ m) (h2 : m ≤ s.now)
    (hR : ∀ w' v, Kp (fun _ => False) w w' → PairsAt w.heap.size w'.heap.size w' v (pairs6 fun k => valAt s k m) → R (.returned (.tuple #[v, .int .i64 0])) w') :
    Calls Tryz.prog 27 #[.pointer (some ⟨p, 0, none⟩), .int .i64 m, .string ⟨#[]⟩, .string ⟨#[126]⟩] w R := by
  obtain ⟨own, ⟨mo, ph, mv, mm, pt, mw, sl, h⟩, hN⟩ := h
  refine x_range m _ _ (x_between h m _ _ ok.nmOk ok.momOk ok.keysM (fun h0 => by omega) (fun _ h0 => by omega) (fun _ _ w' v ks k hs hm _ hrow => ⟨_, _, rfl, hR w' v k ?_⟩))
  have e : ks.filterMap (pairOf fun k => valAt s k m) = pairs6 fun k => valAt s k m := pairs_eq _ ks hs (fun k hk => six k ((hm k).1 hk).1) (fun k hk hv => (hm k).2 ⟨fun e => (by rw [valAt_nil e] at hv; exact absurd hv (by simp)), keys6_in k hk⟩)
  rw [e] at hrow
  exact PairsAt.of_row hrow

theorem e_scan (h : St N w p s) (ok : XOk s) (six : Six s) {tx : Int} (hwx : (Lit.int .i64 tx).wf = true) {x : XT} (e : s.txs tx = some x) (hx : ∀ k, (x.wr k).isSome = true → k ∈ keys6)
    (hR : ∀ w' v, Kp (fun _ => False) w w' → PairsAt w.heap.size w'.heap.size w' v (pairs6 (seesX s x)) → R (.returned (.tuple #[v, .int .i64 0])) w') :
    Calls Tryz.prog 104 #[.pointer (some ⟨p, 0, none⟩), .int .i64 tx, .string ⟨#[]⟩, .string ⟨#[126]⟩] w R := by
  obtain ⟨own, ⟨mo, ph, mv, mm, pt, mw, sl, h⟩, hN⟩ := h
  refine x_scan h tx hwx _ _ ok.nmOk (fun n t e => (ok.tx n t e).nw) ok.momOk ok.keysM (fun n t e => ok.keysW e) (fun h0 => by rw [e] at h0; cases h0) (fun x1 e1 w' v ks k hs hm _ hrow => ?_)
  rw [e] at e1
  cases e1
  refine hR w' v k ?_
  have e : ks.filterMap (pairOf (seesX s x)) = pairs6 (seesX s x) := pairs_eq _ ks hs (fun k hk => (((hm k).1 hk).1).elim (six k) (hx k)) (fun k hk hv => (hm k).2 ⟨(by
    cases hw : x.wr k with
    | some v => exact Or.inr rfl
    | none =>
      refine Or.inl (fun e => ?_)
      rw [seesX, hw] at hv
      simp only at hv
      rw [valAt_nil e] at hv
      exact absurd hv (by simp)), keys6_in k hk⟩)
  rw [e] at hrow
  exact PairsAt.of_row hrow

theorem e_get (h : St N w p s) (ok : XOk s) {tx : Int} (hwx : (Lit.int .i64 tx).wf = true) {x : XT} (e : s.txs tx = some x) (key : ByteArray) (hk : isKey key = true)
    (h2 : (seesX s x key).2 = false → ∀ w', Kp (fun _ => False) w w' → R (.returned (.tuple #[.string eb, .int .i64 5])) w')
    (h3 : (seesX s x key).2 = true → ∀ w', Kp (fun _ => False) w w' → R (.returned (.tuple #[.string (seesX s x key).1, .int .i64 0])) w') :
    Calls Tryz.prog 102 #[.pointer (some ⟨p, 0, none⟩), .int .i64 tx, .string key] w R := by
  obtain ⟨own, ⟨mo, ph, mv, mm, pt, mw, sl, h⟩, hN⟩ := h
  have hk8 := isKey_le key hk
  refine x_get h tx hwx key (by unfold maxLen; omega) ok.momOk (fun h0 => by rw [e] at h0; cases h0) (fun t _ h0 => by rw [hk] at h0; cases h0) (fun t e1 _ hv w' k => ?_) (fun t e1 _ hv w' k => ?_)
  · rw [e] at e1; cases e1; exact h2 hv w' k
  · rw [e] at e1; cases e1; exact h3 hv w' k

theorem e_get_none (h : St N w p s) (ok : XOk s) {tx : Int} (hwx : (Lit.int .i64 tx).wf = true) (e : s.txs tx = none) (key : ByteArray) (hk : key.size ≤ 8)
    (hR : R (.returned (.tuple #[.string eb, .int .i64 2])) w) :
    Calls Tryz.prog 102 #[.pointer (some ⟨p, 0, none⟩), .int .i64 tx, .string key] w R := by
  obtain ⟨own, ⟨mo, ph, mv, mm, pt, mw, sl, h⟩, hN⟩ := h
  exact x_get h tx hwx key (by unfold maxLen; omega) ok.momOk (fun _ => hR) (fun t e1 => by rw [e] at e1; cases e1) (fun t e1 => by rw [e] at e1; cases e1) (fun t e1 => by rw [e] at e1; cases e1)

set_option maxRecDepth 20000 in
set_option maxHeartbeats 1000000 in
theorem same_any {lo hi lo' hi' : Nat} (va vb : Value) (l : List (ByteArray × ByteArray)) (ha : PairsAt lo hi w va l) (hb : PairsAt lo' hi' w vb l) (hl : l.length < 1000000)
    (hR : ∀ w', Kp (fun _ => False) w w' → R (.returned (.bool true)) w') :
    Calls Tryz.prog 19 #[va, vb] w R := by
  obtain ⟨a, cap, rfl, hh, ha⟩ := ha
  obtain ⟨b, cap', rfl, hh', hb⟩ := hb
  have HA := hid_of ha
  have HB := hid_of hb
  have HR := hid_of hR
  have HS := hid_of (And.intro hh hh')
  have hlb : (l.length : Int) < 1000000 := by omega
  clear ha hb hR hl hh hh'
  go_enter Tryz.func19, Tryz.ntmps19
  go_wp2
  go_loopw [5] (fun v5 wr => ∃ i : Nat, i ≤ l.length ∧ v5 = .int .i64 i ∧ Kp (fun _ => False) w wr) (fun v5 _ => l.length - (intOf v5).toNat)
  case atStart => exact ⟨0, Nat.zero_le _, rfl, Kp.refl _ _⟩
  case round =>
    obtain ⟨i, hile, rfl, hkp⟩ := hrel
    by_cases hlt : i < l.length
    · obtain ⟨g, rfl, hg1, hg2, hc⟩ := HA.out (fun h => by rw [h] at hlt; simp at hlt)
      obtain ⟨g', rfl, hg1', hg2', hc'⟩ := HB.out (fun h => by rw [h] at hlt; simp at hlt)
      have hz := HS.out
      have q0 := (hkp.cell (a := ⟨g, i * 2, none⟩) (by show g < _; omega) (fun h => h)).trans (hc i hlt).1
      have q1 := (hkp.cell (a := ⟨g, i * 2 + 1, none⟩) (by show g < _; omega) (fun h => h)).trans (hc i hlt).2
      have p0 := (hkp.cell (a := ⟨g', i * 2, none⟩) (by show g' < _; omega) (fun h => h)).trans (hc' i hlt).1
      have p1 := (hkp.cell (a := ⟨g', i * 2 + 1, none⟩) (by show g' < _; omega) (fun h => h)).trans (hc' i hlt).2
      have hlt' : (i : Int) < l.length := by omega
      have HKP := hid_of hkp
      generalize l[i].1 = x at q0 p0
      generalize l[i].2 = y at q1 p1
      clear hc hc' hkp hz
      go_wp2
      go_quiet (fail)
      go_wp2
      go_roundw
      case rel => exact ⟨i + 1, by omega, by go_num, HKP.out.trans (Kp.drewN (fun _ => False) _ _) (fun _ _ h => h)⟩
      case measure => simp [intOf]; omega
    · have hie : ¬ (i : Int) < l.length := by omega
      have HF := hid_of (HR.out wr hkp)
      clear hkp
      go_wp2
      exact HF.out

end

end Go.Proofs.YthbdpfccfcceiaaGreatDoor
