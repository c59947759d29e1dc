/-
  A store of the program and the document's answer to it, side by side: every call answers alike, and they stay side by side.
-/
import Derived.Test.YthbdpfccfcceiaaGreatDoorT2G2Z1
namespace Go.Proofs.YthbdpfccfcceiaaGreatDoor
open Go.RowKit

/-- What the law's steps leave alone: blocks that are nobody's. -/
def lab9 : Lab := ⟨0, 9, 0, eb⟩

/-- The bodies of the document's log: each in a row of its own that nobody writes. -/
def LgAt (own : Nat → Lab) (w : World) (lg : List Value) (bs : List (List UInt8)) : Prop := lg.length = bs.length ∧ ∀ (i : Nat) x b, lg[i]? = some x → bs[i]? = some b → BR 0 w x b ∧ ∀ g, x.ownBlock = some g → own g = lab9

theorem LgAt.frame {own own' : Nat → Lab} {w w' : World} {lg : List Value} {bs : List (List UInt8)} (h : LgAt own w lg bs) (hb : ∀ b, b < w.heap.size → own b = lab9 → w'.heap[b]? = w.heap[b]?) (ho : ∀ b, b < w.heap.size → own b = lab9 → own' b = own b) : LgAt own' w' lg bs := by
  refine ⟨h.1, fun i x b hx hbs => ?_⟩
  obtain ⟨h1, h2⟩ := h.2 i x b hx hbs
  exact ⟨ownsRow_block h1 (fun g e => hb g (h1.lt g e).2 (h2 g e)), fun g e => (ho g (h1.lt g e).2 (h2 g e)).trans (h2 g e)⟩

theorem LgAt.past {own own' : Nat → Lab} {c : Nat} {w w' : World} {lg : List Value} {bs : List (List UInt8)} (h : LgAt own w lg bs) (k : Kp (fun b => (own b).c = c) w w') (a : ∀ b, b < w.heap.size → own' b = own b) (hc : c ≠ 0) : LgAt own' w' lg bs :=
  h.frame (fun b hb e => k.block b hb (fun e2 => by rw [e] at e2; exact hc e2.symm)) (fun b hb _ => a b hb)

theorem LgAt.snoc {own : Nat → Lab} {w : World} {lg : List Value} {bs : List (List UInt8)} (h : LgAt own w lg bs) {x : Value} {b : List UInt8} (hx : BR 0 w x b) (ho : ∀ g, x.ownBlock = some g → own g = lab9) : LgAt own w (lg ++ [x]) (bs ++ [b]) := by
  refine ⟨by rw [List.length_append, List.length_append, h.1]; rfl, fun i x' b' h1 h2 => ?_⟩
  by_cases hi : i < lg.length
  · rw [List.getElem?_append_left hi] at h1
    rw [List.getElem?_append_left (by rw [← h.1]; exact hi)] at h2
    exact h.2 i x' b' h1 h2
  · have hi2 : i = lg.length := by
      have := (List.getElem?_eq_some_iff.1 h1).1
      simp at this
      omega
    subst hi2
    rw [List.getElem?_append_right (Nat.le_refl _)] at h1
    rw [List.getElem?_append_right (by rw [h.1]; exact Nat.le_refl _), h.1] at h2
    simp at h1 h2
    subst h1 h2
    exact ⟨hx, ho⟩

def YE (own : Nat → Lab) (c : Nat) (w : World) (p : Nat) (y : YS) : Prop := ∃ vL vT vG sv lg, YR own c w p y vL vT vG sv lg ∧ (lg.length : Int) ≤ y.now + y.hor ∧ LgAt own w lg y.lg

/-- The blocks of the i-th pair. -/
def Cap (own : Nat → Lab) (i : Nat) (b : Nat) : Prop := (own b).c = 2 * i + 2 ∨ (own b).c = 2 * i + 3

/-- The i-th pair of stores. -/
def Duo (own : Nat → Lab) (i : Nat) (w : World) (px py nt : Nat) : Prop :=
  ∃ s y, XE own (2 * i + 2) w px s ∧ YE own (2 * i + 3) w py y ∧ Tied s y ∧ YI y ∧ y.txs.length ≤ nt

section
variable {own own1 own2 own3 : Nat → Lab} {c i : Nat} {w w1 w2 w3 w' : World} {p px py nt : Nat} {s s' : XS} {y y' : YS}

theorem YE.frame {own' : Nat → Lab} (h : YE own c w p y) (hb : ∀ b, b < w.heap.size → (own b).c = c ∨ own b = lab9 → w'.heap[b]? = w.heap[b]?) (ho : ∀ b, b < w.heap.size → (own b).c = c ∨ own b = lab9 → own' b = own b) : YE own' c w' p y := by
  obtain ⟨vL, vT, vG, sv, lg, h, hl, hg⟩ := h
  exact ⟨vL, vT, vG, sv, lg, h.frame (fun b h1 h2 => hb b h1 (Or.inl h2)) (fun b h1 h2 => ho b h1 (Or.inl h2)), hl, hg.frame (fun b h1 h2 => hb b h1 (Or.inr h2)) (fun b h1 h2 => ho b h1 (Or.inr h2))⟩

theorem Duo.frame {own' : Nat → Lab} (h : Duo own i w px py nt) (hb : ∀ b, b < w.heap.size → Cap own i b ∨ own b = lab9 → w'.heap[b]? = w.heap[b]?) (ho : ∀ b, b < w.heap.size → Cap own i b ∨ own b = lab9 → own' b = own b) : Duo own' i w' px py nt := by
  obtain ⟨s, y, hx, hy, h⟩ := h
  exact ⟨s, y, hx.frame (fun b hl e => hb b hl (Or.inl (Or.inl e))) (fun b hl e => ho b hl (Or.inl (Or.inl e))), hy.frame (fun b hl e => hb b hl (e.imp Or.inr id)) (fun b hl e => ho b hl (e.imp Or.inr id)), h⟩

theorem Duo.mono {nt' : Nat} (h : Duo own i w px py nt) (hn : nt ≤ nt') : Duo own i w px py nt' := by
  obtain ⟨s, y, hx, hy, ht, hi, h⟩ := h
  exact ⟨s, y, hx, hy, ht, hi, Nat.le_trans h hn⟩

/-- Labels of a world in which a call begins: what was made since is nobody's. -/
def base9 (own : Nat → Lab) (n : Nat) (b : Nat) : Lab := if b < n then own b else ⟨0, 9, 0, eb⟩

theorem base9_old {n b : Nat} (h : b < n) : base9 own n b = own b := by simp [base9, h]
theorem base9_new {n b : Nat} (h : ¬ b < n) : base9 own n b = ⟨0, 9, 0, eb⟩ := by simp [base9, h]

theorem XE.box (h : XE own c w p s) (hk : Kp (fun _ => False) w w1) : XE (base9 own w.heap.size) c w1 p s := h.frame (fun b hl _ => hk.block b hl (fun e => e)) (fun _ hl _ => base9_old hl)
theorem YE.box (h : YE own c w p y) (hk : Kp (fun _ => False) w w1) : YE (base9 own w.heap.size) c w1 p y := h.frame (fun b hl _ => hk.block b hl (fun e => e)) (fun _ hl _ => base9_old hl)

theorem YE.past (h : YE own1 (2 * i + 3) w1 p y) (k : Kp (fun b => (own1 b).c = 2 * i + 2) w1 w2) (a : ∀ b, b < w1.heap.size → own2 b = own1 b) : YE own2 (2 * i + 3) w2 p y :=
  h.frame (fun b hl e => k.block b hl (fun e2 => by
    rcases e with e | e
    · omega
    · rw [e] at e2; simp [lab9] at e2)) (fun b hl _ => a b hl)
theorem XE.past (h : XE own1 (2 * i + 2) w1 p s) (k : Kp (fun b => (own1 b).c = 2 * i + 3) w1 w2) (a : ∀ b, b < w1.heap.size → own2 b = own1 b) : XE own2 (2 * i + 2) w2 p s :=
  h.frame (fun b hl e => k.block b hl (fun e2 => by omega)) (fun b hl _ => a b hl)

theorem low {n m : Nat} (k : Kp (fun b => (base9 own n b).c = 2 * m + 2) w1 w2) : Kp (fun b => b < n) w1 w2 := k.mono (fun b _ e => by
  show b < n
  by_cases h : b < n
  · exact h
  · rw [base9_new h] at e; simp at e)

/-- What a pair is behind both calls. -/
theorem fin {Q : World → Prop} {nt' : Nat} (hw : Kp (fun _ => False) w w1) (k2 : Kp (fun b => (base9 own w.heap.size b).c = 2 * i + 2) w1 w2) (a2 : ∀ b, b < w1.heap.size → own2 b = base9 own w.heap.size b) (x2 : XE own2 (2 * i + 2) w2 px s')
    (k3 : Kp (fun b => (own2 b).c = 2 * i + 3) w2 w3) (a3 : ∀ b, b < w2.heap.size → own3 b = own2 b) (y3 : YE own3 (2 * i + 3) w3 py y') (ht : Tied s' y') (hy : YI y') (hn : y'.txs.length ≤ nt')
    (hK : ∀ w3 own3, Kp (Cap own i) w w3 → (∀ b, b < w.heap.size → own3 b = own b) → Duo own3 i w3 px py nt' → Q w3) : Q w3 := by
  refine hK w3 own3 ?_ ?_ ⟨s', y', x2.past k3 a3, y3, ht, hy, hn⟩
  · refine (hw.mono (S' := Cap own i) (fun _ _ h => h.elim)).trans (S' := Cap (base9 own w.heap.size) i) ((k2.mono (S' := Cap (base9 own w.heap.size) i) (fun _ _ h => Or.inl h)).trans k3 (fun b hb e => ?_)) (fun b hb e => ?_)
    · rw [a2 b hb] at e; exact Or.inr e
    · unfold Cap at e; rw [base9_old hb] at e; exact e
  · intro b hb
    have h1 := hw.size
    have h2 := k2.size
    rw [a3 b (by omega), a2 b (by omega), base9_old hb]

theorem wf_i64 {a : Int} (h : -9223372036854775808 ≤ a ∧ a ≤ 9223372036854775807) : (Lit.int .i64 a).wf = true := by
  have e0 : IntKind.i64.min = -9223372036854775808 := rfl
  simp [Lit.wf]
  omega

theorem YI.yb (h : YI y) (hn : y.txs.length < 1000000000) : YB y := by
  have h1 := h.len
  have h2 := h.now
  exact ⟨by omega, by omega, fun i hi => (h.txs _ (List.getElem_mem hi)).len⟩

theorem Tied.none_iff (h : Tied s y) {a : Int} : s.txs a = none ↔ thereY y a = false := by
  rw [h.txs]
  constructor
  · intro e
    rw [Bool.eq_false_iff]
    intro ht
    obtain ⟨j, rfl, hj, ho⟩ := there_iff.1 ht
    rw [txOf_at hj ho] at e; cases e
  · exact txOf_not

theorem Tied.some_at (h : Tied s y) {a : Int} {t : XT} (e : s.txs a = some t) : thereY y a = true ∧ ∃ j : Nat, a = (j : Int) + 1 ∧ ∃ hj : j < y.txs.length, (y.txs[j]).over = false ∧ t = xtOf y.txs[j] := by
  rw [h.txs] at e
  obtain ⟨j, rfl, hj, ho, rfl⟩ := txOf_some e
  exact ⟨there_iff.2 ⟨j, rfl, hj, ho⟩, j, rfl, hj, ho, rfl⟩

theorem Tied.nw (h : Tied s y) (hy : YI y) : ∀ n t, s.txs n = some t → t.nw ≤ 10 := fun n t e => by
  obtain ⟨_, j, _, hj, _, rfl⟩ := h.some_at e
  exact (hy.txs _ (List.getElem_mem hj)).len

theorem Tied.keysW (h : Tied s y) (hy : YI y) : ∀ n t, s.txs n = some t → ∀ k, (t.wr k).isSome = true → k.size ≤ 8 := fun n t e k hk => by
  obtain ⟨_, j, _, hj, _, rfl⟩ := h.some_at e
  obtain ⟨v, hv, rfl⟩ := wrOf_mem.1 hk
  exact isKey_size ((hy.txs _ (List.getElem_mem hj)).ok v hv).1

theorem Tied.keysM (h : Tied s y) (hy : YI y) : ∀ k, s.mom k ≠ [] → k.size ≤ 8 := fun k hk => by
  rw [h.mom] at hk
  obtain ⟨v, hv, rfl⟩ := moms_ne.1 hk
  exact isKey_size (hy.ver v hv).2.2

variable {R : Ending → World → Prop}

theorem d_begin (hD : Duo own i w px py nt) (hnt : nt < 100000000) (e a b : Int) (st tt : ByteArray) (vl vm : Value)
    (hK : ∀ w3 own3, Kp (Cap own i) w w3 → (∀ b, b < w.heap.size → own3 b = own b) → Duo own3 i w3 px py (nt + 1) → R (.returned (.bool true)) w3) :
    Calls Tryz.prog 61 #[.pointer (some ⟨p, 0, none⟩), pairV px py, stepV 2 e a b st tt vl vm] w R := by
  obtain ⟨s, y, hx, hy, ht, hi, hn⟩ := hD
  refine txs_begin w p px py e a b st tt vl vm ?_
  have hw := boxW_kp w px py 2 e a b st tt vl vm
  generalize boxW w px py 2 e a b st tt vl vm = w1 at hw ⊢
  have x1 := hx.box hw
  have y1 := hy.box hw
  obtain ⟨mo, ph, mv, mm, pt, mw, sl, X⟩ := x1
  have hb := ht.begun
  refine x_begin X (by omega) (by omega) ht.newTx_none (fun h8 => ?_) (fun h8 w2 own2 k2 a2 n2 X2 => ?_)
  · refine ⟨_, _, rfl, Kp.refl _ _, ?_⟩
    obtain ⟨vL, vT, vG, sv, lg, Y, hl, hg⟩ := y1
    have h8' := ht.nopen
    refine y_begin Y (by omega) (fun h => ⟨rfl, ?_⟩) (fun h w3 own3 v' k3 a3 Y3 => ?_)
    · exact fin hw (Kp.refl _ _) (fun _ _ => rfl) ⟨mo, ph, mv, mm, pt, mw, sl, X⟩ (Kp.refl _ _) (fun _ _ => rfl) ⟨vL, vT, vG, sv, lg, Y, hl, hg⟩ ht hi (by omega) hK
    · have h9 := hi.opn
      omega
  · refine ⟨_, _, rfl, low k2, ?_⟩
    obtain ⟨vL, vT, vG, sv, lg, Y, hl, hg⟩ := y1.past k2 a2
    refine y_begin Y (by omega) (fun h => ?_) (fun h w3 own3 v' k3 a3 Y3 => ⟨?_, ?_⟩)
    · have h8' := ht.nopen
      omega
    · rw [hb]; rfl
    · exact fin hw k2 a2 ⟨_, _, _, _, _, _, _, X2⟩ k3 a3 ⟨_, _, _, _, _, Y3, hl, hg.past k3 a3 (by omega)⟩ ht.opened (hi.opened h) (by simp; omega) hK

theorem fin0 {Q : World → Prop} (hw : Kp (fun _ => False) w w1) (k2 : Kp (fun _ => False) w1 w2) (k3 : Kp (fun _ => False) w2 w3) (x1 : XE (base9 own w.heap.size) (2 * i + 2) w1 px s) (y1 : YE (base9 own w.heap.size) (2 * i + 3) w1 py y) (ht : Tied s y) (hy : YI y) (hn : y.txs.length ≤ nt)
    (hK : ∀ w3 own3, Kp (Cap own i) w w3 → (∀ b, b < w.heap.size → own3 b = own b) → Duo own3 i w3 px py (nt + 1) → Q w3) : Q w3 :=
  fin hw (k2.mono (fun _ _ h => h.elim)) (fun _ _ => rfl) (x1.frame (fun b hb _ => k2.block b hb (fun h => h)) (fun _ _ _ => rfl)) (k3.mono (fun _ _ h => h.elim)) (fun _ _ => rfl)
    ((y1.frame (fun b hb _ => k2.block b hb (fun h => h)) (fun _ _ _ => rfl)).frame (fun b hb _ => k3.block b hb (fun h => h)) (fun _ _ _ => rfl)) ht hy (by omega) hK

theorem kpF {S : Nat → Prop} (k : Kp (fun _ => False) w1 w2) : Kp S w1 w2 := k.mono (fun _ _ h => h.elim)

theorem d_get (hD : Duo own i w px py nt) (hnt : nt < 100000000) (e a b : Int) (ha : -9223372036854775808 ≤ a ∧ a ≤ 9223372036854775807) (st tt : ByteArray) (hst : st.size ≤ maxLen) (_htt : tt.size ≤ maxLen) (vl vm : Value)
    (hK : ∀ w3 own3, Kp (Cap own i) w w3 → (∀ b, b < w.heap.size → own3 b = own b) → Duo own3 i w3 px py (nt + 1) → R (.returned (.bool true)) w3) :
    Calls Tryz.prog 61 #[.pointer (some ⟨p, 0, none⟩), pairV px py, stepV 3 e a b st tt vl vm] w R := by
  obtain ⟨s, y, hx, hy, ht, hi, hn⟩ := hD
  refine txs_get w p px py e a b st tt vl vm ?_
  have hw := boxW_kp w px py 3 e a b st tt vl vm
  generalize boxW w px py 3 e a b st tt vl vm = w1 at hw ⊢
  have x1 := hx.box hw
  have y1 := hy.box hw
  have HB := hi.yb (by omega)
  have X0 := x1
  have Y0 := y1
  obtain ⟨mo, ph, mv, mm, pt, mw, sl, X⟩ := x1
  obtain ⟨vL, vT, vG, sv, lg, Y, hl, hg⟩ := y1
  refine x_get X a (wf_i64 ha) st hst (ht.momOk hi) (fun e0 => ⟨_, _, rfl, Kp.refl _ _, ?_⟩) (fun t e1 hk => ⟨_, _, rfl, Kp.refl _ _, ?_⟩) (fun t e1 hk hs w2 k2 => ⟨_, _, rfl, kpF k2, ?_⟩) (fun t e1 hk hs w2 k2 => ⟨_, _, rfl, kpF k2, ?_⟩)
  · have th := ht.none_iff.1 e0
    refine y_get Y HB a st hst (fun _ => ⟨rfl, fin0 hw (Kp.refl _ _) (Kp.refl _ _) X0 Y0 ht hi hn hK⟩) (fun h => ?_) (fun j hj r _ h => ?_) (fun j hj r _ h => ?_) <;> (rw [th] at h; cases h)
  · have th := (ht.some_at e1).1
    refine y_get Y HB a st hst (fun h => ?_) (fun _ _ => ⟨rfl, fin0 hw (Kp.refl _ _) (Kp.refl _ _) X0 Y0 ht hi hn hK⟩) (fun j hj r _ _ h => ?_) (fun j hj r _ _ h => ?_)
    · rw [th] at h; cases h
    · rw [hk] at h; cases h
    · rw [hk] at h; cases h
  · obtain ⟨th, j, rfl, hj, ho, rfl⟩ := ht.some_at e1
    refine y_get (Y.kept k2) HB _ st hst (fun h => ?_) (fun _ h => ?_) (fun j' hj' r hj2 _ _ hr h w3 k3 => ⟨rfl, fin0 hw k2 k3 X0 Y0 ht hi hn hK⟩) (fun j' hj' r hj2 _ _ hr h => ?_)
    · rw [th] at h; cases h
    · rw [hk] at h; cases h
    · have : j' = j := by omega
      subst this
      have := (ht.seen hi _ st r hr).1
      rw [h, hs] at this; cases this
  · obtain ⟨th, j, rfl, hj, ho, rfl⟩ := ht.some_at e1
    refine y_get (Y.kept k2) HB _ st hst (fun h => ?_) (fun _ h => ?_) (fun j' hj' r hj2 _ _ hr h => ?_) (fun j' hj' r hj2 _ _ hr h w3 k3 => ⟨?_, fin0 hw k2 k3 X0 Y0 ht hi hn hK⟩)
    · rw [th] at h; cases h
    · rw [hk] at h; cases h
    · have : j' = j := by omega
      subst this
      have := (ht.seen hi _ st r hr).1
      rw [h, hs] at this; cases this
    · have : j' = j := by omega
      subst this
      rw [(ht.seen hi _ st r hr).2 h]

theorem y_put {vL vT vG : Value} {sv lg : List Value} {Q : Ending → World → Prop} (Y : YR own2 c w2 py y vL vT vG sv lg) (hl : (lg.length : Int) ≤ y.now + y.hor) (hg : LgAt own2 w2 lg y.lg) (hc : c ≠ 0) (hB : YB y) (hi : YI y) (j : Nat) (hj : j < y.txs.length) (ho : (y.txs[j]).over = false) (key val : ByteArray) (gone : Bool) (hk : isKey key = true) (hv : val.size ≤ 20)
    (hF : wrote (xtOf y.txs[j]) key (val, gone) = none → ∀ w', Kp (fun _ => False) w2 w' → Q (.returned (.int .i64 3)) w')
    (hS : ∀ l', wrote (xtOf y.txs[j]) key (val, gone) = some (xtOf { y.txs[j] with l := l' }) → TI y.now { y.txs[j] with l := l' } → ∀ w' own', Kp (fun b => (own2 b).c = c) w2 w' → (∀ b, b < w2.heap.size → own' b = own2 b) → YE own' c w' py (setTx y j { y.txs[j] with l := l' }) → Q (.returned (.int .i64 0)) w') :
    Calls Tryz.prog 106 #[.pointer (some ⟨py, 0, none⟩), .int .i64 ((j : Int) + 1), .agg #[.string key, .int .i64 0, .bool gone, .string val]] w2 Q := by
  have th : thereY y ((j : Int) + 1) = true := there_iff.2 ⟨j, rfl, hj, ho⟩
  have hti := hi.txs _ (List.getElem_mem hj)
  cases hx : idxK (y.txs[j]).l key with
  | some ix => exact y_write_again Y hB j hj th key val gone hk hv ix hx (fun w' k Y' => hS _ (wrote_again hx gone val) (hti.again hx hk gone hv) w' own2 k (fun _ _ => rfl) ⟨_, _, _, _, _, Y', hl, hg.past k (fun _ _ => rfl) hc⟩)
  | none =>
    by_cases h10 : (y.txs[j]).l.length < 10
    · exact y_write_new Y hB j hj th key val gone hk hv hx h10 (fun w' own' sv' k a Y' => hS _ (wrote_new hx h10 gone val) (hti.more hx h10 hk gone hv) w' own' k a ⟨_, _, _, _, _, Y', hl, hg.past k a hc⟩)
    · have h10' : (y.txs[j]).l.length = 10 := by have := hti.len; omega
      exact y_write_full Y hB j hj th key val gone hk hv hx h10' (fun w' k => hF (wrote_full hx h10' gone val) w' k)

theorem xtOf_len {t : YT} {l' : List YV} {t' : XT} (h : t' = xtOf { t with l := l' }) : t'.sees = t.sees := by rw [h]; rfl

theorem d_put (hD : Duo own i w px py nt) (hnt : nt < 100000000) (e a b : Int) (ha : -9223372036854775808 ≤ a ∧ a ≤ 9223372036854775807) (st tt : ByteArray) (hst : st.size ≤ maxLen) (htt : tt.size ≤ maxLen) (vl vm : Value)
    (hK : ∀ w3 own3, Kp (Cap own i) w w3 → (∀ b, b < w.heap.size → own3 b = own b) → Duo own3 i w3 px py (nt + 1) → R (.returned (.bool true)) w3) :
    Calls Tryz.prog 61 #[.pointer (some ⟨p, 0, none⟩), pairV px py, stepV 5 e a b st tt vl vm] w R := by
  obtain ⟨s, y, hx, hy, ht, hi, hn⟩ := hD
  refine txs_put w p px py e a b st tt vl vm ?_
  have hw := boxW_kp w px py 5 e a b st tt vl vm
  generalize boxW w px py 5 e a b st tt vl vm = w1 at hw ⊢
  have x1 := hx.box hw
  have y1 := hy.box hw
  have HB := hi.yb (by omega)
  have X0 := x1
  have Y0 := y1
  obtain ⟨mo, ph, mv, mm, pt, mw, sl, X⟩ := x1
  obtain ⟨vL, vT, vG, sv, lg, Y, hl, hg⟩ := y1
  refine x_put X a (wf_i64 ha) st tt hst htt (ht.nw hi) (fun e0 => ⟨_, rfl, Kp.refl _ _, ?_⟩) (fun t e1 hb => ⟨_, rfl, Kp.refl _ _, ?_⟩) (fun t e1 hg hn0 w2 k2 X2 => ⟨_, rfl, low k2, ?_⟩) (fun t t' e1 hg hn0 w2 k2 X2 => ⟨_, rfl, low k2, ?_⟩)
  · have th := ht.none_iff.1 e0
    exact y_write_err Y HB a st tt false hst htt (fun _ w3 k3 => ⟨rfl, fin0 hw (Kp.refl _ _) k3 X0 Y0 ht hi hn hK⟩) (fun h => by rw [th] at h; cases h) (Or.inl th)
  · have th := (ht.some_at e1).1
    exact y_write_err Y HB a st tt false hst htt (fun h => by rw [th] at h; cases h) (fun _ _ w3 k3 => ⟨rfl, fin0 hw (Kp.refl _ _) k3 X0 Y0 ht hi hn hK⟩) (Or.inr hb)
  · obtain ⟨th, j, rfl, hj, ho, rfl⟩ := ht.some_at e1
    obtain ⟨hk, hv⟩ := (by simpa using hg : isKey st = true ∧ tt.size ≤ 20)
    obtain ⟨vL, vT, vG, sv, lg, Y, hl, hg⟩ := Y0.past k2 (fun _ _ => rfl)
    refine y_put Y hl hg (by omega) HB hi j hj ho st tt false hk hv (fun _ w3 k3 => ⟨rfl, ?_⟩) (fun l' hs => by rw [hn0] at hs; cases hs)
    exact fin hw k2 (fun _ _ => rfl) ⟨_, _, _, _, _, _, _, X2⟩ (kpF k3) (fun _ _ => rfl) ((YE.frame ⟨vL, vT, vG, sv, lg, Y, hl, hg⟩) (fun b hb _ => k3.block b hb (fun h => h)) (fun _ _ _ => rfl)) ht hi (by omega) hK
  · obtain ⟨th, j, rfl, hj, ho, rfl⟩ := ht.some_at e1
    obtain ⟨hk, hv⟩ := (by simpa using hg : isKey st = true ∧ tt.size ≤ 20)
    obtain ⟨vL, vT, vG, sv, lg, Y, hl, hg⟩ := Y0.past k2 (fun _ _ => rfl)
    refine y_put Y hl hg (by omega) HB hi j hj ho st tt false hk hv (fun hs => by rw [hn0] at hs; cases hs) (fun l' hs hti w3 own3 k3 a3 Y3 => ⟨rfl, ?_⟩)
    rw [hn0] at hs
    injection hs with hs
    subst hs
    exact fin hw k2 (fun _ _ => rfl) ⟨_, _, _, _, _, _, _, X2⟩ k3 a3 Y3 (ht.written hj ho l') (hi.written hj ho _ hti ho (show y.hor ≤ (y.txs[j]).sees from hi.pin y.txs[j] (List.getElem_mem hj) ho)) (by simp [setTx]; omega) hK

theorem d_delete (hD : Duo own i w px py nt) (hnt : nt < 100000000) (e a b : Int) (ha : -9223372036854775808 ≤ a ∧ a ≤ 9223372036854775807) (st tt : ByteArray) (hst : st.size ≤ maxLen) (_htt : tt.size ≤ maxLen) (vl vm : Value)
    (hK : ∀ w3 own3, Kp (Cap own i) w w3 → (∀ b, b < w.heap.size → own3 b = own b) → Duo own3 i w3 px py (nt + 1) → R (.returned (.bool true)) w3) :
    Calls Tryz.prog 61 #[.pointer (some ⟨p, 0, none⟩), pairV px py, stepV 6 e a b st tt vl vm] w R := by
  obtain ⟨s, y, hx, hy, ht, hi, hn⟩ := hD
  refine txs_delete w p px py e a b st tt vl vm ?_
  have hw := boxW_kp w px py 6 e a b st tt vl vm
  generalize boxW w px py 6 e a b st tt vl vm = w1 at hw ⊢
  have x1 := hx.box hw
  have y1 := hy.box hw
  have HB := hi.yb (by omega)
  have X0 := x1
  have Y0 := y1
  obtain ⟨mo, ph, mv, mm, pt, mw, sl, X⟩ := x1
  obtain ⟨vL, vT, vG, sv, lg, Y, hl, hg⟩ := y1
  refine x_delete X a (wf_i64 ha) st hst (ht.nw hi) (fun e0 => ⟨_, rfl, Kp.refl _ _, ?_⟩) (fun t e1 hb => ⟨_, rfl, Kp.refl _ _, ?_⟩) (fun t e1 hg hn0 w2 k2 X2 => ⟨_, rfl, low k2, ?_⟩) (fun t t' e1 hg hn0 w2 k2 X2 => ⟨_, rfl, low k2, ?_⟩)
  · have th := ht.none_iff.1 e0
    exact y_write_err Y HB a st eb true hst (by decide) (fun _ w3 k3 => ⟨rfl, fin0 hw (Kp.refl _ _) k3 X0 Y0 ht hi hn hK⟩) (fun h => by rw [th] at h; cases h) (Or.inl th)
  · have th := (ht.some_at e1).1
    exact y_write_err Y HB a st eb true hst (by decide) (fun h => by rw [th] at h; cases h) (fun _ _ w3 k3 => ⟨rfl, fin0 hw (Kp.refl _ _) k3 X0 Y0 ht hi hn hK⟩) (Or.inr (by rw [hb]; rfl))
  · obtain ⟨th, j, rfl, hj, ho, rfl⟩ := ht.some_at e1
    obtain ⟨hk, hv⟩ := (⟨hg, by decide⟩ : isKey st = true ∧ eb.size ≤ 20)
    obtain ⟨vL, vT, vG, sv, lg, Y, hl, hg⟩ := Y0.past k2 (fun _ _ => rfl)
    refine y_put Y hl hg (by omega) HB hi j hj ho st eb true hk hv (fun _ w3 k3 => ⟨rfl, ?_⟩) (fun l' hs => by rw [hn0] at hs; cases hs)
    exact fin hw k2 (fun _ _ => rfl) ⟨_, _, _, _, _, _, _, X2⟩ (kpF k3) (fun _ _ => rfl) ((YE.frame ⟨vL, vT, vG, sv, lg, Y, hl, hg⟩) (fun b hb _ => k3.block b hb (fun h => h)) (fun _ _ _ => rfl)) ht hi (by omega) hK
  · obtain ⟨th, j, rfl, hj, ho, rfl⟩ := ht.some_at e1
    obtain ⟨hk, hv⟩ := (⟨hg, by decide⟩ : isKey st = true ∧ eb.size ≤ 20)
    obtain ⟨vL, vT, vG, sv, lg, Y, hl, hg⟩ := Y0.past k2 (fun _ _ => rfl)
    refine y_put Y hl hg (by omega) HB hi j hj ho st eb true hk hv (fun hs => by rw [hn0] at hs; cases hs) (fun l' hs hti w3 own3 k3 a3 Y3 => ⟨rfl, ?_⟩)
    rw [hn0] at hs
    injection hs with hs
    subst hs
    exact fin hw k2 (fun _ _ => rfl) ⟨_, _, _, _, _, _, _, X2⟩ k3 a3 Y3 (ht.written hj ho l') (hi.written hj ho _ hti ho (show y.hor ≤ (y.txs[j]).sees from hi.pin y.txs[j] (List.getElem_mem hj) ho)) (by simp [setTx]; omega) hK

theorem d_abort (hD : Duo own i w px py nt) (hnt : nt < 100000000) (e a b : Int) (ha : -9223372036854775808 ≤ a ∧ a ≤ 9223372036854775807) (st tt : ByteArray) (_hst : st.size ≤ maxLen) (_htt : tt.size ≤ maxLen) (vl vm : Value)
    (hK : ∀ w3 own3, Kp (Cap own i) w w3 → (∀ b, b < w.heap.size → own3 b = own b) → Duo own3 i w3 px py (nt + 1) → R (.returned (.bool true)) w3) :
    Calls Tryz.prog 61 #[.pointer (some ⟨p, 0, none⟩), pairV px py, stepV 8 e a b st tt vl vm] w R := by
  obtain ⟨s, y, hx, hy, ht, hi, hn⟩ := hD
  refine txs_abort w p px py e a b st tt vl vm ?_
  have hw := boxW_kp w px py 8 e a b st tt vl vm
  generalize boxW w px py 8 e a b st tt vl vm = w1 at hw ⊢
  have x1 := hx.box hw
  have y1 := hy.box hw
  have HB := hi.yb (by omega)
  have X0 := x1
  have Y0 := y1
  obtain ⟨mo, ph, mv, mm, pt, mw, sl, X⟩ := x1
  obtain ⟨vL, vT, vG, sv, lg, Y, hl, hg⟩ := y1
  refine x_abort X a (wf_i64 ha) (fun e0 => ⟨_, rfl, Kp.refl _ _, ?_⟩) (fun t e1 w2 k2 X2 => ⟨_, rfl, low k2, ?_⟩)
  · have th := ht.none_iff.1 e0
    exact y_abort Y (by omega) a (fun _ => ⟨rfl, fin0 hw (Kp.refl _ _) (Kp.refl _ _) X0 Y0 ht hi hn hK⟩) (fun j hj _ h => by rw [th] at h; cases h)
  · obtain ⟨th, j, rfl, hj, ho, rfl⟩ := ht.some_at e1
    obtain ⟨vL, vT, vG, sv, lg, Y, hl, hg⟩ := Y0.past k2 (fun _ _ => rfl)
    refine y_abort Y (by omega) _ (fun h => by rw [th] at h; cases h) (fun j' hj' hj2 _ w3 k3 Y3 => ⟨rfl, ?_⟩)
    have : j' = j := by omega
    subst this
    exact fin hw k2 (fun _ _ => rfl) ⟨_, _, _, _, _, _, _, X2⟩ k3 (fun _ _ => rfl) ⟨_, _, _, _, _, Y3, hl, hg.past k3 (fun _ _ => rfl) (by omega)⟩ (ht.closed hj ho) (hi.closed hj ho) (by simp [overAt]; omega) hK

theorem d_now (hD : Duo own i w px py nt) (hnt : nt < 100000000) (e a b : Int) (_ha : -9223372036854775808 ≤ a ∧ a ≤ 9223372036854775807) (st tt : ByteArray) (_hst : st.size ≤ maxLen) (_htt : tt.size ≤ maxLen) (vl vm : Value)
    (hK : ∀ w3 own3, Kp (Cap own i) w w3 → (∀ b, b < w.heap.size → own3 b = own b) → Duo own3 i w3 px py (nt + 1) → R (.returned (.bool true)) w3) :
    Calls Tryz.prog 61 #[.pointer (some ⟨p, 0, none⟩), pairV px py, stepV 9 e a b st tt vl vm] w R := by
  obtain ⟨s, y, hx, hy, ht, hi, hn⟩ := hD
  refine txs_now w p px py e a b st tt vl vm ?_
  have hw := boxW_kp w px py 9 e a b st tt vl vm
  generalize boxW w px py 9 e a b st tt vl vm = w1 at hw ⊢
  have x1 := hx.box hw
  have y1 := hy.box hw
  have HB := hi.yb (by omega)
  have X0 := x1
  have Y0 := y1
  obtain ⟨mo, ph, mv, mm, pt, mw, sl, X⟩ := x1
  obtain ⟨vL, vT, vG, sv, lg, Y, hl, hg⟩ := y1
  refine x_now X ⟨_, rfl, Kp.refl _ _, ?_, fin0 hw (Kp.refl _ _) (Kp.refl _ _) X0 Y0 ht hi hn hK⟩
  rw [cell_of Y.store 2, ht.now]
  rfl

theorem d_commit (hD : Duo own i w px py nt) (hT : Tab w) (hN : TabN own (2 * i + 2)) (hnt : nt < 100000000) (e a b : Int) (ha : -9223372036854775808 ≤ a ∧ a ≤ 9223372036854775807) (st tt : ByteArray) (_hst : st.size ≤ maxLen) (_htt : tt.size ≤ maxLen) (vl vm : Value)
    (hK : ∀ w3 own3, Kp (Cap own i) w w3 → (∀ b, b < w.heap.size → own3 b = own b) → Duo own3 i w3 px py (nt + 1) → R (.returned (.bool true)) w3) :
    Calls Tryz.prog 61 #[.pointer (some ⟨p, 0, none⟩), pairV px py, stepV 7 e a b st tt vl vm] w R := by
  obtain ⟨s, y, hx, hy, ht, hi, hn⟩ := hD
  have hor0 := hi.hor
  have now0 := hi.now
  refine txs_commit w p px py e a b st tt vl vm ?_
  have hw := boxW_kp w px py 7 e a b st tt vl vm
  generalize boxW w px py 7 e a b st tt vl vm = w1 at hw ⊢
  have x1 := hx.box hw
  have y1 := hy.box hw
  have HB := hi.yb (by omega)
  have X0 := x1
  have Y0 := y1
  obtain ⟨mo, ph, mv, mm, pt, mw, sl, X⟩ := x1
  obtain ⟨vL, vT, vG, sv, lg, Y, hl, hg⟩ := y1
  have hnow := ht.now
  cases e1 : s.txs a with
  | none =>
    have th := ht.none_iff.1 e1
    refine commit_none px mo s.nopen _ a w1 (cell_of X.store 7) X.opn (wf_i64 ha) (by rw [encI_at, e1]; rfl) ⟨_, _, rfl, Kp.refl _ _, ?_⟩
    exact y_commit_none Y HB a th ⟨rfl, fin0 hw (Kp.refl _ _) (Kp.refl _ _) X0 Y0 ht hi hn hK⟩
  | some t =>
    obtain ⟨th, j, rfl, hj, ho, rfl⟩ := ht.some_at e1
    have hti := hi.txs _ (List.getElem_mem hj)
    have hlen : (xtOf y.txs[j]).nw = (y.txs[j]).l.length := rfl
    have hkeys : ∀ k, ((xtOf y.txs[j]).wr k).isSome = true → k.size ≤ 8 := ht.keysW hi _ _ e1
    have hmom : ∀ k, (s.mom k).length < 1000000 := fun k => (ht.momOk hi k).len
    have hY : YI y := hi
    have hnow2 := hi.now
    by_cases h0 : (y.txs[j]).l.length = 0
    · refine x_commit_empty X _ (wf_i64 ha) _ e1 (hlen.trans h0) (fun w2 k2 X2 => ⟨_, _, rfl, low k2, ?_⟩)
      obtain ⟨vL, vT, vG, sv, lg, Y, hl, hg⟩ := Y0.past k2 (fun _ _ => rfl)
      refine y_commit_empty Y HB j hj th h0 (fun w3 k3 Y3 => ⟨rfl, ?_⟩)
      exact fin hw k2 (fun _ _ => rfl) ⟨_, _, _, _, _, _, _, X2⟩ k3 (fun _ _ => rfl) ⟨_, _, _, _, _, Y3, hl, hg.past k3 (fun _ _ => rfl) (by omega)⟩ (ht.closed hj ho) (hi.closed hj ho) (by simp [overAt]; omega) hK
    · have hks : ∀ v ∈ (y.txs[j]).l, v.key.size ≤ 8 ∧ v.s.size ≤ 20 ∧ inR eb tilde v.key = true := fun v hv => ⟨isKey_size (hti.ok v hv).1, (hti.ok v hv).2, isKey_in (hti.ok v hv).1⟩
      by_cases hov : ConfY y (y.txs[j])
      · refine x_commit_over X _ (wf_i64 ha) _ e1 (by omega) hkeys hmom ((over_iff ht hi _).2 hov) (fun w2 k2 X2 => ⟨_, _, rfl, low k2, ?_⟩)
        obtain ⟨vL, vT, vG, sv, lg, Y, hl, hg⟩ := Y0.past k2 (fun _ _ => rfl)
        refine y_commit_some Y HB j hj th h0 hnow2 (fun _ w3 k3 Y3 => ⟨rfl, ?_⟩) (fun h => absurd hov h) (by omega) hks (fun h => absurd hov h)
        exact fin hw k2 (fun _ _ => rfl) ⟨_, _, _, _, _, _, _, X2⟩ k3 (fun _ _ => rfl) ⟨_, _, _, _, _, Y3, hl, hg.past k3 (fun _ _ => rfl) (by omega)⟩ (ht.closed hj ho) (hi.closed hj ho) (by simp [overAt]; omega) hK
      · have hov' : ¬ overt s (xtOf y.txs[j]) := fun h => hov ((over_iff ht hi _).1 h)
        by_cases h2000 : y.now = 2000
        · refine x_commit_full X _ (wf_i64 ha) _ e1 (by omega) hkeys hmom hov' (by omega) (fun w2 k2 => ⟨_, _, rfl, kpF k2, ?_⟩)
          refine y_commit_some (Y.kept k2) HB j hj th h0 hnow2 (fun h => absurd h hov) (fun _ _ w3 k3 => ⟨rfl, fin0 hw k2 k3 X0 Y0 ht hi hn hK⟩) (by omega) hks (fun _ h => absurd h2000 h)
        · have hnv := ht.nv
          have hnm := ht.nm
          have hl10 := hti.len
          have hlg1 := ht.lgl
          have hN1 : TabN (base9 own w.heap.size) (2 * i + 2) := by
            unfold TabN
            rw [base9_old hT.lt.1, base9_old hT.lt.2]; exact hN
          refine x_commit_good X (hT.kept hw) hN1 _ (wf_i64 ha) _ e1 (by omega) (by omega) hkeys (fun k v hk => ?_) hmom hov' (by omega) (by omega) (by omega) (by omega) ht.lgb (fun w2 own2 sl2 nv2 nm2 l2 ws2 k2 a2 hv2 hm2 hws2 hwl2 hlg2 hsy2 X2 => ⟨_, _, rfl, low k2, ?_⟩)
          · obtain ⟨u, hu, _, rfl⟩ := wrOf_val hk
            exact (hti.ok u hu).2
          have k2s := k2.size
          have A2 : ∀ b, b < w1.heap.size → base9 own2 w2.heap.size b = base9 own w.heap.size b := fun b hb => (base9_old (by omega)).trans (a2 b hb)
          have X2' := XE.frame (own' := base9 own2 w2.heap.size) (w' := w2) ⟨_, _, _, _, _, _, _, X2⟩ (fun _ _ _ => rfl) (fun b hb _ => base9_old hb)
          have nine : ∀ g, w2.heap.size ≤ g → base9 own2 w2.heap.size g = lab9 := fun g hg => base9_new (by omega)
          obtain ⟨vL, vT, vG, sv, lg, Y, hl, hg⟩ := Y0.past k2 A2
          refine y_commit_some Y HB j hj th h0 hnow2 (fun h => absurd h hov) (fun _ h => absurd h h2000) (by omega) hks (fun _ _ w3 own3 vL' vG' lg' ks k3 a3 hsort hmem hlg Y3 => ⟨?_, ?_⟩)
          · rw [hnow]
          · exact fin hw k2 A2 X2' k3 a3 ⟨_, _, _, _, _, Y3, by obtain ⟨x, rfl, _⟩ := hlg; show ((lg ++ [x]).length : Int) ≤ y.now + 1 + y.hor; rw [List.length_append]; simp; omega, by
            obtain ⟨x, rfl, hb3, ho3⟩ := hlg
            refine (hg.past k3 a3 (by omega)).snoc (hb3.mono (Nat.zero_le _)) (fun g e => ?_)
            rw [ho3 g e]
            have h2 := (hb3.lt g e).1
            exact nine g h2⟩ (ht.committed hi hj ho hsort hmem hv2 hm2 ⟨ws2, hws2, by omega, hlg2, hsy2⟩) (hi.committed hj ho h0 h2000 hsort hmem) (by simp [commY, overAt]; omega) hK

end

end Go.Proofs.YthbdpfccfcceiaaGreatDoor
