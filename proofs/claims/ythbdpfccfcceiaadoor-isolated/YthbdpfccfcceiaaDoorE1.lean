/-
  What holds of a store's plain state, and that every call keeps it.
-/
import Derived.Test.YthbdpfccfcceiaaDoorL1
import Derived.Test.YthbdpfccfcceiaaDoorC4
namespace Go.Proofs.YthbdpfccfcceiaaDoor
open Go.RowKit

structure TOk (s : XS) (n : Int) (t : XT) : Prop where
  num : 1 ≤ n ∧ n ≤ s.begun
  sees : s.hor ≤ t.sees ∧ t.sees ≤ s.now
  nw : t.nw ≤ 10
  keys : ∀ k, (t.wr k).isSome = true → isKey k = true
  pos : ∀ k, (t.wr k).isSome = true → 0 < t.nw
  vals : ∀ k v, t.wr k = some v → v.1.size ≤ 20

structure XOk (s : XS) : Prop where
  now : 0 ≤ s.now ∧ s.now ≤ 2000
  hor : 0 ≤ s.hor ∧ s.hor ≤ s.now
  begun : 0 ≤ s.begun
  up : ∀ k, (s.mom k).Pairwise (· < ·)
  mom : ∀ k m, m ∈ s.mom k → 1 ≤ m ∧ m ≤ s.now
  ver : ∀ k m, (s.ver k m).isSome = true ↔ m ∈ s.mom k
  key : ∀ k, s.mom k ≠ [] → isKey k = true
  tx : ∀ n t, s.txs n = some t → TOk s n t
  nm : (s.nm : Int) ≤ 10 * s.now
  nv : (s.nv : Int) ≤ 10 * s.now
  lgl : (s.log.lg.length : Int) ≤ s.now + s.hor
  lgb : ∀ b ∈ s.log.lg, b.length ≤ 400
  sy : s.log.sy ≤ bytesOf (filesB s.log.lg)

theorem len_le : ∀ {l : List Int} {a b : Int}, l.Pairwise (· < ·) → (∀ m ∈ l, a < m ∧ m ≤ b) → (l.length : Int) ≤ (b - a).toNat
  | [], _, _, _, _ => by simp only [List.length_nil]; omega
  | x :: r, a, b, h, hm => by
    obtain ⟨h1, h2⟩ := List.pairwise_cons.1 h
    have hx := hm x (by simp)
    have := len_le (a := x) (b := b) h2 (fun m hr => ⟨h1 m hr, (hm m (List.mem_cons_of_mem _ hr)).2⟩)
    rw [List.length_cons]
    omega

theorem wfI {a : Int} (h : -9223372036854775808 ≤ a ∧ a ≤ 9223372036854775807) : (Lit.int .i64 a).wf = true := by
  have e0 : IntKind.i64.min = -9223372036854775808 := rfl
  simp [Lit.wf]
  omega

section
variable {s : XS}

theorem XOk.len (h : XOk s) (k : ByteArray) : (s.mom k).length ≤ 2000 := by
  have h1 := len_le (a := 0) (b := s.now) (h.up k) (fun m hm => by have := h.mom k m hm; omega)
  have := h.now
  omega

theorem XOk.momOk (h : XOk s) (k : ByteArray) : MomOk s k := by
  have h1 := h.len k
  have hn := h.now
  exact ⟨by omega, h.up k, fun m hm => ⟨wfI (by have := h.mom k m hm; omega), (h.ver k m).2 hm⟩⟩

theorem XOk.keysW (h : XOk s) {n : Int} {t : XT} (e : s.txs n = some t) : ∀ k, (t.wr k).isSome = true → k.size ≤ 8 := fun k hk => isKey_le k ((h.tx n t e).keys k hk)
theorem XOk.keysM (h : XOk s) : ∀ k, s.mom k ≠ [] → k.size ≤ 8 := fun k hk => isKey_le k (h.key k hk)

theorem XOk.newTx (h : XOk s) : s.txs (s.begun + 1) = none := by
  cases e : s.txs (s.begun + 1) with
  | none => rfl
  | some t => have := (h.tx _ _ e).num; omega

theorem XOk.begin (h : XOk s) (n : Nat) : XOk { s with begun := s.begun + 1, txs := updI s.txs (s.begun + 1) (some ⟨s.now, fun _ => none, 0⟩), nopen := n } := by
  have hb := h.begun
  have hh := h.hor
  refine ⟨h.now, h.hor, by show 0 ≤ s.begun + 1; omega, h.up, h.mom, h.ver, h.key, fun n t e => ?_, h.nm, h.nv, h.lgl, h.lgb, h.sy⟩
  by_cases en : n = s.begun + 1
  · subst en
    simp only [updI_same, Option.some.injEq] at e
    subst e
    exact ⟨⟨by omega, Int.le_refl _⟩, ⟨hh.2, Int.le_refl _⟩, by simp, fun k hk => (by cases hk), fun k hk => (by cases hk), fun k v hk => (by cases hk)⟩
  · simp only [updI_other _ en] at e
    have := h.tx n t e
    exact ⟨⟨this.num.1, by show n ≤ s.begun + 1; have := this.num; omega⟩, this.sees, this.nw, this.keys, this.pos, this.vals⟩

theorem XOk.write (h : XOk s) {tx : Int} {t t' : XT} (e : s.txs tx = some t) {key : ByteArray} {v : ByteArray × Bool} (hk : isKey key = true) (hv : v.1.size ≤ 20) (hw : wrote t key v = some t') : XOk { s with txs := updI s.txs tx (some t') } := by
  have ht := h.tx tx t e
  refine ⟨h.now, h.hor, h.begun, h.up, h.mom, h.ver, h.key, fun n t1 e1 => ?_, h.nm, h.nv, h.lgl, h.lgb, h.sy⟩
  by_cases en : n = tx
  · subst en
    simp only [updI_same, Option.some.injEq] at e1
    subst e1
    have hkeys : ∀ k, ((updS t.wr key (some v)) k).isSome = true → isKey k = true := fun k hk' => by
      by_cases ek : k = key
      · subst ek; exact hk
      · rw [updS_other _ ek] at hk'; exact ht.keys k hk'
    have hvals : ∀ k u, (updS t.wr key (some v)) k = some u → u.1.size ≤ 20 := fun k u hu => by
      by_cases ek : k = key
      · subst ek; rw [updS_same] at hu; cases hu; exact hv
      · rw [updS_other _ ek] at hu; exact ht.vals k u hu
    unfold wrote at hw
    split at hw
    · rename_i h1
      cases hw
      exact ⟨ht.num, ht.sees, ht.nw, hkeys, fun k _ => ht.pos key h1, hvals⟩
    · split at hw
      · cases hw
        exact ⟨ht.num, ht.sees, by show t.nw + 1 ≤ 10; omega, hkeys, fun k _ => by show 0 < t.nw + 1; omega, hvals⟩
      · cases hw
  · simp only [updI_other _ en] at e1
    have := h.tx n t1 e1
    exact ⟨this.num, this.sees, this.nw, this.keys, this.pos, this.vals⟩

theorem XOk.close (h : XOk s) (tx : Int) (n : Nat) : XOk { s with txs := updI s.txs tx none, nopen := n } := by
  refine ⟨h.now, h.hor, h.begun, h.up, h.mom, h.ver, h.key, fun n t1 e1 => ?_, h.nm, h.nv, h.lgl, h.lgb, h.sy⟩
  by_cases en : n = tx
  · subst en
    simp only [updI_same] at e1
    cases e1
  · simp only [updI_other _ en] at e1
    have := h.tx n t1 e1
    exact ⟨this.num, this.sees, this.nw, this.keys, this.pos, this.vals⟩

/-- A store behind a commit. -/
def commd (s : XS) (wr : ByteArray → Option (ByteArray × Bool)) (txs : Int → Option XT) (nopen nv nm : Nat) : XS :=
  { s with now := s.now + 1, mom := fun k => if (wr k).isSome = true then s.mom k ++ [s.now + 1] else s.mom k, ver := fun k m => if m = s.now + 1 ∧ (wr k).isSome = true then wr k else s.ver k m, txs := txs, nopen := nopen, nv := nv, nm := nm }

theorem comm_eq (s : XS) (t : XT) (nv nm : Nat) (txs : Int → Option XT) (n : Nat) : { comm s t (fun _ => false) nv nm with txs := txs, nopen := n } = commd s t.wr txs n nv nm := by
  simp [comm, commd]

theorem XOk.commit (h : XOk s) {tx : Int} {t : XT} (e : s.txs tx = some t) (hn : s.now < 2000) {nv nm : Nat} (hnv : nv ≤ s.nv + t.nw) (hnm : nm ≤ s.nm + t.nw) (n : Nat) {l : XL} (hl : LogC s t.wr l) : XOk (commd { s with log := l } t.wr (updI s.txs tx none) n nv nm) := by
  obtain ⟨ws, hws, hw10, hlg, hsy⟩ := hl
  have ht := h.tx tx t e
  have hnow := h.now
  have hhor := h.hor
  have hnw := ht.nw
  refine ⟨⟨by show 0 ≤ s.now + 1; omega, by show s.now + 1 ≤ 2000; omega⟩, ⟨hhor.1, by show s.hor ≤ s.now + 1; omega⟩, h.begun, fun k => ?_, fun k m hm => ?_, fun k m => ?_, fun k hk => ?_, fun n t1 e1 => ?_, ?_, ?_, ?_, ?_, ?_⟩
  · simp only [commd]
    split
    · rw [List.pairwise_append]
      exact ⟨h.up k, by simp, fun a ha b hb => by simp at hb; have := h.mom k a ha; omega⟩
    · exact h.up k
  · simp only [commd] at hm ⊢
    split at hm
    · rcases List.mem_append.1 hm with h1 | h1
      · have := h.mom k m h1; omega
      · simp at h1; omega
    · have := h.mom k m hm; omega
  · simp only [commd]
    by_cases hw : (t.wr k).isSome = true
    · rw [if_pos hw]
      by_cases em : m = s.now + 1
      · subst em; simp [hw]
      · simp only [em, false_and, if_false, List.mem_append, List.mem_singleton, or_false]
        exact h.ver k m
    · rw [if_neg hw, if_neg (fun h => hw h.2)]
      exact h.ver k m
  · simp only [commd] at hk
    split at hk
    · rename_i hw; exact ht.keys k hw
    · exact h.key k hk
  · by_cases en : n = tx
    · subst en; simp [commd, updI_same] at e1
    · simp only [commd, updI_other _ en] at e1
      have := h.tx n t1 e1
      exact ⟨this.num, ⟨this.sees.1, by show t1.sees ≤ s.now + 1; have := this.sees; omega⟩, this.nw, this.keys, this.pos, this.vals⟩
  · have := h.nm
    show (nm : Int) ≤ 10 * (s.now + 1)
    omega
  · have := h.nv
    show (nv : Int) ≤ 10 * (s.now + 1)
    omega
  · have := h.lgl
    show (l.lg.length : Int) ≤ s.now + 1 + s.hor
    rw [hlg]; simp; omega
  · intro b hb
    have hb' : b ∈ l.lg := hb
    rw [hlg] at hb'
    rcases List.mem_append.1 hb' with h1 | h1
    · exact h.lgb b h1
    · simp at h1; subst h1
      have := bodyC_length_le (s.now + 1).toNat ws (fun x hx => ⟨isKey_le x.1 (ht.keys x.1 (by rw [hws.at_ x hx]; rfl)), ht.vals x.1 x.2 (hws.at_ x hx)⟩)
      omega
  · show l.sy ≤ bytesOf (filesB l.lg)
    rw [hlg, hsy]
    exact Nat.le_trans h.sy (bytesOf_snoc _ _)

end

end Go.Proofs.YthbdpfccfcceiaaDoor
