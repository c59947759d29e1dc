/-
  All that the law holds in memory: its pairs of stores, and its book; a Scan of a pair.
  A step on a pair of stores, of every kind of stage 1.
-/
import Derived.Test.YthbdpfccfcceiaaGreatDoorT3
import Derived.Test.YthbdpfccfcceiaaGreatDoorG4G5
namespace Go.Proofs.YthbdpfccfcceiaaGreatDoor
open Go.RowKit

def cellsD (ds : List (Nat × Nat)) : List Value := ds.flatMap fun d => [.pointer (some ⟨d.1, 0, none⟩), .pointer (some ⟨d.2, 0, none⟩)]

/-- What the law's steps leave alone: blocks that are nobody's. -/
def lab9 : Lab := ⟨0, 9, 0, eb⟩

structure Inv (own : Nat → Lab) (w : World) (p : Nat) (ds : List (Nat × Nat)) (vL vP vK : Value) (bk : List (Value × Nat × Int)) (nt : Nat) : Prop where
  book : Bk own w p vL vP vK bk
  rowL : w.ownsRow 0 81 2 vL ds.length (cellsD ds)
  ownL : ∀ b, vL.ownBlock = some b → own b = ⟨0, 1, 0, eb⟩
  duos : ∀ i (hi : i < ds.length), Duo own i w (ds[i]).1 (ds[i]).2 nt
  nds : ds.length ≤ nt
  nbk : bk.length ≤ 4 * nt
  tab : Tab w
  tabO : own 0 = lab9 ∧ own 1 = lab9

section
variable {own own' own3 : Nat → Lab} {i : Nat} {w w' w3 w4 : World} {p nt : Nat} {ds : List (Nat × Nat)} {vL vP vK : Value} {bk : List (Value × Nat × Int)}

theorem Bk.frame (h : Bk own w p vL vP vK bk) (hb : ∀ b, b < w.heap.size → (own b).c ≤ 1 → w'.heap[b]? = w.heap[b]?) (ho : ∀ b, b < w.heap.size → (own b).c ≤ 1 → own' b = own b) : Bk own' w' p vL vP vK bk := by
  have lp := block_lt h.world
  refine ⟨(ho p lp (by rw [h.ownP]; simp)).trans h.ownP, (hb p lp (by rw [h.ownP]; simp)).trans h.world, ?_, ?_, ?_, ?_, h.four, ?_, ?_, h.num⟩
  · exact ownsRow_block h.rowP (fun b e => hb b (h.rowP.lt b e).2 (by rw [h.ownQ b e]; simp))
  · exact fun b e => (ho b (h.rowP.lt b e).2 (by rw [h.ownQ b e]; simp)).trans (h.ownQ b e)
  · exact ownsRow_block h.rowK (fun b e => hb b (h.rowK.lt b e).2 (by rw [h.ownK b e]; simp))
  · exact fun b e => (ho b (h.rowK.lt b e).2 (by rw [h.ownK b e]; simp)).trans (h.ownK b e)
  · exact fun q hq => ownsRow_block (h.lists q hq) (fun b e => hb b ((h.lists q hq).lt b e).2 (by rw [h.ownR q hq b e]; simp))
  · exact fun q hq b e => by rw [ho b ((h.lists q hq).lt b e).2 (by rw [h.ownR q hq b e]; simp)]; exact h.ownR q hq b e

theorem Inv.touch (h : Inv own w p ds vL vP vK bk nt) (hi : i < ds.length) (k : Kp (Cap own i) w w3) (a : ∀ b, b < w.heap.size → own3 b = own b) (d : Duo own3 i w3 (ds[i]).1 (ds[i]).2 (nt + 1)) : Inv own3 w3 p ds vL vP vK bk (nt + 1) := by
  have hn := h.nds
  have hm := h.nbk
  have nc : ∀ b, (own b).c ≤ 1 → ¬ Cap own i b := fun b hc e => by
    rcases e with e | e <;> omega
  refine ⟨h.book.frame (fun b hb hc => k.block b hb (nc b hc)) (fun b hb _ => a b hb), ?_, ?_, ?_, by omega, by omega, h.tab.kp k (nc 0 (by rw [h.tabO.1]; simp [lab9])) (nc 1 (by rw [h.tabO.2]; simp [lab9])), (a 0 h.tab.lt.1).trans h.tabO.1, (a 1 h.tab.lt.2).trans h.tabO.2⟩
  · exact ownsRow_block h.rowL (fun b e => k.block b (h.rowL.lt b e).2 (nc b (by rw [h.ownL b e]; simp)))
  · exact fun b e => (a b (h.rowL.lt b e).2).trans (h.ownL b e)
  · intro j hj
    by_cases hji : j = i
    · subst hji; exact d
    · exact ((h.duos j hj).frame (fun b hb hc => k.block b hb (fun e => by
        rcases hc with hc | hc <;> rcases e with e | e <;> omega)) (fun b hb _ => a b hb)).mono (by omega)

theorem Inv.same (h : Inv own w p ds vL vP vK bk nt) (k : Kp (fun _ => False) w w3) (a : ∀ b, b < w.heap.size → own3 b = own b) : Inv own3 w3 p ds vL vP vK bk nt := by
  refine ⟨h.book.frame (fun b hb hc => k.block b hb (fun e => e)) (fun b hb _ => a b hb), ?_, ?_, ?_, h.nds, h.nbk, h.tab.kept k, (a 0 h.tab.lt.1).trans h.tabO.1, (a 1 h.tab.lt.2).trans h.tabO.2⟩
  · exact ownsRow_block h.rowL (fun b e => k.block b (h.rowL.lt b e).2 (fun e => e))
  · exact fun b e => (a b (h.rowL.lt b e).2).trans (h.ownL b e)
  · intro j hj
    exact (h.duos j hj).frame (fun b hb hc => k.block b hb (fun e => e)) (fun b hb _ => a b hb)

theorem Inv.mono {nt' : Nat} (h : Inv own w p ds vL vP vK bk nt) (hn : nt ≤ nt') : Inv own w p ds vL vP vK bk nt' :=
  ⟨h.book, h.rowL, h.ownL, fun i hi => (h.duos i hi).mono hn, Nat.le_trans h.nds hn, by have := h.nbk; omega, h.tab, h.tabO⟩

theorem Inv.tabN (h : Inv own w p ds vL vP vK bk nt) (i : Nat) : TabN own (2 * i + 2) := by
  unfold TabN
  rw [h.tabO.1, h.tabO.2]
  exact ⟨by simp [lab9], by simp [lab9]⟩

theorem cap_not9 {b : Nat} (h : Cap own i b) : own b ≠ lab9 := fun e => by
  unfold Cap at h
  rw [e] at h
  rcases h with h | h <;> simp [lab9] at h

variable {R : Ending → World → Prop}

/-- The comparison of what a Scan gave, and its place in the book. -/
theorem i_pairs (h : Inv own w p ds vL vP vK bk nt) (hnt : nt < 1000000) (k3 : Kp (fun _ => False) w w3) (v v' : Value) (n : Nat) (xs : List (ByteArray × ByteArray)) (er : Int) (hn : n < 1000000)
    (hv : w3.ownsRow w.heap.size 105 2 v n (cells2 xs)) (hv' : w3.ownsRow 0 105 2 v' n (cells2 xs))
    (hK : ∀ w' own' vP' vK' bk', Kp (fun b => own b ≠ lab9) w w' → (∀ b, b < w.heap.size → own' b = own b) → Inv own' w' p ds vL vP' vK' bk' (nt + 1) → R (.returned (.bool true)) w') :
    Calls Tryz.prog 100 #[.pointer (some ⟨p, 0, none⟩), v, .int .i64 er, v', .int .i64 er] w3 (fun r w4 => r = .returned (.bool true) ∧ R (.returned (.bool true)) w4) := by
  have hv0 : w3.ownsRow 0 105 2 v n (cells2 xs) := ⟨hv.1, hv.2.imp id (fun ⟨g, cap, cur, e1, _, e3⟩ => ⟨g, cap, cur, e1, Nat.zero_le _, e3⟩)⟩
  have hvb : ∀ b, v.ownBlock = some b → w.heap.size ≤ b := fun b e => (hv.lt b e).1
  have lp := block_lt h.book.world
  refine world_pairs p v v' n xs er hn hv0 hv' (fun w4 k34 => ?_) (Nat.lt_of_lt_of_le lp k3.size)
  have k4 := k3.trans k34 (fun _ _ h => h)
  have hs4 := k4.size
  have agree : ∀ b, b < w.heap.size → (fun b => if b < w.heap.size then own b else (⟨1, 0, 0, eb⟩ : Lab)) b = own b := fun b hb => by simp [hb]
  have I := h.same (own3 := fun b => if b < w.heap.size then own b else ⟨1, 0, 0, eb⟩) k4 agree
  have newlab : ∀ b, w.heap.size ≤ b → (fun b => if b < w.heap.size then own b else (⟨1, 0, 0, eb⟩ : Lab)) b = ⟨1, 0, 0, eb⟩ := fun b hb => by
    have : ¬ b < w.heap.size := by omega
    simp [this]
  generalize (fun b => if b < w.heap.size then own b else (⟨1, 0, 0, eb⟩ : Lab)) = own1 at agree I newlab
  have vlab : ∀ b, v.ownBlock = some b → own1 b = ⟨1, 0, 0, eb⟩ := fun b e => newlab b (hvb b e)
  obtain ⟨q, hq⟩ := I.book.four
  have hbk := I.nbk
  have rP := I.book.rowP
  have rK := I.book.rowK
  rw [hq] at rP rK
  have hv4 : w4.ownsRow 0 105 2 v n (cells2 xs) := ownsRow_kp hv0 k34 (fun _ _ h => h)
  have ne : ∀ {a b : Nat}, own1 a ≠ own1 b → a ≠ b := fun h e => h (by rw [e])
  refine book_pairs p (worldC vL vP vK) vP vK v q n (bk.map (·.1)) (bk.map fun q => .int .i64 q.2.2) xs (by omega) hn I.book.world rfl rfl rP rK hv4 ?_ ?_ ?_ ?_ ?_ ?_ ?_
  · intro e
    have := vlab p e
    rw [I.book.ownP] at this; simp at this
  · intro e
    have := I.book.ownQ p e
    rw [I.book.ownP] at this; simp at this
  · intro e
    have := I.book.ownK p e
    rw [I.book.ownP] at this; simp at this
  · intro b e1 e2
    have := I.book.ownQ b e1
    rw [vlab b e2] at this; simp at this
  · intro b e1 e2
    have := I.book.ownK b e1
    rw [vlab b e2] at this; simp at this
  · intro b e1 e2
    have := I.book.ownK b e1
    rw [I.book.ownQ b e2] at this; simp at this
  · intro w5 vP' vK' v1 v2 v3 s5 s6 t9 hp5 g10 g11 f0 f1 f2 f3 hs5 hs56 L1 L2 L3 lP lK
    refine ⟨rfl, rfl, hK w5 (fun b => if b < w4.heap.size then own1 b else if b < s5 then ⟨1, 0, 0, eb⟩ else if b < s6 then ⟨0, 2, 0, eb⟩ else ⟨0, 3, 0, eb⟩) vP' vK' (bk ++ [(v, n, (q : Int) + 1), (v1, n + 1, (q : Int) + 1), (v2, n + 2, (q : Int) + 1), (v3, n + 3, (q : Int) + 1)]) ?_ ?_ ?_⟩
    · refine (k4.mono (S' := fun b => own b ≠ lab9) (fun _ _ h => h.elim)).trans t9 (fun b hb e => ?_)
      rw [← agree b hb]
      rcases e with e | e | e | e
      · rw [e, I.book.ownP]; simp [lab9]
      · rw [I.book.ownQ b e]; simp [lab9]
      · rw [I.book.ownK b e]; simp [lab9]
      · have := hvb b e; omega
    · intro b hb
      have : b < w4.heap.size := by omega
      simp [this, agree b hb]
    · have o4 : ∀ b, b < w4.heap.size → (fun b => if b < w4.heap.size then own1 b else if b < s5 then (⟨1, 0, 0, eb⟩ : Lab) else if b < s6 then ⟨0, 2, 0, eb⟩ else ⟨0, 3, 0, eb⟩) b = own1 b := fun b hb => by simp [hb]
      have o1 : ∀ b, w4.heap.size ≤ b → b < s5 → (fun b => if b < w4.heap.size then own1 b else if b < s5 then (⟨1, 0, 0, eb⟩ : Lab) else if b < s6 then ⟨0, 2, 0, eb⟩ else ⟨0, 3, 0, eb⟩) b = ⟨1, 0, 0, eb⟩ := fun b hb h5 => by
        have : ¬ b < w4.heap.size := by omega
        simp [this, h5]
      have o2 : ∀ b, s5 ≤ b → b < s6 → (fun b => if b < w4.heap.size then own1 b else if b < s5 then (⟨1, 0, 0, eb⟩ : Lab) else if b < s6 then ⟨0, 2, 0, eb⟩ else ⟨0, 3, 0, eb⟩) b = ⟨0, 2, 0, eb⟩ := fun b hb h5 => by
        have h1 : ¬ b < w4.heap.size := by omega
        have h2 : ¬ b < s5 := by omega
        simp [h1, h2, h5]
      have o3 : ∀ b, s6 ≤ b → (fun b => if b < w4.heap.size then own1 b else if b < s5 then (⟨1, 0, 0, eb⟩ : Lab) else if b < s6 then ⟨0, 2, 0, eb⟩ else ⟨0, 3, 0, eb⟩) b = ⟨0, 3, 0, eb⟩ := fun b hb => by
        have h1 : ¬ b < w4.heap.size := by omega
        have h2 : ¬ b < s5 := by omega
        have h3 : ¬ b < s6 := by omega
        simp [h1, h2, h3]
      generalize (fun b => if b < w4.heap.size then own1 b else if b < s5 then (⟨1, 0, 0, eb⟩ : Lab) else if b < s6 then ⟨0, 2, 0, eb⟩ else ⟨0, 3, 0, eb⟩) = own5 at o4 o1 o2 o3
      -- what stays
      have T : ∀ b, b < w4.heap.size → own1 b ≠ ⟨0, 0, 0, eb⟩ → own1 b ≠ ⟨0, 2, 0, eb⟩ → own1 b ≠ ⟨0, 3, 0, eb⟩ → v.ownBlock ≠ some b → w5.heap[b]? = w4.heap[b]? := fun b hb h0 h2 h3 hv => t9.block b hb (fun e => by
        rcases e with e | e | e | e
        · exact h0 (by rw [e]; exact I.book.ownP)
        · exact h2 (I.book.ownQ b e)
        · exact h3 (I.book.ownK b e)
        · exact hv e)
      have hlies : ∀ u, Lies w4 v u s5 → ∀ b, u.ownBlock = some b → (own5 b).c = 1 := fun u hu b e => by
        rcases hu b e with h1 | h1
        · rw [o4 b (hv4.lt b h1).2, vlab b h1]
        · rw [o1 b h1.1 h1.2]
      have lp4 : p < w4.heap.size := block_lt I.book.world
      refine ⟨⟨(o4 p lp4).trans I.book.ownP, hp5, ?_, ?_, ?_, ?_, ⟨q + 1, by simp [hq]; omega⟩, ?_, ?_, ?_⟩, ?_, ?_, ?_, by have := h.nds; omega, by simp [hq]; omega, I.tab.block (T 0 I.tab.lt.1 (by rw [I.tabO.1]; simp [lab9]) (by rw [I.tabO.1]; simp [lab9]) (by rw [I.tabO.1]; simp [lab9]) (fun e => by have := vlab 0 e; rw [I.tabO.1] at this; simp [lab9] at this)) (T 1 I.tab.lt.2 (by rw [I.tabO.2]; simp [lab9]) (by rw [I.tabO.2]; simp [lab9]) (by rw [I.tabO.2]; simp [lab9]) (fun e => by have := vlab 1 e; rw [I.tabO.2] at this; simp [lab9] at this)), (o4 0 I.tab.lt.1).trans I.tabO.1, (o4 1 I.tab.lt.2).trans I.tabO.2⟩
      · rw [List.length_append, hq, List.map_append]; exact g10
      · intro b e
        rcases lP b e with h1 | h1
        · rw [o4 b (rP.lt b h1).2]; exact I.book.ownQ b h1
        · exact o2 b h1.1 h1.2
      · rw [List.length_append, hq, List.map_append]; exact g11
      · intro b e
        rcases lK b e with h1 | h1
        · rw [o4 b (rK.lt b h1).2]; exact I.book.ownK b h1
        · exact o3 b h1
      · intro u hu
        rcases List.mem_append.1 hu with h1 | h1
        · refine ownsRow_block (I.book.lists u h1) (fun b e => ?_)
          have hc := I.book.ownR u h1 b e
          refine T b ((I.book.lists u h1).lt b e).2 (fun e2 => by rw [e2] at hc; simp at hc) (fun e2 => by rw [e2] at hc; simp at hc) (fun e2 => by rw [e2] at hc; simp at hc) (fun e2 => ?_)
          have h3 := ((h.book.lists u h1).lt b e).2
          have h4 := hvb b e2
          omega
        · simp only [List.mem_cons, List.not_mem_nil, or_false] at h1
          rcases h1 with rfl | rfl | rfl | rfl
          · exact f0
          · exact f1
          · exact f2
          · exact f3
      · intro u hu b e
        rcases List.mem_append.1 hu with h1 | h1
        · rw [o4 b ((I.book.lists u h1).lt b e).2]; exact I.book.ownR u h1 b e
        · simp only [List.mem_cons, List.not_mem_nil, or_false] at h1
          rcases h1 with rfl | rfl | rfl | rfl
          · rw [o4 b (hv4.lt b e).2, vlab b e]
          · exact hlies v1 L1 b e
          · exact hlies v2 L2 b e
          · exact hlies v3 L3 b e
      · intro u hu
        rcases List.mem_append.1 hu with h1 | h1
        · exact I.book.num u h1
        · simp only [List.mem_cons, List.not_mem_nil, or_false] at h1
          rcases h1 with rfl | rfl | rfl | rfl <;> (refine ⟨?_, ?_, ?_⟩ <;> dsimp only <;> omega)
      · refine ownsRow_block I.rowL (fun b e => ?_)
        have hl := I.ownL b e
        refine T b (I.rowL.lt b e).2 (by rw [hl]; simp) (by rw [hl]; simp) (by rw [hl]; simp) (fun e2 => ?_)
        rw [vlab b e2] at hl; simp at hl
      · intro b e
        rw [o4 b (I.rowL.lt b e).2]; exact I.ownL b e
      · intro j hj
        refine ((I.duos j hj).frame (fun b hb hc => ?_) (fun b hb _ => o4 b hb)).mono (by omega)
        have nz : ∀ l : Lab, l.c ≤ 1 → own1 b ≠ l := fun l hl e => by
          unfold Cap at hc
          rw [e] at hc
          rcases hc with hc | hc <;> omega
        exact T b hb (nz _ (by simp)) (nz _ (by simp)) (nz _ (by simp)) (fun e => nz _ (by simp) (vlab b e))

end

end Go.Proofs.YthbdpfccfcceiaaGreatDoor

namespace Go.Proofs.YthbdpfccfcceiaaGreatDoor
open Go.RowKit

section
variable {own : Nat → Lab} {i : Nat} {w : World} {p nt : Nat} {ds : List (Nat × Nat)} {vL vP vK : Value} {bk : List (Value × Nat × Int)}
variable {R : Ending → World → Prop}

theorem i_scan (h : Inv own w p ds vL vP vK bk nt) (hi : i < ds.length) (hnt : nt < 1000000) (e a b : Int) (ha : -9223372036854775808 ≤ a ∧ a ≤ 9223372036854775807) (st tt : ByteArray) (vl vm : Value)
    (hK : ∀ w' own' vP' vK' bk', Kp (fun b => own b ≠ lab9) w w' → (∀ b, b < w.heap.size → own' b = own b) → Inv own' w' p ds vL vP' vK' bk' (nt + 1) → R (.returned (.bool true)) w') :
    Calls Tryz.prog 61 #[.pointer (some ⟨p, 0, none⟩), pairV (ds[i]).1 (ds[i]).2, stepV 4 e a b st tt vl vm] w R := by
  obtain ⟨s, y, hx, hy, ht, hI, hn⟩ := h.duos i hi
  refine txs_scan w p _ _ e a b st tt vl vm ?_
  have hw := boxW_kp w (ds[i]).1 (ds[i]).2 4 e a b st tt vl vm
  generalize boxW w (ds[i]).1 (ds[i]).2 4 e a b st tt vl vm = w1 at hw ⊢
  have HB := hI.yb (by omega)
  obtain ⟨mo, ph, mv, mm, pt, mw, sl, X⟩ := hx.box hw
  obtain ⟨vL', vT, vG, sv, lg, Y, hl⟩ := hy.box hw
  have hnm := ht.nm
  have hnow := hI.now
  refine x_scan X a (wf_i64 ha) st tt (by omega) (ht.nw hI) (ht.momOk hI) (ht.keysM hI) (ht.keysW hI) (fun e0 => ⟨_, _, rfl, Kp.refl _ _, ?_⟩) (fun x e1 w2 v ks k2 hsort hmem hlen hrow => ⟨_, _, rfl, kpF k2, ?_⟩)
  · have th := ht.none_iff.1 e0
    refine y_scan_none Y HB a st tt th ⟨_, rfl, ?_⟩
    exact i_pairs h hnt hw (.slice none 0 0) (.slice none 0 0) 0 [] 2 (by omega) (World.ownsRow_nil _ _ _ _) (World.ownsRow_nil _ _ _ _) hK
  · obtain ⟨th, j, rfl, hj, ho, rfl⟩ := ht.some_at e1
    refine y_scan (Y.kept k2) HB j hj th st tt (seesX s (xtOf y.txs[j])) (ht.seen hI _) (fun w3 v' ks' k3 hsort' hmem' hlen' hrow' => ⟨v', rfl, ?_⟩)
    have hks : ks' = ks := sorted_ext hsort' hsort (fun k => by
      rw [hmem, hmem', ht.mom, moms_ne]
      show _ ↔ (_ ∨ (wrOf (y.txs[j]).l k).isSome = true) ∧ _
      rw [wrOf_mem]
      constructor
      · rintro ⟨⟨v, hv, e⟩, hr⟩
        rcases List.mem_append.1 hv with h1 | h1
        · exact ⟨Or.inl ⟨v, h1, e⟩, hr⟩
        · exact ⟨Or.inr ⟨v, h1, e⟩, hr⟩
      · rintro ⟨⟨v, hv, e⟩ | ⟨v, hv, e⟩, hr⟩
        · exact ⟨⟨v, List.mem_append.2 (Or.inl hv), e⟩, hr⟩
        · exact ⟨⟨v, List.mem_append.2 (Or.inr hv), e⟩, hr⟩)
    subst hks
    have hlf := List.length_filterMap_le (pairOf (seesX s (xtOf y.txs[j]))) ks'
    have hrow3 := ownsRow_kp hrow k3 (fun _ _ h => h)
    refine i_pairs h hnt ((hw.trans k2 (fun _ _ h => h)).trans k3 (fun _ _ h => h)) v v' _ _ 0 (by omega) ⟨hrow3.1, hrow3.2.imp id (fun ⟨g, cap, cur, e1, e2, e3⟩ => ⟨g, cap, cur, e1, Nat.le_trans hw.size e2, e3⟩)⟩ ⟨hrow'.1, hrow'.2.imp id (fun ⟨g, cap, cur, e1, _, e3⟩ => ⟨g, cap, cur, e1, Nat.zero_le _, e3⟩)⟩ hK

theorem i_txs (h : Inv own w p ds vL vP vK bk nt) (hi : i < ds.length) (hnt : nt < 1000000) (kind e a b : Int) (hk : 2 ≤ kind ∧ kind ≤ 9) (ha : -9223372036854775808 ≤ a ∧ a ≤ 9223372036854775807) (st tt : ByteArray) (hst : st.size ≤ maxLen) (htt : tt.size ≤ maxLen) (vl vm : Value)
    (hK : ∀ w' own' vP' vK' bk', Kp (fun b => own b ≠ lab9) w w' → (∀ b, b < w.heap.size → own' b = own b) → Inv own' w' p ds vL vP' vK' bk' (nt + 1) → R (.returned (.bool true)) w') :
    Calls Tryz.prog 61 #[.pointer (some ⟨p, 0, none⟩), pairV (ds[i]).1 (ds[i]).2, stepV kind e a b st tt vl vm] w R := by
  have hD := h.duos i hi
  have hn' : nt < 100000000 := by omega
  have K : ∀ w3 own3, Kp (Cap own i) w w3 → (∀ b, b < w.heap.size → own3 b = own b) → Duo own3 i w3 (ds[i]).1 (ds[i]).2 (nt + 1) → R (.returned (.bool true)) w3 := fun w3 own3 k a d => hK w3 own3 vP vK bk (k.mono (fun _ _ h => cap_not9 h)) a (h.touch hi k a d)
  rcases (by omega : kind = 2 ∨ kind = 3 ∨ kind = 4 ∨ kind = 5 ∨ kind = 6 ∨ kind = 7 ∨ kind = 8 ∨ kind = 9) with rfl | rfl | rfl | rfl | rfl | rfl | rfl | rfl
  · exact d_begin hD hn' e a b st tt vl vm K
  · exact d_get hD hn' e a b ha st tt hst htt vl vm K
  · exact i_scan h hi hnt e a b ha st tt vl vm hK
  · exact d_put hD hn' e a b ha st tt hst htt vl vm K
  · exact d_delete hD hn' e a b ha st tt hst htt vl vm K
  · exact d_commit hD h.tab (h.tabN i) hn' e a b ha st tt hst htt vl vm K
  · exact d_abort hD hn' e a b ha st tt hst htt vl vm K
  · exact d_now hD hn' e a b ha st tt hst htt vl vm K

end

end Go.Proofs.YthbdpfccfcceiaaGreatDoor
