/-
  The law's comparison of two lists of pairs.
  The law's book: every list that came out reads as its owner wrote it.
  All that the law holds in memory: its pairs of stores, and its book; a Scan of a pair.
  A step on a pair of stores, of every kind of stage 1.
-/
import Derived.Test.YthbdpfccfcceiaaGreatDoorA1G3
import Derived.BigQuiet
import Derived.BigRegion
import Derived.Test.YthbdpfccfcceiaaGreatDoorT3
namespace Go.Proofs.YthbdpfccfcceiaaGreatDoor
open Go.RowKit

theorem cells2_at : ∀ (l : List (ByteArray × ByteArray)) (j : Nat) (hj : j < l.length), (cells2 l)[j * 2]? = some (.string l[j].1) ∧ (cells2 l)[j * 2 + 1]? = some (.string l[j].2)
  | a :: r, 0, _ => by simp [cells2]
  | a :: r, j + 1, hj => by
    have ih := cells2_at r j (by simpa using hj)
    have e : cells2 (a :: r) = .string a.1 :: .string a.2 :: cells2 r := by simp [cells2]
    rw [e, show (j + 1) * 2 = j * 2 + 1 + 1 by omega]
    simpa using ih

theorem pairs_row {w : World} {base n : Nat} {v : Value} {l : List (ByteArray × ByteArray)} (h : w.ownsRow base 105 2 v n (cells2 l)) : l.length = n ∧ ∃ a cap, v = .slice a n cap ∧ n ≤ cap ∧ ∀ j (hj : j < l.length), ∃ g, a = some ⟨g, 0, none⟩ ∧ w.cell? ⟨g, j * 2, none⟩ = some (.string l[j].1) ∧ w.cell? ⟨g, j * 2 + 1, none⟩ = some (.string l[j].2) := by
  have hl : l.length = n := by have := h.1; rw [cells2_len] at this; omega
  refine ⟨hl, ?_⟩
  rcases h.2 with ⟨rfl, rfl⟩ | ⟨g, cap, cur, rfl, hb, hg, hn, hm, hcs, ht⟩
  · exact ⟨none, 0, rfl, Nat.le_refl _, fun j hj => by omega⟩
  · refine ⟨_, cap, rfl, hn, fun j hj => ⟨g, rfl, ?_⟩⟩
    have key : ∀ i u, (cells2 l)[i]? = some u → w.cell? ⟨g, i, none⟩ = some u := fun i u hu => by
      have : w.cell? ⟨g, i, none⟩ = cur[i]? := by simp [World.cell?, hg]
      rw [this, ← Array.getElem?_toList]
      rw [← ht, List.getElem?_take] at hu
      split at hu
      · exact hu
      · cases hu
    obtain ⟨a1, a2⟩ := cells2_at l j hj
    exact ⟨key _ _ a1, key _ _ a2⟩

section
variable {R : Ending → World → Prop} {w : World}

set_option maxRecDepth 20000 in
set_option maxHeartbeats 1000000 in
theorem world_pairs (p : Nat) (v v' : Value) (n : Nat) (xs : List (ByteArray × ByteArray)) (er : Int) (hn : n < 1000000) (hv : w.ownsRow 0 105 2 v n (cells2 xs)) (hv' : w.ownsRow 0 105 2 v' n (cells2 xs))
    (hB : ∀ w1, Kp (fun _ => False) w w1 → Calls Tryz.prog 154 #[.pointer (some ⟨p, 3, none⟩), v] w1 (fun r w2 => r = .returned (.tuple #[]) ∧ R (.returned (.bool true)) w2)) (_hp : p < w.heap.size) :
    Calls Tryz.prog 100 #[.pointer (some ⟨p, 0, none⟩), v, .int .i64 er, v', .int .i64 er] w R := by
  obtain ⟨hl, a, cap, rfl, hc, hx⟩ := pairs_row hv
  obtain ⟨_, a', cap', rfl, hc', hx'⟩ := pairs_row hv'
  have HX := hid_of hx
  have HX' := hid_of hx'
  have HB := hid_of hB
  have hn' : (n : Int) < 1000000 := by omega
  clear hv hv' hx hx' hB
  go_enter Tryz.func100, Tryz.ntmps100
  go_wp2
  go_loopw [11, 12] (fun v11 v12 wr => ∃ i : Nat, i ≤ n ∧ v11 = .bool true ∧ v12 = .int .i64 i ∧ Kp (fun _ => False) w wr) (fun _ v12 _ => n - (intOf v12).toNat)
  case atStart => exact ⟨0, Nat.zero_le _, rfl, rfl, Kp.refl _ _⟩
  case round =>
    obtain ⟨i, hile, rfl, rfl, hkp⟩ := hrel
    by_cases hin : i < n
    · have hin' : (i : Int) < n := by omega
      obtain ⟨g, rfl, q0, q1⟩ := HX.out i (by omega)
      obtain ⟨g', rfl, q0', q1'⟩ := HX'.out i (by omega)
      have r0 := (hkp.cell (World.block_lt_of_cell? w _ q0) (fun h => h)).trans q0
      have r1 := (hkp.cell (World.block_lt_of_cell? w _ q1) (fun h => h)).trans q1
      have r0' := (hkp.cell (World.block_lt_of_cell? w _ q0') (fun h => h)).trans q0'
      have r1' := (hkp.cell (World.block_lt_of_cell? w _ q1') (fun h => h)).trans q1'
      generalize (xs[i]'(by omega)).1 = x1 at r0 r0'
      generalize (xs[i]'(by omega)).2 = x2 at r1 r1'
      have HKP := hid_of hkp
      clear q0 q1 q0' q1' hkp hin
      go_wp2
      go_quiet (fail)
      go_wp2
      go_roundw
      case rel => exact ⟨i + 1, by omega, rfl, by go_num, HKP.out.trans (Kp.drewN (fun _ => False) _ _) (fun _ _ h => h)⟩
      case measure => simp [intOf]; omega
    · have hie : i = n := by omega
      subst hie
      have HKP := hid_of hkp
      clear hkp hile hin
      go_wp2_with (first
        | (go_at_call 154; refine (HB.out wr HKP.out).mono ?_; rintro r w2 ⟨rfl, hr⟩)
        | fail)
      exact hr

end

end Go.Proofs.YthbdpfccfcceiaaGreatDoor

namespace Go.Proofs.YthbdpfccfcceiaaGreatDoor
open Go.RowKit

/-- What the book holds: lists of pairs; lists of bytes; lists of lists: of each its value, its length, its mark. -/
structure BO where
  l : List (Value × Nat × Int)
  vB : Value
  vI : Value
  b : List (Value × Nat × Int)
  vF : Value
  vJ : Value
  f : List (Value × Nat × Int × Nat)

def BO.none : BO := ⟨[], .slice .none 0 0, .slice .none 0 0, [], .slice .none 0 0, .slice .none 0 0, []⟩

def worldC (vL vP vK : Value) (bk : BO) : Array Value := #[vL, .slice none 0 0, .slice none 0 0, bk.vB, bk.vI, vP, vK, bk.vF, bk.vJ]

/-- What the caller writes at the place i of the k-th list of bytes. -/
def sgnI (k : Int) (i : Nat) : Int := if i % 2 = 0 then k % 256 else k / 256 % 256
def signV (k : Int) (i : Nat) : Value := .int .u8 (sgnI k i)
def signs (k : Int) (n : Nat) : List Value := (List.range n).map (signV k)
def markV (g : Nat) : Value := .slice (some ⟨g, 0, none⟩) 2 2
def markC (k : Int) : Array Value := #[.int .u8 (k % 256), .int .u8 (k / 256 % 256)]

/-- The book's lists of bytes and lists of lists. -/
structure Bq (own : Nat → Lab) (w : World) (bk : BO) : Prop where
  rowB : w.ownsRow 0 48 1 bk.vB bk.b.length (bk.b.map (·.1))
  ownB : ∀ b, bk.vB.ownBlock = some b → own b = ⟨0, 4, 0, eb⟩
  rowI : w.ownsRow 0 3 1 bk.vI bk.b.length (bk.b.map fun q => .int .i64 q.2.2)
  ownI : ∀ b, bk.vI.ownBlock = some b → own b = ⟨0, 5, 0, eb⟩
  fourB : ∃ q, bk.b.length = 4 * q
  listsB : ∀ q ∈ bk.b, w.ownsRow 0 5 1 q.1 q.2.1 (signs q.2.2 q.2.1)
  ownRB : ∀ q ∈ bk.b, ∀ b, q.1.ownBlock = some b → (own b).c = 1
  numB : ∀ q ∈ bk.b, 1 ≤ q.2.2 ∧ q.2.2 < 100000000000 ∧ q.2.1 < 10000000
  rowF : w.ownsRow 0 37 1 bk.vF bk.f.length (bk.f.map (·.1))
  ownF : ∀ b, bk.vF.ownBlock = some b → own b = ⟨0, 6, 0, eb⟩
  rowJ : w.ownsRow 0 3 1 bk.vJ bk.f.length (bk.f.map fun q => .int .i64 q.2.2.1)
  ownJ : ∀ b, bk.vJ.ownBlock = some b → own b = ⟨0, 7, 0, eb⟩
  fourF : ∃ q, bk.f.length = 4 * q
  listsF : ∀ q ∈ bk.f, w.ownsRow 0 48 1 q.1 q.2.1 (List.replicate q.2.1 (markV q.2.2.2))
  ownRF : ∀ q ∈ bk.f, ∀ b, q.1.ownBlock = some b → (own b).c = 1
  markF : ∀ q ∈ bk.f, w.heap[q.2.2.2]? = some (.cells (markC q.2.2.1) 5 (0, 0)) ∧ (own q.2.2.2).c = 1
  numF : ∀ q ∈ bk.f, 1 ≤ q.2.2.1 ∧ q.2.2.1 < 10000000 ∧ q.2.1 < 10000000

/-- Labels of what the book's lists of bytes and lists of lists lie in. -/
def BqL (l : Lab) : Prop := l.c = 1 ∨ (l.c = 0 ∧ 4 ≤ l.k ∧ l.k ≤ 7)

theorem bq_block {w w' : World} {base e size n : Nat} {v : Value} {xs : List Value} (h : w.ownsRow base e size v n xs) (hb : ∀ b, v.ownBlock = some b → w'.heap[b]? = w.heap[b]?) : w'.ownsRow base e size v n xs := by
  refine ⟨h.1, ?_⟩
  rcases h.2 with h1 | ⟨g, cap, cur, rfl, hg0, hg, r⟩
  · exact Or.inl h1
  · exact Or.inr ⟨g, cap, cur, rfl, hg0, (hb g rfl).trans hg, r⟩

theorem Bq.frame {own own' : Nat → Lab} {w w' : World} {bk : BO} (h : Bq own w bk) (hb : ∀ b, b < w.heap.size → BqL (own b) → w'.heap[b]? = w.heap[b]?) (ho : ∀ b, b < w.heap.size → BqL (own b) → own' b = own b) : Bq own' w' bk := by
  have l4 : ∀ {b}, own b = ⟨0, 4, 0, eb⟩ → BqL (own b) := fun e => by rw [e]; exact Or.inr ⟨rfl, by decide, by decide⟩
  have l5 : ∀ {b}, own b = ⟨0, 5, 0, eb⟩ → BqL (own b) := fun e => by rw [e]; exact Or.inr ⟨rfl, by decide, by decide⟩
  have l6 : ∀ {b}, own b = ⟨0, 6, 0, eb⟩ → BqL (own b) := fun e => by rw [e]; exact Or.inr ⟨rfl, by decide, by decide⟩
  have l7 : ∀ {b}, own b = ⟨0, 7, 0, eb⟩ → BqL (own b) := fun e => by rw [e]; exact Or.inr ⟨rfl, by decide, by decide⟩
  refine ⟨bq_block h.rowB (fun b e => hb b (h.rowB.lt b e).2 (l4 (h.ownB b e))), fun b e => (ho b (h.rowB.lt b e).2 (l4 (h.ownB b e))).trans (h.ownB b e), bq_block h.rowI (fun b e => hb b (h.rowI.lt b e).2 (l5 (h.ownI b e))), fun b e => (ho b (h.rowI.lt b e).2 (l5 (h.ownI b e))).trans (h.ownI b e), h.fourB, fun q hq => ?_, fun q hq b e => ?_, h.numB,
    bq_block h.rowF (fun b e => hb b (h.rowF.lt b e).2 (l6 (h.ownF b e))), fun b e => (ho b (h.rowF.lt b e).2 (l6 (h.ownF b e))).trans (h.ownF b e), bq_block h.rowJ (fun b e => hb b (h.rowJ.lt b e).2 (l7 (h.ownJ b e))), fun b e => (ho b (h.rowJ.lt b e).2 (l7 (h.ownJ b e))).trans (h.ownJ b e), h.fourF, fun q hq => ?_, fun q hq b e => ?_, fun q hq => ?_, h.numF⟩
  · exact bq_block (h.listsB q hq) (fun b e => hb b ((h.listsB q hq).lt b e).2 (Or.inl (h.ownRB q hq b e)))
  · rw [ho b ((h.listsB q hq).lt b e).2 (Or.inl (h.ownRB q hq b e))]; exact h.ownRB q hq b e
  · exact bq_block (h.listsF q hq) (fun b e => hb b ((h.listsF q hq).lt b e).2 (Or.inl (h.ownRF q hq b e)))
  · rw [ho b ((h.listsF q hq).lt b e).2 (Or.inl (h.ownRF q hq b e))]; exact h.ownRF q hq b e
  · obtain ⟨h1, h2⟩ := h.markF q hq
    have hl := block_lt h1
    exact ⟨(hb _ hl (Or.inl h2)).trans h1, by rw [ho _ hl (Or.inl h2)]; exact h2⟩

theorem bq_none (own : Nat → Lab) (w : World) : Bq own w BO.none :=
  ⟨World.ownsRow_nil _ _ _ _, fun b e => (by cases e), World.ownsRow_nil _ _ _ _, fun b e => (by cases e), ⟨0, rfl⟩, fun q hq => (by cases hq), fun q hq => (by cases hq), fun q hq => (by cases hq),
    World.ownsRow_nil _ _ _ _, fun b e => (by cases e), World.ownsRow_nil _ _ _ _, fun b e => (by cases e), ⟨0, rfl⟩, fun q hq => (by cases hq), fun q hq => (by cases hq), fun q hq => (by cases hq), fun q hq => (by cases hq)⟩

/-- The law's world and its book in memory. -/
structure Bk (own : Nat → Lab) (w : World) (p : Nat) (vL vP vK : Value) (bk : BO) : Prop where
  ownP : own p = ⟨0, 0, 0, eb⟩
  world : w.heap[p]? = some (.cells (worldC vL vP vK bk) 68 (0, 0))
  rowP : w.ownsRow 0 43 1 vP bk.l.length (bk.l.map (·.1))
  ownQ : ∀ b, vP.ownBlock = some b → own b = ⟨0, 2, 0, eb⟩
  rowK : w.ownsRow 0 3 1 vK bk.l.length (bk.l.map fun q => .int .i64 q.2.2)
  ownK : ∀ b, vK.ownBlock = some b → own b = ⟨0, 3, 0, eb⟩
  four : ∃ q, bk.l.length = 4 * q
  lists : ∀ q ∈ bk.l, w.ownsRow 0 105 2 q.1 q.2.1 (cells2 (List.replicate q.2.1 (eb, mark q.2.2)))
  ownR : ∀ q ∈ bk.l, ∀ b, q.1.ownBlock = some b → (own b).c = 1
  num : ∀ q ∈ bk.l, 1 ≤ q.2.2 ∧ q.2.2 < 10000000 ∧ q.2.1 < 10000000

theorem row_at {w : World} {base e n : Nat} {v : Value} {xs : List Value} (h : w.ownsRow base e 1 v n xs) (j : Nat) (hj : j < n) : ∃ g cap, v = .slice (some ⟨g, 0, none⟩) n cap ∧ n ≤ cap ∧ w.cell? ⟨g, j, none⟩ = xs[j]? := by
  have hl : xs.length = n := by simpa using h.1
  rcases h.2 with ⟨rfl, rfl⟩ | ⟨g, cap, cur, rfl, hb, hg, hn, hm, hcs, ht⟩
  · omega
  · refine ⟨g, cap, rfl, hn, ?_⟩
    have : w.cell? ⟨g, j, none⟩ = cur[j]? := by simp [World.cell?, hg]
    rw [this, ← Array.getElem?_toList, ← ht, List.getElem?_take, if_pos (by omega)]

theorem conv_mark_drew (k : Int) (w : World) : (convert 48 9 (.slice (some ⟨w.heap.size, 0, none⟩) 2 2)).run Tryz.prog (w.alloc (.cells #[.int .u8 (k % 256), .int .u8 (k / 256 % 256)] 5)).drew = .ok (.string (mark k)) (w.alloc (.cells #[.int .u8 (k % 256), .int .u8 (k / 256 % 256)] 5)).drew := conv_mark k w.drew

end Go.Proofs.YthbdpfccfcceiaaGreatDoor

namespace Go.Proofs.YthbdpfccfcceiaaGreatDoor
open Go.RowKit

def cellsD (ds : List (Nat × Nat)) : List Value := ds.flatMap fun d => [.pointer (some ⟨d.1, 0, none⟩), .pointer (some ⟨d.2, 0, none⟩)]

structure Inv (own : Nat → Lab) (w : World) (p : Nat) (ds : List (Nat × Nat)) (vL vP vK : Value) (bk : BO) (nt : Nat) : Prop where
  book : Bk own w p vL vP vK bk
  rowL : w.ownsRow 0 81 2 vL ds.length (cellsD ds)
  ownL : ∀ b, vL.ownBlock = some b → own b = ⟨0, 1, 0, eb⟩
  duos : ∀ i (hi : i < ds.length), Duo own i w (ds[i]).1 (ds[i]).2 nt
  nds : ds.length ≤ nt
  nbk : bk.l.length ≤ 4 * nt ∧ bk.b.length ≤ 8000 * nt ∧ bk.f.length ≤ 4 * nt
  tab : Tab w
  tabO : own 0 = lab9 ∧ own 1 = lab9
  more : Bq own w bk

section
variable {own own' own3 : Nat → Lab} {i : Nat} {w w' w3 w4 : World} {p nt : Nat} {ds : List (Nat × Nat)} {vL vP vK : Value} {bk : BO}

theorem Bk.frame (h : Bk own w p vL vP vK bk) (hb : ∀ b, b < w.heap.size → (own b).c ≤ 1 → w'.heap[b]? = w.heap[b]?) (ho : ∀ b, b < w.heap.size → (own b).c ≤ 1 → own' b = own b) : Bk own' w' p vL vP vK bk := by
  have lp := block_lt h.world
  refine ⟨(ho p lp (by rw [h.ownP]; simp)).trans h.ownP, (hb p lp (by rw [h.ownP]; simp)).trans h.world, ?_, ?_, ?_, ?_, h.four, ?_, ?_, h.num⟩
  · exact ownsRow_block h.rowP (fun b e => hb b (h.rowP.lt b e).2 (by rw [h.ownQ b e]; simp))
  · exact fun b e => (ho b (h.rowP.lt b e).2 (by rw [h.ownQ b e]; simp)).trans (h.ownQ b e)
  · exact ownsRow_block h.rowK (fun b e => hb b (h.rowK.lt b e).2 (by rw [h.ownK b e]; simp))
  · exact fun b e => (ho b (h.rowK.lt b e).2 (by rw [h.ownK b e]; simp)).trans (h.ownK b e)
  · exact fun q hq => ownsRow_block (h.lists q hq) (fun b e => hb b ((h.lists q hq).lt b e).2 (by rw [h.ownR q hq b e]; simp))
  · exact fun q hq b e => by rw [ho b ((h.lists q hq).lt b e).2 (by rw [h.ownR q hq b e]; simp)]; exact h.ownR q hq b e

theorem Inv.touch (h : Inv own w p ds vL vP vK bk nt) (hi : i < ds.length) (k : Kp (Cap own i) w w3) (a : ∀ b, b < w.heap.size → own3 b = own b) (d : Duo own3 i w3 (ds[i]).1 (ds[i]).2 (nt + 1)) : Inv own3 w3 p ds vL vP vK bk (nt + 1) := by
  have hn := h.nds
  have hm := h.nbk
  have nc : ∀ b, (own b).c ≤ 1 → ¬ Cap own i b := fun b hc e => by
    rcases e with e | e <;> omega
  refine ⟨h.book.frame (fun b hb hc => k.block b hb (nc b hc)) (fun b hb _ => a b hb), ?_, ?_, ?_, by omega, by omega, h.tab.kp k (nc 0 (by rw [h.tabO.1]; simp [lab9])) (nc 1 (by rw [h.tabO.2]; simp [lab9])), ⟨(a 0 h.tab.lt.1).trans h.tabO.1, (a 1 h.tab.lt.2).trans h.tabO.2⟩, h.more.frame (fun b hb hc => k.block b hb (nc b (by rcases hc with hc | hc <;> omega))) (fun b hb _ => a b hb)⟩
  · exact ownsRow_block h.rowL (fun b e => k.block b (h.rowL.lt b e).2 (nc b (by rw [h.ownL b e]; simp)))
  · exact fun b e => (a b (h.rowL.lt b e).2).trans (h.ownL b e)
  · intro j hj
    by_cases hji : j = i
    · subst hji; exact d
    · exact ((h.duos j hj).frame (fun b hb hc => k.block b hb (fun e => by
        rcases hc with (hc | hc) | hc
        · rcases e with e | e <;> omega
        · rcases e with e | e <;> omega
        · exact nc b (by rw [hc]; simp [lab9]) e)) (fun b hb _ => a b hb)).mono (by omega)

theorem Inv.same (h : Inv own w p ds vL vP vK bk nt) (k : Kp (fun _ => False) w w3) (a : ∀ b, b < w.heap.size → own3 b = own b) : Inv own3 w3 p ds vL vP vK bk nt := by
  refine ⟨h.book.frame (fun b hb hc => k.block b hb (fun e => e)) (fun b hb _ => a b hb), ?_, ?_, ?_, h.nds, h.nbk, h.tab.kept k, ⟨(a 0 h.tab.lt.1).trans h.tabO.1, (a 1 h.tab.lt.2).trans h.tabO.2⟩, h.more.frame (fun b hb _ => k.block b hb (fun e => e)) (fun b hb _ => a b hb)⟩
  · exact ownsRow_block h.rowL (fun b e => k.block b (h.rowL.lt b e).2 (fun e => e))
  · exact fun b e => (a b (h.rowL.lt b e).2).trans (h.ownL b e)
  · intro j hj
    exact (h.duos j hj).frame (fun b hb hc => k.block b hb (fun e => e)) (fun b hb _ => a b hb)

theorem Inv.mono {nt' : Nat} (h : Inv own w p ds vL vP vK bk nt) (hn : nt ≤ nt') : Inv own w p ds vL vP vK bk nt' :=
  ⟨h.book, h.rowL, h.ownL, fun i hi => (h.duos i hi).mono hn, Nat.le_trans h.nds hn, by have := h.nbk; omega, h.tab, h.tabO, h.more⟩

theorem Inv.tabN (h : Inv own w p ds vL vP vK bk nt) (i : Nat) : TabN own (2 * i + 2) := by
  unfold TabN
  rw [h.tabO.1, h.tabO.2]
  exact ⟨by simp [lab9], by simp [lab9]⟩

theorem cap_not9 {b : Nat} (h : Cap own i b) : own b ≠ lab9 := fun e => by
  unfold Cap at h
  rw [e] at h
  rcases h with h | h <;> simp [lab9] at h

variable {R : Ending → World → Prop}

/-- The comparison of what a Scan gave, and its place in the book. -/
theorem i_pairs (h : Inv own w p ds vL vP vK bk nt) (hnt : nt < 1000000) (k3 : Kp (fun _ => False) w w3) (v v' : Value) (n : Nat) (xs : List (ByteArray × ByteArray)) (er : Int) (hn : n < 1000000)
    (hv : w3.ownsRow w.heap.size 105 2 v n (cells2 xs)) (hv' : w3.ownsRow 0 105 2 v' n (cells2 xs))
    (hK : ∀ w' own' vP' vK' bk', Kp (fun b => own b ≠ lab9) w w' → (∀ b, b < w.heap.size → own' b = own b) → Inv own' w' p ds vL vP' vK' bk' (nt + 1) → R (.returned (.bool true)) w') :
    Calls Tryz.prog 100 #[.pointer (some ⟨p, 0, none⟩), v, .int .i64 er, v', .int .i64 er] w3 (fun r w4 => r = .returned (.bool true) ∧ R (.returned (.bool true)) w4) := by
  have hv0 : w3.ownsRow 0 105 2 v n (cells2 xs) := ⟨hv.1, hv.2.imp id (fun ⟨g, cap, cur, e1, _, e3⟩ => ⟨g, cap, cur, e1, Nat.zero_le _, e3⟩)⟩
  have hvb : ∀ b, v.ownBlock = some b → w.heap.size ≤ b := fun b e => (hv.lt b e).1
  have lp := block_lt h.book.world
  refine world_pairs p v v' n xs er hn hv0 hv' (fun w4 k34 => ?_) (Nat.lt_of_lt_of_le lp k3.size)
  have k4 := k3.trans k34 (fun _ _ h => h)
  have hs4 := k4.size
  have agree : ∀ b, b < w.heap.size → (fun b => if b < w.heap.size then own b else (⟨1, 0, 0, eb⟩ : Lab)) b = own b := fun b hb => by simp [hb]
  have I := h.same (own3 := fun b => if b < w.heap.size then own b else ⟨1, 0, 0, eb⟩) k4 agree
  have newlab : ∀ b, w.heap.size ≤ b → (fun b => if b < w.heap.size then own b else (⟨1, 0, 0, eb⟩ : Lab)) b = ⟨1, 0, 0, eb⟩ := fun b hb => by
    have : ¬ b < w.heap.size := by omega
    simp [this]
  generalize (fun b => if b < w.heap.size then own b else (⟨1, 0, 0, eb⟩ : Lab)) = own1 at agree I newlab
  have vlab : ∀ b, v.ownBlock = some b → own1 b = ⟨1, 0, 0, eb⟩ := fun b e => newlab b (hvb b e)
  obtain ⟨q, hq⟩ := I.book.four
  have hbk := I.nbk
  have rP := I.book.rowP
  have rK := I.book.rowK
  rw [hq] at rP rK
  have hv4 : w4.ownsRow 0 105 2 v n (cells2 xs) := ownsRow_kp hv0 k34 (fun _ _ h => h)
  have ne : ∀ {a b : Nat}, own1 a ≠ own1 b → a ≠ b := fun h e => h (by rw [e])
  refine book_pairs p (worldC vL vP vK bk) vP vK v q n (bk.l.map (·.1)) (bk.l.map fun q => .int .i64 q.2.2) xs (by omega) hn I.book.world rfl rfl rP rK hv4 ?_ ?_ ?_ ?_ ?_ ?_ ?_
  · intro e
    have := vlab p e
    rw [I.book.ownP] at this; simp at this
  · intro e
    have := I.book.ownQ p e
    rw [I.book.ownP] at this; simp at this
  · intro e
    have := I.book.ownK p e
    rw [I.book.ownP] at this; simp at this
  · intro b e1 e2
    have := I.book.ownQ b e1
    rw [vlab b e2] at this; simp at this
  · intro b e1 e2
    have := I.book.ownK b e1
    rw [vlab b e2] at this; simp at this
  · intro b e1 e2
    have := I.book.ownK b e1
    rw [I.book.ownQ b e2] at this; simp at this
  · intro w5 vP' vK' v1 v2 v3 s5 s6 t9 hp5 g10 g11 f0 f1 f2 f3 hs5 hs56 L1 L2 L3 lP lK
    refine ⟨rfl, rfl, hK w5 (fun b => if b < w4.heap.size then own1 b else if b < s5 then ⟨1, 0, 0, eb⟩ else if b < s6 then ⟨0, 2, 0, eb⟩ else ⟨0, 3, 0, eb⟩) vP' vK' { bk with l := bk.l ++ [(v, n, (q : Int) + 1), (v1, n + 1, (q : Int) + 1), (v2, n + 2, (q : Int) + 1), (v3, n + 3, (q : Int) + 1)] } ?_ ?_ ?_⟩
    · refine (k4.mono (S' := fun b => own b ≠ lab9) (fun _ _ h => h.elim)).trans t9 (fun b hb e => ?_)
      rw [← agree b hb]
      rcases e with e | e | e | e
      · rw [e, I.book.ownP]; simp [lab9]
      · rw [I.book.ownQ b e]; simp [lab9]
      · rw [I.book.ownK b e]; simp [lab9]
      · have := hvb b e; omega
    · intro b hb
      have : b < w4.heap.size := by omega
      simp [this, agree b hb]
    · have o4 : ∀ b, b < w4.heap.size → (fun b => if b < w4.heap.size then own1 b else if b < s5 then (⟨1, 0, 0, eb⟩ : Lab) else if b < s6 then ⟨0, 2, 0, eb⟩ else ⟨0, 3, 0, eb⟩) b = own1 b := fun b hb => by simp [hb]
      have o1 : ∀ b, w4.heap.size ≤ b → b < s5 → (fun b => if b < w4.heap.size then own1 b else if b < s5 then (⟨1, 0, 0, eb⟩ : Lab) else if b < s6 then ⟨0, 2, 0, eb⟩ else ⟨0, 3, 0, eb⟩) b = ⟨1, 0, 0, eb⟩ := fun b hb h5 => by
        have : ¬ b < w4.heap.size := by omega
        simp [this, h5]
      have o2 : ∀ b, s5 ≤ b → b < s6 → (fun b => if b < w4.heap.size then own1 b else if b < s5 then (⟨1, 0, 0, eb⟩ : Lab) else if b < s6 then ⟨0, 2, 0, eb⟩ else ⟨0, 3, 0, eb⟩) b = ⟨0, 2, 0, eb⟩ := fun b hb h5 => by
        have h1 : ¬ b < w4.heap.size := by omega
        have h2 : ¬ b < s5 := by omega
        simp [h1, h2, h5]
      have o3 : ∀ b, s6 ≤ b → (fun b => if b < w4.heap.size then own1 b else if b < s5 then (⟨1, 0, 0, eb⟩ : Lab) else if b < s6 then ⟨0, 2, 0, eb⟩ else ⟨0, 3, 0, eb⟩) b = ⟨0, 3, 0, eb⟩ := fun b hb => by
        have h1 : ¬ b < w4.heap.size := by omega
        have h2 : ¬ b < s5 := by omega
        have h3 : ¬ b < s6 := by omega
        simp [h1, h2, h3]
      generalize (fun b => if b < w4.heap.size then own1 b else if b < s5 then (⟨1, 0, 0, eb⟩ : Lab) else if b < s6 then ⟨0, 2, 0, eb⟩ else ⟨0, 3, 0, eb⟩) = own5 at o4 o1 o2 o3
      -- what stays
      have T : ∀ b, b < w4.heap.size → own1 b ≠ ⟨0, 0, 0, eb⟩ → own1 b ≠ ⟨0, 2, 0, eb⟩ → own1 b ≠ ⟨0, 3, 0, eb⟩ → v.ownBlock ≠ some b → w5.heap[b]? = w4.heap[b]? := fun b hb h0 h2 h3 hv => t9.block b hb (fun e => by
        rcases e with e | e | e | e
        · exact h0 (by rw [e]; exact I.book.ownP)
        · exact h2 (I.book.ownQ b e)
        · exact h3 (I.book.ownK b e)
        · exact hv e)
      have hlies : ∀ u, Lies w4 v u s5 → ∀ b, u.ownBlock = some b → (own5 b).c = 1 := fun u hu b e => by
        rcases hu b e with h1 | h1
        · rw [o4 b (hv4.lt b h1).2, vlab b h1]
        · rw [o1 b h1.1 h1.2]
      have lp4 : p < w4.heap.size := block_lt I.book.world
      have MB : Bq own5 w5 { bk with l := bk.l ++ [(v, n, (q : Int) + 1), (v1, n + 1, (q : Int) + 1), (v2, n + 2, (q : Int) + 1), (v3, n + 3, (q : Int) + 1)] } := by
        have m0 : Bq own5 w5 bk := h.more.frame (fun b hb hl => by
          have h1 := agree b hb
          have h2 : ∀ l : Lab, ¬ BqL l → own1 b ≠ l := fun l hn e => hn (by rw [← e, h1]; exact hl)
          rw [T b (by omega) (h2 _ (by unfold BqL; simp)) (h2 _ (by unfold BqL; simp)) (h2 _ (by unfold BqL; simp)) (fun e => by have := hvb b e; omega)]
          exact k4.block b hb (fun e => e)) (fun b hb _ => (o4 b (by omega)).trans (agree b hb))
        exact ⟨m0.rowB, m0.ownB, m0.rowI, m0.ownI, m0.fourB, m0.listsB, m0.ownRB, m0.numB, m0.rowF, m0.ownF, m0.rowJ, m0.ownJ, m0.fourF, m0.listsF, m0.ownRF, m0.markF, m0.numF⟩
      refine ⟨⟨(o4 p lp4).trans I.book.ownP, hp5, ?_, ?_, ?_, ?_, ⟨q + 1, by simp [hq]; omega⟩, ?_, ?_, ?_⟩, ?_, ?_, ?_, by have := h.nds; omega, by dsimp only; rw [List.length_append, hq]; simp; omega, I.tab.block (T 0 I.tab.lt.1 (by rw [I.tabO.1]; simp [lab9]) (by rw [I.tabO.1]; simp [lab9]) (by rw [I.tabO.1]; simp [lab9]) (fun e => by have := vlab 0 e; rw [I.tabO.1] at this; simp [lab9] at this)) (T 1 I.tab.lt.2 (by rw [I.tabO.2]; simp [lab9]) (by rw [I.tabO.2]; simp [lab9]) (by rw [I.tabO.2]; simp [lab9]) (fun e => by have := vlab 1 e; rw [I.tabO.2] at this; simp [lab9] at this)), ⟨(o4 0 I.tab.lt.1).trans I.tabO.1, (o4 1 I.tab.lt.2).trans I.tabO.2⟩, MB⟩
      · dsimp only; rw [List.length_append, hq, List.map_append]; exact g10
      · intro b e
        rcases lP b e with h1 | h1
        · rw [o4 b (rP.lt b h1).2]; exact I.book.ownQ b h1
        · exact o2 b h1.1 h1.2
      · dsimp only; rw [List.length_append, hq, List.map_append]; exact g11
      · intro b e
        rcases lK b e with h1 | h1
        · rw [o4 b (rK.lt b h1).2]; exact I.book.ownK b h1
        · exact o3 b h1
      · intro u hu
        rcases List.mem_append.1 hu with h1 | h1
        · refine ownsRow_block (I.book.lists u h1) (fun b e => ?_)
          have hc := I.book.ownR u h1 b e
          refine T b ((I.book.lists u h1).lt b e).2 (fun e2 => by rw [e2] at hc; simp at hc) (fun e2 => by rw [e2] at hc; simp at hc) (fun e2 => by rw [e2] at hc; simp at hc) (fun e2 => ?_)
          have h3 := ((h.book.lists u h1).lt b e).2
          have h4 := hvb b e2
          omega
        · simp only [List.mem_cons, List.not_mem_nil, or_false] at h1
          rcases h1 with rfl | rfl | rfl | rfl
          · exact f0
          · exact f1
          · exact f2
          · exact f3
      · intro u hu b e
        rcases List.mem_append.1 hu with h1 | h1
        · rw [o4 b ((I.book.lists u h1).lt b e).2]; exact I.book.ownR u h1 b e
        · simp only [List.mem_cons, List.not_mem_nil, or_false] at h1
          rcases h1 with rfl | rfl | rfl | rfl
          · rw [o4 b (hv4.lt b e).2, vlab b e]
          · exact hlies v1 L1 b e
          · exact hlies v2 L2 b e
          · exact hlies v3 L3 b e
      · intro u hu
        rcases List.mem_append.1 hu with h1 | h1
        · exact I.book.num u h1
        · simp only [List.mem_cons, List.not_mem_nil, or_false] at h1
          rcases h1 with rfl | rfl | rfl | rfl <;> (refine ⟨?_, ?_, ?_⟩ <;> dsimp only <;> omega)
      · refine ownsRow_block I.rowL (fun b e => ?_)
        have hl := I.ownL b e
        refine T b (I.rowL.lt b e).2 (by rw [hl]; simp) (by rw [hl]; simp) (by rw [hl]; simp) (fun e2 => ?_)
        rw [vlab b e2] at hl; simp at hl
      · intro b e
        rw [o4 b (I.rowL.lt b e).2]; exact I.ownL b e
      · intro j hj
        refine ((I.duos j hj).frame (fun b hb hc => ?_) (fun b hb _ => o4 b hb)).mono (by omega)
        have nz : ∀ l : Lab, l.c ≤ 1 → l ≠ lab9 → own1 b ≠ l := fun l hl h9 e => by
          rcases hc with hc | hc
          · unfold Cap at hc
            rw [e] at hc
            rcases hc with hc | hc <;> omega
          · exact h9 (e.symm.trans hc)
        exact T b hb (nz _ (by simp) (by simp [lab9])) (nz _ (by simp) (by simp [lab9])) (nz _ (by simp) (by simp [lab9])) (fun e => nz _ (by simp) (by simp [lab9]) (vlab b e))

end

end Go.Proofs.YthbdpfccfcceiaaGreatDoor

namespace Go.Proofs.YthbdpfccfcceiaaGreatDoor
open Go.RowKit

section
variable {own : Nat → Lab} {i : Nat} {w : World} {p nt : Nat} {ds : List (Nat × Nat)} {vL vP vK : Value} {bk : BO}
variable {R : Ending → World → Prop}

theorem i_scan (h : Inv own w p ds vL vP vK bk nt) (hi : i < ds.length) (hnt : nt < 1000000) (e a b : Int) (ha : -9223372036854775808 ≤ a ∧ a ≤ 9223372036854775807) (st tt : ByteArray) (vl vm : Value)
    (hK : ∀ w' own' vP' vK' bk', Kp (fun b => own b ≠ lab9) w w' → (∀ b, b < w.heap.size → own' b = own b) → Inv own' w' p ds vL vP' vK' bk' (nt + 1) → R (.returned (.bool true)) w') :
    Calls Tryz.prog 61 #[.pointer (some ⟨p, 0, none⟩), pairV (ds[i]).1 (ds[i]).2, stepV 4 e a b st tt vl vm] w R := by
  obtain ⟨s, y, hx, hy, ht, hI, hn⟩ := h.duos i hi
  refine txs_scan w p _ _ e a b st tt vl vm ?_
  have hw := boxW_kp w (ds[i]).1 (ds[i]).2 4 e a b st tt vl vm
  generalize boxW w (ds[i]).1 (ds[i]).2 4 e a b st tt vl vm = w1 at hw ⊢
  have HB := hI.yb (by omega)
  obtain ⟨mo, ph, mv, mm, pt, mw, sl, X⟩ := hx.box hw
  obtain ⟨vL', vT, vG, sv, lg, Y, hl, _⟩ := hy.box hw
  have hnm := ht.nm
  have hnow := hI.now
  refine x_scan X a (wf_i64 ha) st tt (by omega) (ht.nw hI) (ht.momOk hI) (ht.keysM hI) (ht.keysW hI) (fun e0 => ⟨_, _, rfl, Kp.refl _ _, ?_⟩) (fun x e1 w2 v ks k2 hsort hmem hlen hrow => ⟨_, _, rfl, kpF k2, ?_⟩)
  · have th := ht.none_iff.1 e0
    refine y_scan_none Y HB a st tt th ⟨_, rfl, ?_⟩
    exact i_pairs h hnt hw (.slice none 0 0) (.slice none 0 0) 0 [] 2 (by omega) (World.ownsRow_nil _ _ _ _) (World.ownsRow_nil _ _ _ _) hK
  · obtain ⟨th, j, rfl, hj, ho, rfl⟩ := ht.some_at e1
    refine y_scan (Y.kept k2) HB j hj th st tt (seesX s (xtOf y.txs[j])) (ht.seen hI _) (fun w3 v' ks' k3 hsort' hmem' hlen' hrow' => ⟨v', rfl, ?_⟩)
    have hks : ks' = ks := sorted_ext hsort' hsort (fun k => by
      rw [hmem, hmem', ht.mom, moms_ne]
      show _ ↔ (_ ∨ (wrOf (y.txs[j]).l k).isSome = true) ∧ _
      rw [wrOf_mem]
      constructor
      · rintro ⟨⟨v, hv, e⟩, hr⟩
        rcases List.mem_append.1 hv with h1 | h1
        · exact ⟨Or.inl ⟨v, h1, e⟩, hr⟩
        · exact ⟨Or.inr ⟨v, h1, e⟩, hr⟩
      · rintro ⟨⟨v, hv, e⟩ | ⟨v, hv, e⟩, hr⟩
        · exact ⟨⟨v, List.mem_append.2 (Or.inl hv), e⟩, hr⟩
        · exact ⟨⟨v, List.mem_append.2 (Or.inr hv), e⟩, hr⟩)
    subst hks
    have hlf := List.length_filterMap_le (pairOf (seesX s (xtOf y.txs[j]))) ks'
    have hrow3 := ownsRow_kp hrow k3 (fun _ _ h => h)
    refine i_pairs h hnt ((hw.trans k2 (fun _ _ h => h)).trans k3 (fun _ _ h => h)) v v' _ _ 0 (by omega) ⟨hrow3.1, hrow3.2.imp id (fun ⟨g, cap, cur, e1, e2, e3⟩ => ⟨g, cap, cur, e1, Nat.le_trans hw.size e2, e3⟩)⟩ ⟨hrow'.1, hrow'.2.imp id (fun ⟨g, cap, cur, e1, _, e3⟩ => ⟨g, cap, cur, e1, Nat.zero_le _, e3⟩)⟩ hK

theorem i_txs (h : Inv own w p ds vL vP vK bk nt) (hi : i < ds.length) (hnt : nt < 1000000) (kind e a b : Int) (hk : 2 ≤ kind ∧ kind ≤ 9) (ha : -9223372036854775808 ≤ a ∧ a ≤ 9223372036854775807) (st tt : ByteArray) (hst : st.size ≤ maxLen) (htt : tt.size ≤ maxLen) (vl vm : Value)
    (hK : ∀ w' own' vP' vK' bk', Kp (fun b => own b ≠ lab9) w w' → (∀ b, b < w.heap.size → own' b = own b) → Inv own' w' p ds vL vP' vK' bk' (nt + 1) → R (.returned (.bool true)) w') :
    Calls Tryz.prog 61 #[.pointer (some ⟨p, 0, none⟩), pairV (ds[i]).1 (ds[i]).2, stepV kind e a b st tt vl vm] w R := by
  have hD := h.duos i hi
  have hn' : nt < 100000000 := by omega
  have K : ∀ w3 own3, Kp (Cap own i) w w3 → (∀ b, b < w.heap.size → own3 b = own b) → Duo own3 i w3 (ds[i]).1 (ds[i]).2 (nt + 1) → R (.returned (.bool true)) w3 := fun w3 own3 k a d => hK w3 own3 vP vK bk (k.mono (fun _ _ h => cap_not9 h)) a (h.touch hi k a d)
  rcases (by omega : kind = 2 ∨ kind = 3 ∨ kind = 4 ∨ kind = 5 ∨ kind = 6 ∨ kind = 7 ∨ kind = 8 ∨ kind = 9) with rfl | rfl | rfl | rfl | rfl | rfl | rfl | rfl
  · exact d_begin hD hn' e a b st tt vl vm K
  · exact d_get hD hn' e a b ha st tt hst htt vl vm K
  · exact i_scan h hi hnt e a b ha st tt vl vm hK
  · exact d_put hD hn' e a b ha st tt hst htt vl vm K
  · exact d_delete hD hn' e a b ha st tt hst htt vl vm K
  · exact d_commit hD h.tab (h.tabN i) hn' e a b ha st tt hst htt vl vm K
  · exact d_abort hD hn' e a b ha st tt hst htt vl vm K
  · exact d_now hD hn' e a b ha st tt hst htt vl vm K

end

end Go.Proofs.YthbdpfccfcceiaaGreatDoor
