/-
  What stays of the memory behind a call: all old blocks but those of a set.
  The document's answer: rows of versions, and the search for a key among them.
-/
import Derived.Test.YtnidlcpjjgmclaaGreatM1
import Derived.Deep.Draws
import Derived.Test.YtnidlcpjjgmclaaGreatW1
import Derived.Deep.RegionWith
import Derived.Deep.QuietTactic
import Derived.BigQuiet
namespace Go.Proofs.YtnidlcpjjgmclaaGreat
open Go.RowKit

theorem hid_of {p : Prop} (h : p) : Hid p := h

structure Kp (S : Nat → Prop) (w w' : World) : Prop where
  os : w'.os = w.os
  tape : w'.tape = w.tape
  output : w'.output = w.output
  size : w.heap.size ≤ w'.heap.size
  block : ∀ k, k < w.heap.size → ¬ S k → w'.heap[k]? = w.heap[k]?

section
variable {S S' : Nat → Prop} {w w1 w2 : World}

theorem Kp.refl (S : Nat → Prop) (w : World) : Kp S w w := ⟨rfl, rfl, rfl, Nat.le_refl _, fun _ _ _ => rfl⟩

theorem Kp.trans (h : Kp S w w1) (h' : Kp S' w1 w2) (hs : ∀ k, k < w.heap.size → S' k → S k) : Kp S w w2 :=
  ⟨h'.os.trans h.os, h'.tape.trans h.tape, h'.output.trans h.output, Nat.le_trans h.size h'.size, fun k hk hn =>
    (h'.block k (Nat.lt_of_lt_of_le hk h.size) (fun e => hn (hs k hk e))).trans (h.block k hk hn)⟩

theorem Kp.mono (h : Kp S w w1) (hs : ∀ k, k < w.heap.size → S k → S' k) : Kp S' w w1 :=
  ⟨h.os, h.tape, h.output, h.size, fun k hk hn => h.block k hk (fun e => hn (hs k hk e))⟩

theorem Kp.of_below (h : Below w.heap.size w w1) (S : Nat → Prop) : Kp S w w1 := ⟨h.os, h.tape, h.output, h.size, fun k hk _ => h.block k hk⟩

theorem Kp.of_grown {row : Option Nat} (h : w.grownBy w1 row) (hs : ∀ k, row = some k → S k) : Kp S w w1 :=
  ⟨h.os, h.tape, h.output, h.size, fun k hk hn => h.block k hk (fun e => hn (hs k e.symm))⟩

theorem Kp.of_turned {b : Nat} (h : w.mapTurned w1 b) (hs : S b) : Kp S w w1 := by
  refine ⟨?_, ?_, ?_, Nat.le_of_eq (mapTurned_size h).symm, fun k _ hn => mapTurned_block h k (fun e => hn (e ▸ hs))⟩ <;>
    (obtain ⟨es, clock, es', clock', hb, rfl⟩ := h; rfl)

theorem Kp.alloc (S : Nat → Prop) (w : World) (o : Obj) : Kp S w (w.alloc o) := ⟨rfl, rfl, rfl, by simp, fun k hk _ => Below.heap_alloc w o k hk⟩
theorem Kp.drew (S : Nat → Prop) (w : World) : Kp S w w.drew := ⟨rfl, rfl, rfl, Nat.le_refl _, fun _ _ _ => rfl⟩
theorem Kp.drewN (S : Nat → Prop) (w : World) (n : Nat) : Kp S w (w.drewN n) := by
  refine ⟨rfl, rfl, rfl, Nat.le_refl _, fun _ _ _ => rfl⟩
theorem Kp.setCell (w : World) (a : Addr) (v : Value) (hs : S a.block) : Kp S w (w.setCell a v) :=
  ⟨rfl, rfl, rfl, by simp [World.setCell], fun k _ hn => Below.heap_setCell w a v k (fun e => hn (e ▸ hs))⟩

theorem Kp.cell (h : Kp S w w1) {a : Addr} (hlt : a.block < w.heap.size) (hn : ¬ S a.block) : w1.cell? a = w.cell? a := World.cell?_of_block (w := w) (h.block a.block hlt hn)
theorem Kp.frozen (h : Kp S w w1) {a : Addr} (hlt : a.block < w.heap.size) (hn : ¬ S a.block) : w1.frozen? a = w.frozen? a := World.frozen?_of_block (w := w) (h.block a.block hlt hn)
theorem Kp.fmap {P : Program} {k b n : Nat} {f : Value → Option Value} (h : Kp S w w1) (hm : fmap w P k b n f) (hn : ¬ S b) : fmap w1 P k b n f := hm.of_block (h.block b hm.lt hn)

end

end Go.Proofs.YtnidlcpjjgmclaaGreat

namespace Go.Proofs.YtnidlcpjjgmclaaGreat
open Go.RowKit

structure YV where
  key : ByteArray
  t : Int
  gone : Bool
  s : ByteArray

def cellsV (l : List YV) : List Value := l.flatMap fun y => [.string y.key, .int .i64 y.t, .bool y.gone, .string y.s]

theorem cellsV_len (l : List YV) : (cellsV l).length = l.length * 4 := by
  induction l with
  | nil => rfl
  | cons a r ih => simp [cellsV] at ih ⊢; omega

theorem cellsV_at : ∀ (l : List YV) (j : Nat) (hj : j < l.length), (cellsV l)[j * 4]? = some (.string l[j].key) ∧ (cellsV l)[j * 4 + 1]? = some (.int .i64 l[j].t) ∧ (cellsV l)[j * 4 + 2]? = some (.bool l[j].gone) ∧ (cellsV l)[j * 4 + 3]? = some (.string l[j].s)
  | a :: r, 0, _ => by simp [cellsV]
  | a :: r, j + 1, hj => by
    have ih := cellsV_at r j (by simpa using hj)
    have e : cellsV (a :: r) = [.string a.key, .int .i64 a.t, .bool a.gone, .string a.s] ++ cellsV r := by simp [cellsV]
    have f : ∀ o, (cellsV (a :: r))[(j + 1) * 4 + o]? = (cellsV r)[j * 4 + o]? := fun o => by
      rw [e, List.getElem?_append_right (by simp; omega)]
      congr 1
      simp; omega
    have f0 := f 0
    simp only [Nat.add_zero] at f0
    rw [f0, f 1, f 2, f 3]
    simpa using ih

/-- A slice of versions, as the walks want it. -/
structure VS (w : World) (v : Value) (l : List YV) (g cap : Nat) : Prop where
  val : v = .slice (some ⟨g, 0, none⟩) l.length cap
  c0 : ∀ j (hj : j < l.length), w.cell? ⟨g, j * 4, none⟩ = some (.string l[j].key)
  c1 : ∀ j (hj : j < l.length), w.cell? ⟨g, j * 4 + 1, none⟩ = some (.int .i64 l[j].t)
  c2 : ∀ j (hj : j < l.length), w.cell? ⟨g, j * 4 + 2, none⟩ = some (.bool l[j].gone)
  c3 : ∀ j (hj : j < l.length), w.cell? ⟨g, j * 4 + 3, none⟩ = some (.string l[j].s)

theorem vs_of {w : World} {base e : Nat} {v : Value} {l : List YV} (h : w.ownsRow base e 4 v l.length (cellsV l)) : (v = .slice none 0 0 ∧ l = []) ∨ ∃ g cap, VS w v l g cap := by
  rcases h.2 with ⟨rfl, h0⟩ | ⟨g, cap, cur, rfl, hb, hg, hn, _, hcs, ht⟩
  · exact Or.inl ⟨rfl, List.eq_nil_of_length_eq_zero h0⟩
  · have key : ∀ i u, (cellsV l)[i]? = some u → w.cell? ⟨g, i, none⟩ = some u := fun i u hu => by
      have : w.cell? ⟨g, i, none⟩ = cur[i]? := by simp [World.cell?, hg]
      rw [this, ← Array.getElem?_toList]
      rw [← ht, List.getElem?_take] at hu
      split at hu
      · exact hu
      · cases hu
    exact Or.inr ⟨g, cap, rfl, fun j hj => key _ _ (cellsV_at l j hj).1, fun j hj => key _ _ (cellsV_at l j hj).2.1, fun j hj => key _ _ (cellsV_at l j hj).2.2.1, fun j hj => key _ _ (cellsV_at l j hj).2.2.2⟩

/-- The place of a key among versions. -/
def idxK (l : List YV) (key : ByteArray) : Option Nat := l.findIdx? (fun y => y.key.toList == key.toList)

section
variable {R : Ending → World → Prop}

set_option maxRecDepth 20000 in
set_option maxHeartbeats 400000 in
theorem wrote_none (tb to : Nat) (key : ByteArray) (a : Option Addr) (cap : Nat) (w : World) (c2 : w.cell? ⟨tb, to + 2, none⟩ = some (.slice a 0 cap)) (hR : R (.returned (.int .i64 (-1))) w) :
    Calls Tryz.prog 85 #[.pointer (some ⟨tb, to, none⟩), .string key] w R := by
  go_enter Tryz.func85, Tryz.ntmps85
  go_wp2
  go_loop [5] (fun i => i = .int .i64 0) (fun _ => 0)
  case atStart => rfl
  case round =>
    subst hrel
    go_wp2
    exact hR

set_option maxRecDepth 20000 in
set_option maxHeartbeats 400000 in
theorem wrote_some (tb to : Nat) (key : ByteArray) (l : List YV) (g cap : Nat) (w : World) (hl : l.length < 1000000) (c2 : w.cell? ⟨tb, to + 2, none⟩ = some (.slice (some ⟨g, 0, none⟩) l.length cap)) (hc : ∀ j (hj : j < l.length), w.cell? ⟨g, j * 4, none⟩ = some (.string l[j].key))
    (h0 : idxK l key = none → R (.returned (.int .i64 (-1))) w) (h1 : ∀ i : Nat, idxK l key = some i → R (.returned (.int .i64 i)) w) :
    Calls Tryz.prog 85 #[.pointer (some ⟨tb, to, none⟩), .string key] w R := by
  have H0 : Hid _ := h0
  have H1 : Hid _ := h1
  have HL : Hid _ := hl
  have HC : Hid _ := hc
  clear h0 h1 hl hc
  go_enter Tryz.func85, Tryz.ntmps85
  go_wp2
  go_loop [5] (fun i => ∃ k : Nat, k ≤ l.length ∧ i = .int .i64 k ∧ ∀ j (hj : j < l.length), j < k → (l[j].key.toList == key.toList) = false) (fun i => l.length - (intOf i).toNat)
  case atStart => exact ⟨0, Nat.zero_le _, rfl, fun j _ h => by omega⟩
  case round =>
    obtain ⟨k, hk, rfl, hno⟩ := hrel
    have HN : Hid _ := hno
    clear hno
    by_cases hlt : k < l.length
    · have hck := HC.out k hlt
      have hlt' : (k : Int) < l.length := by omega
      have hk1 : (k : Int) ≤ 1000000 := by have := HL.out; omega
      generalize hkey : l[k].key = kk at hck
      go_wp2
      · refine H1.out k ?_
        rw [idxK, List.findIdx?_eq_some_iff_getElem]
        exact ⟨hlt, by rw [hkey]; assumption, fun j hj => by simp only [HN.out j (by omega) hj]; simp⟩
      · go_round
        case rel =>
          refine ⟨k + 1, by omega, by go_num, fun j hj hjk => ?_⟩
          by_cases e : j = k
          · subst e; rw [hkey]; assumption
          · exact HN.out j hj (by omega)
        case measure => simp [intOf]; omega
    · go_wp2
      refine H0.out ?_
      rw [idxK, List.findIdx?_eq_none_iff]
      intro y hy
      obtain ⟨j, hj, rfl⟩ := List.getElem_of_mem hy
      exact HN.out j hj (by omega)

/-- Either way. -/
theorem wrote_any {base e : Nat} (tb to : Nat) (key : ByteArray) (l : List YV) (v : Value) (w : World) (hl : l.length < 1000000) (c2 : w.cell? ⟨tb, to + 2, none⟩ = some v) (hrow : w.ownsRow base e 4 v l.length (cellsV l))
    (h0 : idxK l key = none → R (.returned (.int .i64 (-1))) w) (h1 : ∀ i : Nat, idxK l key = some i → R (.returned (.int .i64 i)) w) :
    Calls Tryz.prog 85 #[.pointer (some ⟨tb, to, none⟩), .string key] w R := by
  rcases vs_of hrow with ⟨rfl, rfl⟩ | ⟨g, cap, hv⟩
  · exact wrote_none tb to key none 0 w c2 (h0 rfl)
  · have := hv.val; subst this
    exact wrote_some tb to key l g cap w hl c2 hv.c0 h0 h1

end

end Go.Proofs.YtnidlcpjjgmclaaGreat
