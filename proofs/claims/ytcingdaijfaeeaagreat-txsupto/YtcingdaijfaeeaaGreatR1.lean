/-
  The document's answer: rows of versions, and the search for a key among them.
-/
import Derived.Test.YtcingdaijfaeeaaGreatW1
import Derived.Test.YtcingdaijfaeeaaGreatK1
import Derived.Deep.RegionWith
import Derived.Deep.QuietTactic
import Derived.BigQuiet
namespace Go.Proofs.YtcingdaijfaeeaaGreat
open Go.RowKit

structure YV where
  key : ByteArray
  t : Int
  gone : Bool
  s : ByteArray

def cellsV (l : List YV) : List Value := l.flatMap fun y => [.string y.key, .int .i64 y.t, .bool y.gone, .string y.s]

theorem cellsV_len (l : List YV) : (cellsV l).length = l.length * 4 := by
  induction l with
  | nil => rfl
  | cons a r ih => simp [cellsV] at ih ⊢; omega

theorem cellsV_at : ∀ (l : List YV) (j : Nat) (hj : j < l.length), (cellsV l)[j * 4]? = some (.string l[j].key) ∧ (cellsV l)[j * 4 + 1]? = some (.int .i64 l[j].t) ∧ (cellsV l)[j * 4 + 2]? = some (.bool l[j].gone) ∧ (cellsV l)[j * 4 + 3]? = some (.string l[j].s)
  | a :: r, 0, _ => by simp [cellsV]
  | a :: r, j + 1, hj => by
    have ih := cellsV_at r j (by simpa using hj)
    have e : cellsV (a :: r) = [.string a.key, .int .i64 a.t, .bool a.gone, .string a.s] ++ cellsV r := by simp [cellsV]
    have f : ∀ o, (cellsV (a :: r))[(j + 1) * 4 + o]? = (cellsV r)[j * 4 + o]? := fun o => by
      rw [e, List.getElem?_append_right (by simp; omega)]
      congr 1
      simp; omega
    have f0 := f 0
    simp only [Nat.add_zero] at f0
    rw [f0, f 1, f 2, f 3]
    simpa using ih

/-- A slice of versions, as the walks want it. -/
structure VS (w : World) (v : Value) (l : List YV) (g cap : Nat) : Prop where
  val : v = .slice (some ⟨g, 0, none⟩) l.length cap
  c0 : ∀ j (hj : j < l.length), w.cell? ⟨g, j * 4, none⟩ = some (.string l[j].key)
  c1 : ∀ j (hj : j < l.length), w.cell? ⟨g, j * 4 + 1, none⟩ = some (.int .i64 l[j].t)
  c2 : ∀ j (hj : j < l.length), w.cell? ⟨g, j * 4 + 2, none⟩ = some (.bool l[j].gone)
  c3 : ∀ j (hj : j < l.length), w.cell? ⟨g, j * 4 + 3, none⟩ = some (.string l[j].s)

theorem vs_of {w : World} {base e : Nat} {v : Value} {l : List YV} (h : w.ownsRow base e 4 v l.length (cellsV l)) : (v = .slice none 0 0 ∧ l = []) ∨ ∃ g cap, VS w v l g cap := by
  rcases h.2 with ⟨rfl, h0⟩ | ⟨g, cap, cur, rfl, hb, hg, hn, _, hcs, ht⟩
  · exact Or.inl ⟨rfl, List.eq_nil_of_length_eq_zero h0⟩
  · have key : ∀ i u, (cellsV l)[i]? = some u → w.cell? ⟨g, i, none⟩ = some u := fun i u hu => by
      have : w.cell? ⟨g, i, none⟩ = cur[i]? := by simp [World.cell?, hg]
      rw [this, ← Array.getElem?_toList]
      rw [← ht, List.getElem?_take] at hu
      split at hu
      · exact hu
      · cases hu
    exact Or.inr ⟨g, cap, rfl, fun j hj => key _ _ (cellsV_at l j hj).1, fun j hj => key _ _ (cellsV_at l j hj).2.1, fun j hj => key _ _ (cellsV_at l j hj).2.2.1, fun j hj => key _ _ (cellsV_at l j hj).2.2.2⟩

/-- The place of a key among versions. -/
def idxK (l : List YV) (key : ByteArray) : Option Nat := l.findIdx? (fun y => y.key.toList == key.toList)

section
variable {R : Ending → World → Prop}

set_option maxRecDepth 20000 in
set_option maxHeartbeats 400000 in
theorem wrote_none (tb to : Nat) (key : ByteArray) (a : Option Addr) (cap : Nat) (w : World) (c2 : w.cell? ⟨tb, to + 2, none⟩ = some (.slice a 0 cap)) (hR : R (.returned (.int .i64 (-1))) w) :
    Calls Tryz.prog 84 #[.pointer (some ⟨tb, to, none⟩), .string key] w R := by
  go_enter Tryz.func84, Tryz.ntmps84
  go_wp2
  go_loop [5] (fun i => i = .int .i64 0) (fun _ => 0)
  case atStart => rfl
  case round =>
    subst hrel
    go_wp2
    exact hR

set_option maxRecDepth 20000 in
set_option maxHeartbeats 400000 in
theorem wrote_some (tb to : Nat) (key : ByteArray) (l : List YV) (g cap : Nat) (w : World) (hl : l.length < 1000000) (c2 : w.cell? ⟨tb, to + 2, none⟩ = some (.slice (some ⟨g, 0, none⟩) l.length cap)) (hc : ∀ j (hj : j < l.length), w.cell? ⟨g, j * 4, none⟩ = some (.string l[j].key))
    (h0 : idxK l key = none → R (.returned (.int .i64 (-1))) w) (h1 : ∀ i : Nat, idxK l key = some i → R (.returned (.int .i64 i)) w) :
    Calls Tryz.prog 84 #[.pointer (some ⟨tb, to, none⟩), .string key] w R := by
  have H0 : Hid _ := h0
  have H1 : Hid _ := h1
  have HL : Hid _ := hl
  have HC : Hid _ := hc
  clear h0 h1 hl hc
  go_enter Tryz.func84, Tryz.ntmps84
  go_wp2
  go_loop [5] (fun i => ∃ k : Nat, k ≤ l.length ∧ i = .int .i64 k ∧ ∀ j (hj : j < l.length), j < k → (l[j].key.toList == key.toList) = false) (fun i => l.length - (intOf i).toNat)
  case atStart => exact ⟨0, Nat.zero_le _, rfl, fun j _ h => by omega⟩
  case round =>
    obtain ⟨k, hk, rfl, hno⟩ := hrel
    have HN : Hid _ := hno
    clear hno
    by_cases hlt : k < l.length
    · have hck := HC.out k hlt
      have hlt' : (k : Int) < l.length := by omega
      have hk1 : (k : Int) ≤ 1000000 := by have := HL.out; omega
      generalize hkey : l[k].key = kk at hck
      go_wp2
      · refine H1.out k ?_
        rw [idxK, List.findIdx?_eq_some_iff_getElem]
        exact ⟨hlt, by rw [hkey]; assumption, fun j hj => by simp only [HN.out j (by omega) hj]; simp⟩
      · go_round
        case rel =>
          refine ⟨k + 1, by omega, by go_num, fun j hj hjk => ?_⟩
          by_cases e : j = k
          · subst e; rw [hkey]; assumption
          · exact HN.out j hj (by omega)
        case measure => simp [intOf]; omega
    · go_wp2
      refine H0.out ?_
      rw [idxK, List.findIdx?_eq_none_iff]
      intro y hy
      obtain ⟨j, hj, rfl⟩ := List.getElem_of_mem hy
      exact HN.out j hj (by omega)

/-- Either way. -/
theorem wrote_any {base e : Nat} (tb to : Nat) (key : ByteArray) (l : List YV) (v : Value) (w : World) (hl : l.length < 1000000) (c2 : w.cell? ⟨tb, to + 2, none⟩ = some v) (hrow : w.ownsRow base e 4 v l.length (cellsV l))
    (h0 : idxK l key = none → R (.returned (.int .i64 (-1))) w) (h1 : ∀ i : Nat, idxK l key = some i → R (.returned (.int .i64 i)) w) :
    Calls Tryz.prog 84 #[.pointer (some ⟨tb, to, none⟩), .string key] w R := by
  rcases vs_of hrow with ⟨rfl, rfl⟩ | ⟨g, cap, hv⟩
  · exact wrote_none tb to key none 0 w c2 (h0 rfl)
  · have := hv.val; subst this
    exact wrote_some tb to key l g cap w hl c2 hv.c0 h0 h1

end

end Go.Proofs.YtcingdaijfaeeaaGreat
