/-
  A store in memory, the blocks that bear it left unsaid; and which blocks are not its own.
-/
import Derived.Test.YthbdpfccfcceiaaDoorJ1
namespace Go.Proofs.YthbdpfccfcceiaaDoor
open Go.RowKit

def XE (own : Nat → Lab) (c : Nat) (w : World) (p : Nat) (s : XS) : Prop := ∃ mo ph mv mm pt mw sl, XR own c w p s mo ph mv mm pt mw sl

section
variable {own own' : Nat → Lab} {c : Nat} {w w' : World} {p : Nat} {s s' : XS} {N M : Nat → Prop}

theorem XE.frame (h : XE own c w p s) (hb : ∀ b, b < w.heap.size → (own b).c = c → w'.heap[b]? = w.heap[b]?) (ho : ∀ b, b < w.heap.size → (own b).c = c → own' b = own b) : XE own' c w' p s := by
  obtain ⟨mo, ph, mv, mm, pt, mw, sl, h⟩ := h
  exact ⟨mo, ph, mv, mm, pt, mw, sl, h.frame hb ho⟩

/-- A store, and blocks that are not its own. -/
structure Ns (N : Nat → Prop) (own : Nat → Lab) (w : World) : Prop where
  out : ∀ b, N b → b < w.heap.size ∧ (own b).c ≠ 2
  tab : Tab w
  tabN : TabN own 2
def St (N : Nat → Prop) (w : World) (p : Nat) (s : XS) : Prop := ∃ own, XE own 2 w p s ∧ Ns N own w

theorem St.read (h : St N w p s) (k : Kp (fun _ => False) w w') (hM : ∀ b, M b → N b ∨ (w.heap.size ≤ b ∧ b < w'.heap.size)) : St M w' p s := by
  obtain ⟨own, hx, hN⟩ := h
  refine ⟨fun b => if b < w.heap.size then own b else ⟨0, 9, 0, eb⟩, hx.frame (fun b hb _ => k.block b hb (fun e => e)) (fun b hb _ => by simp [hb]), fun b hb => ?_, hN.tab.kept k, by unfold TabN; simp only [hN.tab.lt.1, hN.tab.lt.2, if_true]; exact hN.tabN⟩
  rcases hM b hb with h1 | ⟨h1, h2⟩
  · have h2 := hN.out b h1
    have := k.size
    refine ⟨by omega, ?_⟩
    simp only [h2.1, if_true]
    exact h2.2
  · refine ⟨h2, ?_⟩
    have : ¬ b < w.heap.size := by omega
    simp [this]

theorem St.kept (h : St N w p s) (k : Kp (fun _ => False) w w') : St N w' p s := h.read k (fun _ h => Or.inl h)

theorem St.up (_hx : XE own 2 w p s) (hN : Ns N own w) (k : Kp (fun b => (own b).c = 2) w w') (ho : ∀ b, b < w.heap.size → own' b = own b) (hx' : XE own' 2 w' p s') : St N w' p s' ∧ Kp (fun b => ¬ N b) w w' := by
  refine ⟨⟨own', hx', fun b hb => ?_, hN.tab.kp k hN.tabN.1 hN.tabN.2, by unfold TabN; rw [ho 0 hN.tab.lt.1, ho 1 hN.tab.lt.2]; exact hN.tabN⟩, k.mono (fun b _ e hn => (hN.out b hn).2 e)⟩
  have h1 := hN.out b hb
  have := k.size
  refine ⟨by omega, ?_⟩
  rw [ho b h1.1]; exact h1.2

end

end Go.Proofs.YthbdpfccfcceiaaDoor
