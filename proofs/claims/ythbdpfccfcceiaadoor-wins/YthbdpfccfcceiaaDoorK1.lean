/-
  What stays of the memory behind a call: all old blocks but those of a set.
-/
import Derived.Test.YthbdpfccfcceiaaDoorM1
import Derived.Deep.Draws
namespace Go.Proofs.YthbdpfccfcceiaaDoor
open Go.RowKit

theorem hid_of {p : Prop} (h : p) : Hid p := h

structure Kp (S : Nat → Prop) (w w' : World) : Prop where
  os : w'.os = w.os
  tape : w'.tape = w.tape
  output : w'.output = w.output
  size : w.heap.size ≤ w'.heap.size
  block : ∀ k, k < w.heap.size → ¬ S k → w'.heap[k]? = w.heap[k]?

section
variable {S S' : Nat → Prop} {w w1 w2 : World}

theorem Kp.refl (S : Nat → Prop) (w : World) : Kp S w w := ⟨rfl, rfl, rfl, Nat.le_refl _, fun _ _ _ => rfl⟩

theorem Kp.trans (h : Kp S w w1) (h' : Kp S' w1 w2) (hs : ∀ k, k < w.heap.size → S' k → S k) : Kp S w w2 :=
  ⟨h'.os.trans h.os, h'.tape.trans h.tape, h'.output.trans h.output, Nat.le_trans h.size h'.size, fun k hk hn =>
    (h'.block k (Nat.lt_of_lt_of_le hk h.size) (fun e => hn (hs k hk e))).trans (h.block k hk hn)⟩

theorem Kp.mono (h : Kp S w w1) (hs : ∀ k, k < w.heap.size → S k → S' k) : Kp S' w w1 :=
  ⟨h.os, h.tape, h.output, h.size, fun k hk hn => h.block k hk (fun e => hn (hs k hk e))⟩

theorem Kp.of_below (h : Below w.heap.size w w1) (S : Nat → Prop) : Kp S w w1 := ⟨h.os, h.tape, h.output, h.size, fun k hk _ => h.block k hk⟩

theorem Kp.of_grown {row : Option Nat} (h : w.grownBy w1 row) (hs : ∀ k, row = some k → S k) : Kp S w w1 :=
  ⟨h.os, h.tape, h.output, h.size, fun k hk hn => h.block k hk (fun e => hn (hs k e.symm))⟩

theorem Kp.of_turned {b : Nat} (h : w.mapTurned w1 b) (hs : S b) : Kp S w w1 := by
  refine ⟨?_, ?_, ?_, Nat.le_of_eq (mapTurned_size h).symm, fun k _ hn => mapTurned_block h k (fun e => hn (e ▸ hs))⟩ <;>
    (obtain ⟨es, clock, es', clock', hb, rfl⟩ := h; rfl)

theorem Kp.alloc (S : Nat → Prop) (w : World) (o : Obj) : Kp S w (w.alloc o) := ⟨rfl, rfl, rfl, by simp, fun k hk _ => Below.heap_alloc w o k hk⟩
theorem Kp.drew (S : Nat → Prop) (w : World) : Kp S w w.drew := ⟨rfl, rfl, rfl, Nat.le_refl _, fun _ _ _ => rfl⟩
theorem Kp.drewN (S : Nat → Prop) (w : World) (n : Nat) : Kp S w (w.drewN n) := by
  refine ⟨rfl, rfl, rfl, Nat.le_refl _, fun _ _ _ => rfl⟩
theorem Kp.setCell (w : World) (a : Addr) (v : Value) (hs : S a.block) : Kp S w (w.setCell a v) :=
  ⟨rfl, rfl, rfl, by simp [World.setCell], fun k _ hn => Below.heap_setCell w a v k (fun e => hn (e ▸ hs))⟩

theorem Kp.cell (h : Kp S w w1) {a : Addr} (hlt : a.block < w.heap.size) (hn : ¬ S a.block) : w1.cell? a = w.cell? a := World.cell?_of_block (w := w) (h.block a.block hlt hn)
theorem Kp.frozen (h : Kp S w w1) {a : Addr} (hlt : a.block < w.heap.size) (hn : ¬ S a.block) : w1.frozen? a = w.frozen? a := World.frozen?_of_block (w := w) (h.block a.block hlt hn)
theorem Kp.fmap {P : Program} {k b n : Nat} {f : Value → Option Value} (h : Kp S w w1) (hm : fmap w P k b n f) (hn : ¬ S b) : fmap w1 P k b n f := hm.of_block (h.block b hm.lt hn)

end

end Go.Proofs.YthbdpfccfcceiaaDoor
