/-
  What the small calls of a store do to the cells and maps that they reach: Abort, Begin, New.
  What stays of the memory behind a call: all old blocks but those of a set.
-/
import Derived.Test.YthbdpfccfcceiaaGreatDoorW1M1
import Derived.Deep.Draws
namespace Go.Proofs.YthbdpfccfcceiaaGreatDoor
open Go.RowKit Go.Maps

theorem kInt : Keyed Tryz.prog 3 := int_keyed Tryz.underlying3
theorem kStr : Keyed Tryz.prog 9 := string_keyed Tryz.underlying9
theorem zTxP (w : World) : (zeroValue 129).run Tryz.prog w = .ok (.pointer none) w := by kernel_rfl
theorem zVer (w : World) : (zeroValue 138).run Tryz.prog w = .ok (.agg #[.string ByteArray.empty, .bool false]) w := by kernel_rfl
theorem zInts (w : World) : (zeroValue 26).run Tryz.prog w = .ok (.slice none 0 0) w := by kernel_rfl

section
variable {R : Ending → World → Prop}

set_option maxHeartbeats 400000 in
theorem abort_none (p mo n : Nat) (f : Value → Option Value) (tx : Int) (w : World) (c2 : w.cell? ⟨p, 7, none⟩ = some (.map (some mo))) (hown : fmap w Tryz.prog 3 mo n f) (hwx : (Lit.int .i64 tx).wf = true) (hf : f (.int .i64 tx) = none)
    (hR : R (.returned (.int .i64 2)) w) :
    Calls Tryz.prog 108 #[.pointer (some ⟨p, 0, none⟩), .int .i64 tx] w R := by
  have hkey := keyOf_int_mk Tryz.underlying3 hwx
  go_enter Tryz.func108, Tryz.ntmps108
  go_wp2_with (first
    | (at_lookup; refine wpL_lookup_ok _ rfl _ _ 99 rfl 3 129 kInt Tryz.underlying99 (zTxP _) mo n f rfl hown (.int .i64 tx) _ rfl hkey _ hf ?_)
    | go_in)
  exact hR

set_option maxHeartbeats 400000 in
theorem abort_some (p mo n : Nat) (f : Value → Option Value) (tx : Int) (w : World) (c2 : w.cell? ⟨p, 7, none⟩ = some (.map (some mo))) (hown : fmap w Tryz.prog 3 mo n f) (hwx : (Lit.int .i64 tx).wf = true) (a : Addr) (hf : f (.int .i64 tx) = some (.pointer (some a)))
    {f' : Value → Option Value} (hp : IsDel f (.int .i64 tx) f')
    (hR : ∀ w', fmap w' Tryz.prog 3 mo (n - 1) f' → w.mapTurned w' mo → R (.returned (.int .i64 0)) w') :
    Calls Tryz.prog 108 #[.pointer (some ⟨p, 0, none⟩), .int .i64 tx] w R := by
  have hkey := keyOf_int_mk Tryz.underlying3 hwx
  go_enter Tryz.func108, Tryz.ntmps108
  go_wp2_with (first
    | (at_lookup; refine wpL_lookup_ok _ rfl _ _ 99 rfl 3 129 kInt Tryz.underlying99 (zTxP _) mo n f rfl hown (.int .i64 tx) _ rfl hkey _ hf ?_)
    | (at_delete; refine wpL_delete _ rfl _ _ 99 3 rfl 129 kInt Tryz.underlying99 mo n f rfl hown (.int .i64 tx) _ rfl hkey hp ?_; intro w1 hown1 hturn1)
    | go_in)
  rw [hf] at hown1
  exact hR _ hown1 hturn1

set_option maxHeartbeats 400000 in
theorem begin_full (p mo n : Nat) (f : Value → Option Value) (w : World) (c2 : w.cell? ⟨p, 7, none⟩ = some (.map (some mo))) (hown : fmap w Tryz.prog 3 mo n f) (hn : (8 : Int) ≤ n)
    (hR : R (.returned (.tuple #[.int .i64 0, .int .i64 3])) w) :
    Calls Tryz.prog 34 #[.pointer (some ⟨p, 0, none⟩)] w R := by
  go_enter Tryz.func34, Tryz.ntmps34
  go_wp2_with (first
    | (at_len; refine wpL_len _ rfl _ 99 rfl 3 129 Tryz.underlying99 mo n f rfl hown ?_)
    | go_in)
  exact hR

theorem heap_two (w : World) (a : Addr) (v : Value) (o1 o2 : Obj) (i : Nat) (hi : i < w.heap.size) (hne : i ≠ a.block) : (((w.setCell a v).alloc o1).alloc o2).drew.heap[i]? = w.heap[i]? := by
  show (((w.setCell a v).alloc o1).alloc o2).heap[i]? = _
  have hs : (w.setCell a v).heap.size = w.heap.size := by simp [World.setCell]
  rw [Below.heap_alloc _ _ _ (by simp; omega), Below.heap_alloc _ _ _ (by omega), Below.heap_setCell _ _ _ _ hne]

set_option maxHeartbeats 400000 in
theorem begin_more (p mo n : Nat) (f : Value → Option Value) (w : World) (now begun : Int) (c0 : w.cell? ⟨p, 2, none⟩ = some (.int .i64 now)) (c1 : w.cell? ⟨p, 6, none⟩ = some (.int .i64 begun)) (c2 : w.cell? ⟨p, 7, none⟩ = some (.map (some mo)))
    (f1 : w.frozen? ⟨p, 6, none⟩ = false) (hb0 : 0 ≤ begun) (hb1 : begun < 9223372036854775807)
    (hown : fmap w Tryz.prog 3 mo n f) (hn : (n : Int) < 8) (hnew : f (.int .i64 (begun + 1)) = none)
    {f' : Value → Option Value} (hp' : IsPut f (.int .i64 (begun + 1)) (.pointer (some ⟨w.heap.size + 1, 0, none⟩)) f')
    (hR : ∀ w', fmap w' Tryz.prog 3 mo (n + 1) f' →
      (((w.setCell ⟨p, 6, none⟩ (.int .i64 (begun + 1))).alloc (.map #[] 0)).alloc (.cells #[.int .i64 now, .map (some w.heap.size)] 132)).drew.mapTurned w' mo →
      R (.returned (.tuple #[.int .i64 (begun + 1), .int .i64 0])) w') :
    Calls Tryz.prog 34 #[.pointer (some ⟨p, 0, none⟩)] w R := by
  go_enter Tryz.func34, Tryz.ntmps34
  go_wp2_with (first
    | (at_len; refine wpL_len _ rfl _ 99 rfl 3 129 Tryz.underlying99 mo n f rfl hown ?_)
    | go_in)
  have hpm : mo ≠ p := fun e => by subst e; rw [hown.noCell] at c0; cases c0
  have hp : p < w.heap.size := World.block_lt_of_cell? w _ c0
  have hmo := hown.lt
  have hkey := keyOf_int_mk (a := begun + 1) Tryz.underlying3 (WalkArith.wf_i64 (by omega))
  obtain ⟨w1, hrun, hown1, hturn1⟩ := (hown.of_block (heap_two w ⟨p, 6, none⟩ (.int .i64 (begun + 1)) (.map #[] 0) (.cells #[.int .i64 now, .map (some w.heap.size)] 132) mo hmo hpm)).store kInt Tryz.underlying99 (by unfold maxLen; omega) hkey (.pointer (some ⟨w.heap.size + 1, 0, none⟩)) hp'
  have hmm := @run_makeMap Tryz.prog
  have hc1 : w1.cell? ⟨p, 6, none⟩ = some (.int .i64 (begun + 1)) := by
    rw [World.cell?_of_block (w := (((w.setCell ⟨p, 6, none⟩ (.int .i64 (begun + 1))).alloc (.map #[] 0)).alloc (.cells #[.int .i64 now, .map (some w.heap.size)] 132)).drew) (mapTurned_block hturn1 p (Ne.symm hpm))]
    go_simp
  rw [hnew] at hown1
  replace hR := hR _ hown1 hturn1
  clear hnew hown1 hturn1 hp'
  go_region
  all_goals
    clear hrun hmm hkey hp hmo hpm c0 c1 c2 f1 hown
    go_wp2
    exact hR

end

end Go.Proofs.YthbdpfccfcceiaaGreatDoor

namespace Go.Proofs.YthbdpfccfcceiaaGreatDoor
open Go.RowKit

theorem hid_of {p : Prop} (h : p) : Hid p := h

structure Kp (S : Nat → Prop) (w w' : World) : Prop where
  os : w'.os = w.os
  tape : w'.tape = w.tape
  output : w'.output = w.output
  size : w.heap.size ≤ w'.heap.size
  block : ∀ k, k < w.heap.size → ¬ S k → w'.heap[k]? = w.heap[k]?

section
variable {S S' : Nat → Prop} {w w1 w2 : World}

theorem Kp.refl (S : Nat → Prop) (w : World) : Kp S w w := ⟨rfl, rfl, rfl, Nat.le_refl _, fun _ _ _ => rfl⟩

theorem Kp.trans (h : Kp S w w1) (h' : Kp S' w1 w2) (hs : ∀ k, k < w.heap.size → S' k → S k) : Kp S w w2 :=
  ⟨h'.os.trans h.os, h'.tape.trans h.tape, h'.output.trans h.output, Nat.le_trans h.size h'.size, fun k hk hn =>
    (h'.block k (Nat.lt_of_lt_of_le hk h.size) (fun e => hn (hs k hk e))).trans (h.block k hk hn)⟩

theorem Kp.mono (h : Kp S w w1) (hs : ∀ k, k < w.heap.size → S k → S' k) : Kp S' w w1 :=
  ⟨h.os, h.tape, h.output, h.size, fun k hk hn => h.block k hk (fun e => hn (hs k hk e))⟩

theorem Kp.of_below (h : Below w.heap.size w w1) (S : Nat → Prop) : Kp S w w1 := ⟨h.os, h.tape, h.output, h.size, fun k hk _ => h.block k hk⟩

theorem Kp.of_grown {row : Option Nat} (h : w.grownBy w1 row) (hs : ∀ k, row = some k → S k) : Kp S w w1 :=
  ⟨h.os, h.tape, h.output, h.size, fun k hk hn => h.block k hk (fun e => hn (hs k e.symm))⟩

theorem Kp.of_turned {b : Nat} (h : w.mapTurned w1 b) (hs : S b) : Kp S w w1 := by
  refine ⟨?_, ?_, ?_, Nat.le_of_eq (mapTurned_size h).symm, fun k _ hn => mapTurned_block h k (fun e => hn (e ▸ hs))⟩ <;>
    (obtain ⟨es, clock, es', clock', hb, rfl⟩ := h; rfl)

theorem Kp.alloc (S : Nat → Prop) (w : World) (o : Obj) : Kp S w (w.alloc o) := ⟨rfl, rfl, rfl, by simp, fun k hk _ => Below.heap_alloc w o k hk⟩
theorem Kp.drew (S : Nat → Prop) (w : World) : Kp S w w.drew := ⟨rfl, rfl, rfl, Nat.le_refl _, fun _ _ _ => rfl⟩
theorem Kp.drewN (S : Nat → Prop) (w : World) (n : Nat) : Kp S w (w.drewN n) := by
  refine ⟨rfl, rfl, rfl, Nat.le_refl _, fun _ _ _ => rfl⟩
theorem Kp.setCell (w : World) (a : Addr) (v : Value) (hs : S a.block) : Kp S w (w.setCell a v) :=
  ⟨rfl, rfl, rfl, by simp [World.setCell], fun k _ hn => Below.heap_setCell w a v k (fun e => hn (e ▸ hs))⟩

theorem Kp.cell (h : Kp S w w1) {a : Addr} (hlt : a.block < w.heap.size) (hn : ¬ S a.block) : w1.cell? a = w.cell? a := World.cell?_of_block (w := w) (h.block a.block hlt hn)
theorem Kp.frozen (h : Kp S w w1) {a : Addr} (hlt : a.block < w.heap.size) (hn : ¬ S a.block) : w1.frozen? a = w.frozen? a := World.frozen?_of_block (w := w) (h.block a.block hlt hn)
theorem Kp.fmap {P : Program} {k b n : Nat} {f : Value → Option Value} (h : Kp S w w1) (hm : fmap w P k b n f) (hn : ¬ S b) : fmap w1 P k b n f := hm.of_block (h.block b hm.lt hn)

end

end Go.Proofs.YthbdpfccfcceiaaGreatDoor
