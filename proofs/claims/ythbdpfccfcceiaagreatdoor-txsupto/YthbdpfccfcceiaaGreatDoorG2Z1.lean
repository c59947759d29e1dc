/-
  The law's steps on one pair of stores: each makes the program's call, then the document's, and tells whether they answer alike.
  A store in memory, the blocks that bear it left unsaid; and which blocks are not its own.
-/
import Derived.Test.YthbdpfccfcceiaaGreatDoorS2S3
import Derived.Test.YthbdpfccfcceiaaGreatDoorJ1J2
namespace Go.Proofs.YthbdpfccfcceiaaGreatDoor
open Go.RowKit

section
variable {R : Ending → World → Prop}

theorem text_same (s : ByteArray) (e : Int) (w : World) (hR : R (.returned (.bool true)) w) :
    Calls Tryz.prog 98 #[.string s, .int .i64 e, .string s, .int .i64 e] w R := by
  go_enter Tryz.func98, Tryz.ntmps98
  go_wp2
  exact hR

def pickN (c : Int) (n : Nat) : Nat := if c < 0 then ((-(c + 1)).tmod n).toNat else (c.tmod n).toNat

theorem pickN_lt (c : Int) (n : Nat) (hn : 0 < n) : pickN c n < n := by
  have h1 : (0 : Int) < n := by omega
  unfold pickN
  split
  · have b1 : 0 ≤ -(c + 1) := by omega
    have m1 := Int.tmod_nonneg (n : Int) b1
    have m2 := Int.tmod_lt_of_pos (-(c + 1)) h1
    omega
  · have b1 : 0 ≤ c := by omega
    have m1 := Int.tmod_nonneg (n : Int) b1
    have m2 := Int.tmod_lt_of_pos c h1
    omega

theorem pick_any (c : Int) (n : Nat) (w : World) (hc : -9223372036854775808 ≤ c ∧ c ≤ 9223372036854775807) (hn : 0 < n) (hn2 : n < 1000000000) (hR : R (.returned (.int .i64 (pickN c n))) w) :
    Calls Tryz.prog 60 #[.int .i64 c, .int .i64 n] w R := by
  have hn0 : (n : Int) ≠ 0 := by omega
  have h1 : (0 : Int) < n := by omega
  have h2 : (n : Int) < 1000000000 := by omega
  by_cases h0 : c < 0
  · have b1 : 0 ≤ -(c + 1) := by omega
    have m1 := Int.tmod_nonneg (n : Int) b1
    have m2 := Int.tmod_lt_of_pos (-(c + 1)) h1
    rw [pickN, if_pos h0, Int.toNat_of_nonneg m1, Int.neg_tmod] at hR
    go_enter Tryz.func60, Tryz.ntmps60
    go_wp2
    exact hR
  · have b1 : 0 ≤ c := by omega
    have m1 := Int.tmod_nonneg (n : Int) b1
    have m2 := Int.tmod_lt_of_pos c h1
    rw [pickN, if_neg h0, Int.toNat_of_nonneg m1, Int.tmod_eq_emod_of_nonneg b1] at hR
    go_enter Tryz.func60, Tryz.ntmps60
    go_wp2
    exact hR

end

end Go.Proofs.YthbdpfccfcceiaaGreatDoor

namespace Go.Proofs.YthbdpfccfcceiaaGreatDoor
open Go.RowKit


def stepV (kind e a b : Int) (s t : ByteArray) (vl vm : Value) : Value := .agg #[.int .i64 kind, .int .i64 e, .int .i64 a, .int .i64 b, .string s, .string t, vl, vm]
def pairV (px py : Nat) : Value := .agg #[.pointer (some ⟨px, 0, none⟩), .pointer (some ⟨py, 0, none⟩)]

/-- The world in which the steps make their calls: the pair and the step laid into blocks of their own. -/
def boxW (w : World) (px py : Nat) (kind e a b : Int) (s t : ByteArray) (vl vm : Value) : World :=
  (w.alloc (.cells #[.pointer (some ⟨px, 0, none⟩), .pointer (some ⟨py, 0, none⟩)] 81)).alloc (.cells #[.int .i64 kind, .int .i64 e, .int .i64 a, .int .i64 b, .string s, .string t, vl, vm] 71)

section
variable {R : Ending → World → Prop}

theorem boxW_kp (w : World) (px py : Nat) (kind e a b : Int) (s t : ByteArray) (vl vm : Value) : Kp (fun _ => False) w (boxW w px py kind e a b s t vl vm) :=
  (Kp.alloc _ _ _).trans (Kp.alloc (fun _ => False) _ _) (fun _ _ h => h)

theorem boxW_size (w : World) (px py : Nat) (kind e a b : Int) (s t : ByteArray) (vl vm : Value) : (boxW w px py kind e a b s t vl vm).heap.size = w.heap.size + 2 := by simp [boxW]

theorem box_pair {w w2 : World} {px py : Nat} {kind e a b : Int} {s t : ByteArray} {vl vm : Value} (h : Kp (fun b => b < w.heap.size) (boxW w px py kind e a b s t vl vm) w2) :
    w2.heap[w.heap.size]? = some (.cells #[.pointer (some ⟨px, 0, none⟩), .pointer (some ⟨py, 0, none⟩)] 81 (0, 0)) := by
  rw [h.block _ (by rw [boxW_size]; omega) (by simp), boxW, Below.heap_alloc _ _ _ (by simp)]
  exact heap_alloc_new w _

theorem box_step {w w2 : World} {px py : Nat} {kind e a b : Int} {s t : ByteArray} {vl vm : Value} (h : Kp (fun b => b < w.heap.size) (boxW w px py kind e a b s t vl vm) w2) :
    w2.heap[w.heap.size + 1]? = some (.cells #[.int .i64 kind, .int .i64 e, .int .i64 a, .int .i64 b, .string s, .string t, vl, vm] 71 (0, 0)) := by
  rw [h.block _ (by rw [boxW_size]; omega) (by simp)]
  have := heap_alloc_new (w.alloc (.cells #[.pointer (some ⟨px, 0, none⟩), .pointer (some ⟨py, 0, none⟩)] 81)) (.cells #[.int .i64 kind, .int .i64 e, .int .i64 a, .int .i64 b, .string s, .string t, vl, vm] 71)
  simpa [boxW] using this

set_option maxRecDepth 20000 in
set_option maxHeartbeats 1000000 in
theorem txs_begin (w : World) (p px py : Nat) (e a b : Int) (s t : ByteArray) (vl vm : Value)
    (hX : Calls Tryz.prog 34 #[.pointer (some ⟨px, 0, none⟩)] (boxW w px py 2 e a b s t vl vm) (fun r w2 => ∃ n er, r = .returned (.tuple #[.int .i64 n, .int .i64 er]) ∧ Kp (fun b => b < w.heap.size) (boxW w px py 2 e a b s t vl vm) w2 ∧
      Calls Tryz.prog 101 #[.pointer (some ⟨py, 0, none⟩)] w2 (fun r' w3 => r' = .returned (.tuple #[.int .i64 n, .int .i64 er]) ∧ R (.returned (.bool true)) w3))) :
    Calls Tryz.prog 61 #[.pointer (some ⟨p, 0, none⟩), pairV px py, stepV 2 e a b s t vl vm] w R := by
  unfold boxW at hX
  have HX := hid_of hX
  unfold pairV stepV
  clear hX
  go_enter Tryz.func61, Tryz.ntmps61
  go_wp2_with (first
    | (go_at_call 34; refine HX.out.mono ?_; rintro r w2 ⟨n, er, rfl, hk, hy⟩; have HY := hid_of hy; have q1 := cell_of (box_pair hk) 1; clear hy hk)
    | (go_at_call 101; refine HY.out.mono ?_; rintro r w3 ⟨rfl, hr⟩)
    | go_in)
  exact hr

set_option maxRecDepth 20000 in
set_option maxHeartbeats 1000000 in
theorem txs_get (w : World) (p px py : Nat) (e a b : Int) (s t : ByteArray) (vl vm : Value)
    (hX : Calls Tryz.prog 102 #[.pointer (some ⟨px, 0, none⟩), .int .i64 a, .string s] (boxW w px py 3 e a b s t vl vm) (fun r w2 => ∃ u er, r = .returned (.tuple #[.string u, .int .i64 er]) ∧ Kp (fun b => b < w.heap.size) (boxW w px py 3 e a b s t vl vm) w2 ∧
      Calls Tryz.prog 103 #[.pointer (some ⟨py, 0, none⟩), .int .i64 a, .string s] w2 (fun r' w3 => r' = .returned (.tuple #[.string u, .int .i64 er]) ∧ R (.returned (.bool true)) w3))) :
    Calls Tryz.prog 61 #[.pointer (some ⟨p, 0, none⟩), pairV px py, stepV 3 e a b s t vl vm] w R := by
  unfold boxW at hX
  have HX := hid_of hX
  unfold pairV stepV
  clear hX
  go_enter Tryz.func61, Tryz.ntmps61
  go_wp2_with (first
    | (go_at_call 102; refine HX.out.mono ?_; rintro r w2 ⟨u, er, rfl, hk, hy⟩; have HY := hid_of hy; have q1 := cell_of (box_pair hk) 1; have q12 := cell_of (box_step hk) 2; have q14 := cell_of (box_step hk) 4; clear hy hk)
    | (go_at_call 103; refine HY.out.mono ?_; rintro r w3 ⟨rfl, hr⟩)
    | go_in)
  exact hr

set_option maxRecDepth 20000 in
set_option maxHeartbeats 1000000 in
theorem txs_scan (w : World) (p px py : Nat) (e a b : Int) (s t : ByteArray) (vl vm : Value)
    (hX : Calls Tryz.prog 104 #[.pointer (some ⟨px, 0, none⟩), .int .i64 a, .string s, .string t] (boxW w px py 4 e a b s t vl vm) (fun r w2 => ∃ v er, r = .returned (.tuple #[v, .int .i64 er]) ∧ Kp (fun b => b < w.heap.size) (boxW w px py 4 e a b s t vl vm) w2 ∧
      Calls Tryz.prog 105 #[.pointer (some ⟨py, 0, none⟩), .int .i64 a, .string s, .string t] w2 (fun r' w3 => ∃ v', r' = .returned (.tuple #[v', .int .i64 er]) ∧ Calls Tryz.prog 100 #[.pointer (some ⟨p, 0, none⟩), v, .int .i64 er, v', .int .i64 er] w3 (fun r w4 => r = .returned (.bool true) ∧ R (.returned (.bool true)) w4)))) :
    Calls Tryz.prog 61 #[.pointer (some ⟨p, 0, none⟩), pairV px py, stepV 4 e a b s t vl vm] w R := by
  unfold boxW at hX
  have HX := hid_of hX
  unfold pairV stepV
  clear hX
  go_enter Tryz.func61, Tryz.ntmps61
  go_wp2_with (first
    | (go_at_call 104; refine HX.out.mono ?_; rintro r w2 ⟨v, er, rfl, hk, hy⟩; have HY := hid_of hy; have q1 := cell_of (box_pair hk) 1; have q12 := cell_of (box_step hk) 2; have q14 := cell_of (box_step hk) 4; have q15 := cell_of (box_step hk) 5; clear hy hk)
    | (go_at_call 105; refine HY.out.mono ?_; rintro r w3 ⟨v', rfl, hp⟩; have HP := hid_of hp; clear hp)
    | (go_at_call 100; refine HP.out.mono ?_; rintro r w4 ⟨rfl, hr⟩)
    | go_in)
  exact hr

set_option maxRecDepth 20000 in
set_option maxHeartbeats 1000000 in
theorem txs_put (w : World) (p px py : Nat) (e a b : Int) (s t : ByteArray) (vl vm : Value)
    (hX : Calls Tryz.prog 35 #[.pointer (some ⟨px, 0, none⟩), .int .i64 a, .string s, .string t] (boxW w px py 5 e a b s t vl vm) (fun r w2 => ∃ er, r = .returned (.int .i64 er) ∧ Kp (fun b => b < w.heap.size) (boxW w px py 5 e a b s t vl vm) w2 ∧
      Calls Tryz.prog 106 #[.pointer (some ⟨py, 0, none⟩), .int .i64 a, .agg #[.string s, .int .i64 0, .bool false, .string t]] w2 (fun r' w3 => r' = .returned (.int .i64 er) ∧ R (.returned (.bool true)) w3))) :
    Calls Tryz.prog 61 #[.pointer (some ⟨p, 0, none⟩), pairV px py, stepV 5 e a b s t vl vm] w R := by
  unfold boxW at hX
  have HX := hid_of hX
  unfold pairV stepV
  clear hX
  go_enter Tryz.func61, Tryz.ntmps61
  go_wp2_with (first
    | (go_at_call 35; refine HX.out.mono ?_; rintro r w2 ⟨er, rfl, hk, hy⟩; have HY := hid_of hy; have q1 := cell_of (box_pair hk) 1; have q12 := cell_of (box_step hk) 2; have q14 := cell_of (box_step hk) 4; have q15 := cell_of (box_step hk) 5; clear hy hk)
    | (go_at_call 106; refine HY.out.mono ?_; rintro r w3 ⟨rfl, hr⟩)
    | go_in)
  exact hr

set_option maxRecDepth 20000 in
set_option maxHeartbeats 1000000 in
theorem txs_delete (w : World) (p px py : Nat) (e a b : Int) (s t : ByteArray) (vl vm : Value)
    (hX : Calls Tryz.prog 73 #[.pointer (some ⟨px, 0, none⟩), .int .i64 a, .string s] (boxW w px py 6 e a b s t vl vm) (fun r w2 => ∃ er, r = .returned (.int .i64 er) ∧ Kp (fun b => b < w.heap.size) (boxW w px py 6 e a b s t vl vm) w2 ∧
      Calls Tryz.prog 106 #[.pointer (some ⟨py, 0, none⟩), .int .i64 a, .agg #[.string s, .int .i64 0, .bool true, .string ⟨#[]⟩]] w2 (fun r' w3 => r' = .returned (.int .i64 er) ∧ R (.returned (.bool true)) w3))) :
    Calls Tryz.prog 61 #[.pointer (some ⟨p, 0, none⟩), pairV px py, stepV 6 e a b s t vl vm] w R := by
  unfold boxW at hX
  have HX := hid_of hX
  unfold pairV stepV
  clear hX
  go_enter Tryz.func61, Tryz.ntmps61
  go_wp2_with (first
    | (go_at_call 73; refine HX.out.mono ?_; rintro r w2 ⟨er, rfl, hk, hy⟩; have HY := hid_of hy; have q1 := cell_of (box_pair hk) 1; have q12 := cell_of (box_step hk) 2; have q14 := cell_of (box_step hk) 4; clear hy hk)
    | (go_at_call 106; refine HY.out.mono ?_; rintro r w3 ⟨rfl, hr⟩)
    | go_in)
  exact hr

set_option maxRecDepth 20000 in
set_option maxHeartbeats 1000000 in
theorem txs_commit (w : World) (p px py : Nat) (e a b : Int) (s t : ByteArray) (vl vm : Value)
    (hX : Calls Tryz.prog 36 #[.pointer (some ⟨px, 0, none⟩), .int .i64 a] (boxW w px py 7 e a b s t vl vm) (fun r w2 => ∃ n er, r = .returned (.tuple #[.int .i64 n, .int .i64 er]) ∧ Kp (fun b => b < w.heap.size) (boxW w px py 7 e a b s t vl vm) w2 ∧
      Calls Tryz.prog 107 #[.pointer (some ⟨py, 0, none⟩), .int .i64 a] w2 (fun r' w3 => r' = .returned (.tuple #[.int .i64 n, .int .i64 er]) ∧ R (.returned (.bool true)) w3))) :
    Calls Tryz.prog 61 #[.pointer (some ⟨p, 0, none⟩), pairV px py, stepV 7 e a b s t vl vm] w R := by
  unfold boxW at hX
  have HX := hid_of hX
  unfold pairV stepV
  clear hX
  go_enter Tryz.func61, Tryz.ntmps61
  go_wp2_with (first
    | (go_at_call 36; refine HX.out.mono ?_; rintro r w2 ⟨n, er, rfl, hk, hy⟩; have HY := hid_of hy; have q1 := cell_of (box_pair hk) 1; have q12 := cell_of (box_step hk) 2; clear hy hk)
    | (go_at_call 107; refine HY.out.mono ?_; rintro r w3 ⟨rfl, hr⟩)
    | go_in)
  exact hr

set_option maxRecDepth 20000 in
set_option maxHeartbeats 1000000 in
theorem txs_abort (w : World) (p px py : Nat) (e a b : Int) (s t : ByteArray) (vl vm : Value)
    (hX : Calls Tryz.prog 108 #[.pointer (some ⟨px, 0, none⟩), .int .i64 a] (boxW w px py 8 e a b s t vl vm) (fun r w2 => ∃ er, r = .returned (.int .i64 er) ∧ Kp (fun b => b < w.heap.size) (boxW w px py 8 e a b s t vl vm) w2 ∧
      Calls Tryz.prog 109 #[.pointer (some ⟨py, 0, none⟩), .int .i64 a] w2 (fun r' w3 => r' = .returned (.int .i64 er) ∧ R (.returned (.bool true)) w3))) :
    Calls Tryz.prog 61 #[.pointer (some ⟨p, 0, none⟩), pairV px py, stepV 8 e a b s t vl vm] w R := by
  unfold boxW at hX
  have HX := hid_of hX
  unfold pairV stepV
  clear hX
  go_enter Tryz.func61, Tryz.ntmps61
  go_wp2_with (first
    | (go_at_call 108; refine HX.out.mono ?_; rintro r w2 ⟨er, rfl, hk, hy⟩; have HY := hid_of hy; have q1 := cell_of (box_pair hk) 1; have q12 := cell_of (box_step hk) 2; clear hy hk)
    | (go_at_call 109; refine HY.out.mono ?_; rintro r w3 ⟨rfl, hr⟩)
    | go_in)
  exact hr

set_option maxRecDepth 20000 in
set_option maxHeartbeats 1000000 in
theorem txs_now (w : World) (p px py : Nat) (e a b : Int) (s t : ByteArray) (vl vm : Value)
    (hX : Calls Tryz.prog 15 #[.pointer (some ⟨px, 0, none⟩)] (boxW w px py 9 e a b s t vl vm) (fun r w2 => ∃ n, r = .returned (.int .i64 n) ∧ Kp (fun b => b < w.heap.size) (boxW w px py 9 e a b s t vl vm) w2 ∧
      w2.cell? ⟨py, 2, none⟩ = some (.int .i64 n) ∧ R (.returned (.bool true)) w2)) :
    Calls Tryz.prog 61 #[.pointer (some ⟨p, 0, none⟩), pairV px py, stepV 9 e a b s t vl vm] w R := by
  unfold boxW at hX
  have HX := hid_of hX
  unfold pairV stepV
  clear hX
  go_enter Tryz.func61, Tryz.ntmps61
  go_wp2_with (first
    | (go_at_call 15; refine HX.out.mono ?_; rintro r w2 ⟨n, rfl, hk, hy, hr⟩; have q1 := cell_of (box_pair hk) 1; clear hk)
    | go_in)
  exact hr

end

end Go.Proofs.YthbdpfccfcceiaaGreatDoor

namespace Go.Proofs.YthbdpfccfcceiaaGreatDoor
open Go.RowKit

def XE (own : Nat → Lab) (c : Nat) (w : World) (p : Nat) (s : XS) : Prop := ∃ mo ph mv mm pt mw sl, XR own c w p s mo ph mv mm pt mw sl

section
variable {own own' : Nat → Lab} {c : Nat} {w w' : World} {p : Nat} {s s' : XS} {N M : Nat → Prop}

theorem XE.frame (h : XE own c w p s) (hb : ∀ b, b < w.heap.size → (own b).c = c → w'.heap[b]? = w.heap[b]?) (ho : ∀ b, b < w.heap.size → (own b).c = c → own' b = own b) : XE own' c w' p s := by
  obtain ⟨mo, ph, mv, mm, pt, mw, sl, h⟩ := h
  exact ⟨mo, ph, mv, mm, pt, mw, sl, h.frame hb ho⟩

/-- A store, and blocks that are not its own. -/
structure Ns (N : Nat → Prop) (own : Nat → Lab) (w : World) : Prop where
  out : ∀ b, N b → b < w.heap.size ∧ (own b).c ≠ 2
  tab : Tab w
  tabN : TabN own 2
def St (N : Nat → Prop) (w : World) (p : Nat) (s : XS) : Prop := ∃ own, XE own 2 w p s ∧ Ns N own w

theorem St.read (h : St N w p s) (k : Kp (fun _ => False) w w') (hM : ∀ b, M b → N b ∨ (w.heap.size ≤ b ∧ b < w'.heap.size)) : St M w' p s := by
  obtain ⟨own, hx, hN⟩ := h
  refine ⟨fun b => if b < w.heap.size then own b else ⟨0, 9, 0, eb⟩, hx.frame (fun b hb _ => k.block b hb (fun e => e)) (fun b hb _ => by simp [hb]), fun b hb => ?_, hN.tab.kept k, by unfold TabN; simp only [hN.tab.lt.1, hN.tab.lt.2, if_true]; exact hN.tabN⟩
  rcases hM b hb with h1 | ⟨h1, h2⟩
  · have h2 := hN.out b h1
    have := k.size
    refine ⟨by omega, ?_⟩
    simp only [h2.1, if_true]
    exact h2.2
  · refine ⟨h2, ?_⟩
    have : ¬ b < w.heap.size := by omega
    simp [this]

theorem St.kept (h : St N w p s) (k : Kp (fun _ => False) w w') : St N w' p s := h.read k (fun _ h => Or.inl h)

theorem St.up (_hx : XE own 2 w p s) (hN : Ns N own w) (k : Kp (fun b => (own b).c = 2) w w') (ho : ∀ b, b < w.heap.size → own' b = own b) (hx' : XE own' 2 w' p s') : St N w' p s' ∧ Kp (fun b => ¬ N b) w w' := by
  refine ⟨⟨own', hx', fun b hb => ?_, hN.tab.kp k hN.tabN.1 hN.tabN.2, by unfold TabN; rw [ho 0 hN.tab.lt.1, ho 1 hN.tab.lt.2]; exact hN.tabN⟩, k.mono (fun b _ e hn => (hN.out b hn).2 e)⟩
  have h1 := hN.out b hb
  have := k.size
  refine ⟨by omega, ?_⟩
  rw [ho b h1.1]; exact h1.2

end

end Go.Proofs.YthbdpfccfcceiaaGreatDoor
