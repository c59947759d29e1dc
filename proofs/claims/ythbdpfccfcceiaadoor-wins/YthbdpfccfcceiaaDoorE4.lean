/-
  The law's commits: an act is committed as the next moment.
-/
import Derived.Test.YthbdpfccfcceiaaDoorE3
import Derived.Deep.RegionHeld3
namespace Go.Proofs.YthbdpfccfcceiaaDoor
open Go.RowKit

def actV (a1 a2 a3 : Int) : Value := .agg #[.int .i64 a1, .int .i64 a2, .int .i64 a3]
def I64 (a : Int) : Prop := -9223372036854775808 ≤ a ∧ a ≤ 9223372036854775807
def ActAt (w : World) (A : Nat) (a1 a2 a3 : Int) : Prop := w.heap[A]? = some (.cells #[.int .i64 a1, .int .i64 a2, .int .i64 a3] 24 (0, 0))

theorem ActAt.cell {w : World} {A : Nat} {a1 a2 a3 : Int} (h : ActAt w A a1 a2 a3) : w.cell? ⟨A, 0, none⟩ = some (.int .i64 a1) ∧ w.cell? ⟨A, 1, none⟩ = some (.int .i64 a2) ∧ w.cell? ⟨A, 2, none⟩ = some (.int .i64 a3) := by
  unfold ActAt at h
  simp [World.cell?, h]
theorem ActAt.kp {w w' : World} {A : Nat} {a1 a2 a3 : Int} (h : ActAt w A a1 a2 a3) (k : Kp (fun _ => False) w w') : ActAt w' A a1 a2 a3 := (k.block A (Array.getElem?_eq_some_iff.1 h).1 (fun e => e)).trans h

theorem kp_draws {w w' : World} (h : w' = w ∨ w' = w.drew ∨ ∃ q, w' = w.drewN q) : Kp (fun _ => False) w w' := by
  rcases h with rfl | rfl | ⟨q, rfl⟩
  · exact Kp.refl _ _
  · exact Kp.drew _ _
  · exact Kp.drewN _ _ _

theorem tdiv_i64 {a n : Int} (h : I64 a) (hn : 0 < n) : I64 (a.tdiv n) := by
  unfold I64 at h ⊢
  rcases Int.le_total 0 a with h0 | h0
  · rw [Int.tdiv_eq_ediv_of_nonneg h0]
    have h1 := Int.ediv_nonneg h0 (Int.le_of_lt hn)
    have h2 := Int.ediv_le_self n h0
    omega
  · have e : a.tdiv n = -((-a) / n) := by
      rw [← Int.tdiv_eq_ediv_of_nonneg (by omega : (0 : Int) ≤ -a), Int.neg_tdiv]
      omega
    have h1 := Int.ediv_nonneg (by omega : (0 : Int) ≤ -a) (Int.le_of_lt hn)
    have h2 := Int.ediv_le_self n (by omega : (0 : Int) ≤ -a)
    rw [e]
    omega

section
variable {R : Ending → World → Prop}

set_option maxRecDepth 20000 in
set_option maxHeartbeats 1000000 in
theorem commits_one (w : World) (p : Nat) (a1 a2 a3 : Int) (h1 : I64 a1) (h2 : I64 a2) (h3 : I64 a3) (ho : pk a3 3 ≠ 0)
    (H : ∀ w0, Kp (fun _ => False) w w0 → ActAt w0 w.heap.size a1 a2 a3 → Calls Tryd.prog 7 #[.pointer (some ⟨p, 0, none⟩)] w0 fun r w1 => ∃ now : Int, r = .returned (.int .i64 now) ∧ 0 ≤ now ∧ now < 1000000 ∧
      Calls Tryd.prog 8 #[.pointer (some ⟨p, 0, none⟩)] w1 fun r w2 => ∃ tx : Int, r = .returned (.tuple #[.int .i64 tx, .int .i64 0]) ∧ ActAt w2 w.heap.size a1 a2 a3 ∧
      ∀ w3, Kp (fun _ => False) w2 w3 → Calls Tryd.prog 9 #[.pointer (some ⟨p, 0, none⟩), .int .i64 tx, .string (keyN a1), .string (valN a2)] w3 fun r w4 => r = .returned (.int .i64 0) ∧ ActAt w4 w.heap.size a1 a2 a3 ∧
      Calls Tryd.prog 18 #[.pointer (some ⟨p, 0, none⟩), .int .i64 tx] w4 fun r w5 => r = .returned (.tuple #[.int .i64 (now + 1), .int .i64 0]) ∧
      Calls Tryd.prog 7 #[.pointer (some ⟨p, 0, none⟩)] w5 fun r w6 => r = .returned (.int .i64 (now + 1)) ∧ R (.returned (.bool true)) w6) :
    Calls Tryd.prog 13 #[.pointer (some ⟨p, 0, none⟩), actV a1 a2 a3] w R := by
  have HH := hid_of H
  have B1 := hid_of h1
  have B2 := hid_of h2
  have B3 := hid_of h3
  have d3 : (pk a3 3 == 0) = false := by simpa using ho
  clear H h1 h2 h3 ho
  unfold actV
  go_enter Tryd.func13, Tryd.ntmps13
  go_wp2_with (first
    | (go_at_call 7; refine Calls.mono (HH.out _ (Kp.alloc _ _ _) (heap_alloc_new _ _)) ?_; rintro r w1 ⟨now, rfl, n0, n1, hn⟩; have HN := hid_of hn; clear hn)
    | (go_at_call 8; refine Calls.mono HN.out ?_; rintro r w2 ⟨tx, rfl, ha, hn⟩; have HB := hid_of hn; have HA := hid_of ha; obtain ⟨q0, q1, q2⟩ := ha.cell; clear hn ha)
    | go_in)
  go_region_held3 (fun w' => w'.cell? ⟨w.heap.size, 0, none⟩ = some (.int .i64 a1) ∧ w'.cell? ⟨w.heap.size, 1, none⟩ = some (.int .i64 a2)) (go_keep) (first
    | (go_at_call 10; refine key_any _ _ B1.out (fun w3 k3 => ?_); have k23 := Kp.trans (kp_draws (w := w2) (by simp)) k3 (fun _ _ h => h); obtain ⟨z0, z1, _⟩ := (HA.out.kp k23).cell; have HK := hid_of k23; clear k3 k23)
    | (go_at_call 11; refine value_any _ _ B2.out ?_)
    | (go_at_call 9; refine Calls.mono (HB.out _ (Kp.trans HK.out (kp_draws (by simp)) (fun _ _ h => h))) ?_; rintro r w4 ⟨rfl, ha, hn⟩; have HW := hid_of hn; obtain ⟨z0, z1, z2⟩ := ha.cell; clear hn ha))
  all_goals
    go_wp2_with (first
      | (go_at_call 20; refine pick_any _ _ _ B3.out (by decide) ?_)
      | (go_at_call 18; refine Calls.mono HW.out ?_; rintro r w5 ⟨rfl, hn⟩; have HC := hid_of hn; clear hn)
      | (go_at_call 7; refine Calls.mono HC.out ?_; rintro r w6 ⟨rfl, hn⟩; have HL := hid_of hn; clear hn)
      | go_in)
    exact HL.out

set_option maxRecDepth 20000 in
set_option maxHeartbeats 1000000 in
theorem commits_two (w : World) (p : Nat) (a1 a2 a3 : Int) (h1 : I64 a1) (h2 : I64 a2) (h3 : I64 a3) (ho : pk a3 3 = 0)
    (H : ∀ w0, Kp (fun _ => False) w w0 → ActAt w0 w.heap.size a1 a2 a3 → Calls Tryd.prog 7 #[.pointer (some ⟨p, 0, none⟩)] w0 fun r w1 => ∃ now : Int, r = .returned (.int .i64 now) ∧ 0 ≤ now ∧ now < 1000000 ∧
      Calls Tryd.prog 8 #[.pointer (some ⟨p, 0, none⟩)] w1 fun r w2 => ∃ tx : Int, r = .returned (.tuple #[.int .i64 tx, .int .i64 0]) ∧ ActAt w2 w.heap.size a1 a2 a3 ∧
      ∀ w3, Kp (fun _ => False) w2 w3 → Calls Tryd.prog 9 #[.pointer (some ⟨p, 0, none⟩), .int .i64 tx, .string (keyN a1), .string (valN a2)] w3 fun r w4 => r = .returned (.int .i64 0) ∧ ActAt w4 w.heap.size a1 a2 a3 ∧
      ∀ w3, Kp (fun _ => False) w4 w3 → Calls Tryd.prog 9 #[.pointer (some ⟨p, 0, none⟩), .int .i64 tx, .string (keyN (a3.tdiv 3)), .string (valN (a3.tdiv 18))] w3 fun r w4 => r = .returned (.int .i64 0) ∧ ActAt w4 w.heap.size a1 a2 a3 ∧
      Calls Tryd.prog 18 #[.pointer (some ⟨p, 0, none⟩), .int .i64 tx] w4 fun r w5 => r = .returned (.tuple #[.int .i64 (now + 1), .int .i64 0]) ∧
      Calls Tryd.prog 7 #[.pointer (some ⟨p, 0, none⟩)] w5 fun r w6 => r = .returned (.int .i64 (now + 1)) ∧ R (.returned (.bool true)) w6) :
    Calls Tryd.prog 13 #[.pointer (some ⟨p, 0, none⟩), actV a1 a2 a3] w R := by
  have HH := hid_of H
  have B1 := hid_of h1
  have B2 := hid_of h2
  have B3 := hid_of h3
  have HO := hid_of ho
  clear H h1 h2 h3 ho
  unfold actV
  go_enter Tryd.func13, Tryd.ntmps13
  go_wp2_with (first
    | (go_at_call 7; refine Calls.mono (HH.out _ (Kp.alloc _ _ _) (heap_alloc_new _ _)) ?_; rintro r w1 ⟨now, rfl, n0, n1, hn⟩; have HN := hid_of hn; clear hn)
    | (go_at_call 8; refine Calls.mono HN.out ?_; rintro r w2 ⟨tx, rfl, ha, hn⟩; have HB := hid_of hn; have HA := hid_of ha; obtain ⟨q0, q1, q2⟩ := ha.cell; clear hn ha)
    | go_in)
  go_region_held3 (fun w' => w'.cell? ⟨w.heap.size, 0, none⟩ = some (.int .i64 a1) ∧ w'.cell? ⟨w.heap.size, 1, none⟩ = some (.int .i64 a2)) (go_keep) (first
    | (go_at_call 10; refine key_any _ _ B1.out (fun w3 k3 => ?_); have k23 := Kp.trans (kp_draws (w := w2) (by simp)) k3 (fun _ _ h => h); obtain ⟨z0, z1, _⟩ := (HA.out.kp k23).cell; have HK := hid_of k23; clear k3 k23)
    | (go_at_call 11; refine value_any _ _ B2.out ?_)
    | (go_at_call 9; refine Calls.mono (HB.out _ (Kp.trans HK.out (kp_draws (by simp)) (fun _ _ h => h))) ?_; rintro r w4 ⟨rfl, ha, hn⟩; have HW := hid_of hn; have HA4 := hid_of ha; obtain ⟨z0, z1, z2⟩ := ha.cell; clear hn ha))
  all_goals
    have B4 := hid_of (tdiv_i64 B3.out (n := 3) (by decide))
    have B5 := hid_of (tdiv_i64 B3.out (n := 18) (by decide))
    have e3 : IntKind.i64.wrap (a3.tdiv 3) = a3.tdiv 3 := IntWalk.i64_in _ B4.out
    have e18 : IntKind.i64.wrap (a3.tdiv 18) = a3.tdiv 18 := IntWalk.i64_in _ B5.out
    go_wp2_with (first
      | (go_at_call 20; refine pick_any _ _ _ B3.out (by decide) ?_; rw [HO.out])
      | go_in)
    go_region_held3 (fun w' => w'.cell? ⟨w.heap.size, 2, none⟩ = some (.int .i64 a3)) (go_keep) (first
      | (go_at_call 10; refine key_any _ _ B4.out (fun w5 k5 => ?_); have k45 := Kp.trans (kp_draws (w := w4) (by simp)) k5 (fun _ _ h => h); obtain ⟨_, _, z5⟩ := (HA4.out.kp k45).cell; have HK5 := hid_of k45; clear k5 k45)
      | (go_at_call 11; refine value_any _ _ B5.out ?_)
      | (go_at_call 9; refine Calls.mono (HW.out _ (Kp.trans HK5.out (kp_draws (by simp)) (fun _ _ h => h))) ?_; rintro r w6 ⟨rfl, ha, hn⟩; have HW6 := hid_of hn; obtain ⟨_, _, z6⟩ := ha.cell; clear hn ha))
    all_goals
      go_wp2_with (first
        | (go_at_call 18; refine Calls.mono HW6.out ?_; rintro r w7 ⟨rfl, hn⟩; have HC := hid_of hn; clear hn)
        | (go_at_call 7; refine Calls.mono HC.out ?_; rintro r w8 ⟨rfl, hn⟩; have HL := hid_of hn; clear hn)
        | go_in)
      exact HL.out

end

end Go.Proofs.YthbdpfccfcceiaaDoor
