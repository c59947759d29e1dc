/-
  One step of the law's script of the kinds of stage 2, on whichever pair of stores: it makes the call that those kinds make.
  The document's answer: Retain.
-/
import Derived.Test.YthbdpfccfcceiaaGreatDoorG6
import Derived.Test.YthbdpfccfcceiaaGreatDoorR13
import Derived.Test.YthbdpfccfcceiaaGreatDoorG3
import Derived.Test.YthbdpfccfcceiaaGreatDoorB1B2
namespace Go.Proofs.YthbdpfccfcceiaaGreatDoor
open Go.RowKit

section
variable {own : Nat → Lab} {w : World} {p nt : Nat} {ds : List (Nat × Nat)} {vL vP vK : Value} {bk : List (Value × Nat × Int)}
variable {R : Ending → World → Prop}

set_option maxRecDepth 20000 in
set_option maxHeartbeats 2000000 in
theorem step_10 (h : Inv own w p ds vL vP vK bk nt) (h0 : 0 < ds.length) (hnt : nt < 1000000) (e a b : Int) (he : -9223372036854775808 ≤ e ∧ e ≤ 9223372036854775807) (st tt : ByteArray) (vl vm : Value)
    (hC : ∀ w2 (i : Nat) (hi : i < ds.length), Kp (fun _ => False) w w2 → Calls Tryz.prog 62 #[.pointer (some ⟨p, 0, none⟩), .agg #[.pointer (some ⟨(ds[i]).1, 0, none⟩), .pointer (some ⟨(ds[i]).2, 0, none⟩)], .agg #[.int .i64 10, .int .i64 e, .int .i64 a, .int .i64 b, .string st, .string tt, vl, vm]] w2 (fun r w' => r = .returned (.bool true) ∧ R (.returned (.bool true)) w')) :
    Calls Tryz.prog 31 #[.pointer (some ⟨p, 0, none⟩), .agg #[.int .i64 10, .int .i64 e, .int .i64 a, .int .i64 b, .string st, .string tt, vl, vm]] w R := by
  obtain ⟨g, cap, hvL, hcap, hgl, hcells⟩ := duos_row h.rowL h0
  have hk1 : Kp (fun _ => False) w (w.alloc (.cells #[.int .i64 10, .int .i64 e, .int .i64 a, .int .i64 b, .string st, .string tt, vl, vm] 71)) := Kp.alloc _ _ _
  have lp : p < w.heap.size := block_lt h.book.world
  have c0 : w.cell? ⟨p, 0, none⟩ = some vL := cell_of h.book.world 0
  rw [hvL] at c0
  have d0 := (hk1.cell (a := ⟨p, 0, none⟩) lp (fun h => h)).trans c0
  have hil := pickN_lt e ds.length h0
  have e0 := (hk1.cell (a := ⟨g, pickN e ds.length * 2, none⟩) hgl (fun h => h)).trans (hcells _ hil).1
  have e1 := (hk1.cell (a := ⟨g, pickN e ds.length * 2 + 1, none⟩) hgl (fun h => h)).trans (hcells _ hil).2
  have z1 : (w.alloc (.cells #[.int .i64 10, .int .i64 e, .int .i64 a, .int .i64 b, .string st, .string tt, vl, vm] 71)).cell? ⟨w.heap.size, 1, none⟩ = some (.int .i64 e) := cell_of (heap_alloc_new w _) 1
  have hil' : (pickN e ds.length : Int) < ds.length := by omega
  have ng1 : g ≠ w.heap.size + 1 := by omega
  have np1 : p ≠ w.heap.size + 1 := by omega
  have hn1 := h.nds
  have hdl : (ds.length : Int) < 1000000 := by omega
  have HCALL := hid_of (fun w2 (k : Kp (fun _ => False) w w2) => hC w2 _ hil k)
  have HE := hid_of he
  have H0 := hid_of h0
  have HLT : Hid (ds.length < 1000000000) := by show _ < _; omega
  generalize hds : ds[pickN e ds.length] = d at *
  clear hds hil
  generalize hpi : pickN e ds.length = i at *
  clear h hC hcells hvL hk1 he hnt hn1 h0 c0 lp hgl
  go_enter Tryz.func31, Tryz.ntmps31
  go_wp2
  go_region_held3 (fun w' => w'.cell? ⟨p, 0, none⟩ = some (.slice (some ⟨g, 0, none⟩) ds.length cap) ∧ w'.cell? ⟨w.heap.size, 1, none⟩ = some (.int .i64 e) ∧ w'.cell? ⟨g, i * 2, none⟩ = some (.pointer (some ⟨d.1, 0, none⟩)) ∧ w'.cell? ⟨g, i * 2 + 1, none⟩ = some (.pointer (some ⟨d.2, 0, none⟩))) (go_keep) ((go_at_call 60; refine pick_any e ds.length _ HE.out H0.out HLT.out ?_; rw [hpi]))
  all_goals
    go_wp2_with (first
      | (go_at_call 62; refine (HCALL.out _ ?_).mono ?_; (exact ((Kp.alloc _ _ _).trans (Kp.alloc (fun _ => False) _ _) (fun _ _ h => h)).trans (Kp.drew (fun _ => False) _) (fun _ _ h => h)); rintro r w'' ⟨rfl, hr⟩)
      | fail)
    exact hr

set_option maxRecDepth 20000 in
set_option maxHeartbeats 2000000 in
theorem step_11 (h : Inv own w p ds vL vP vK bk nt) (h0 : 0 < ds.length) (hnt : nt < 1000000) (e a b : Int) (he : -9223372036854775808 ≤ e ∧ e ≤ 9223372036854775807) (st tt : ByteArray) (vl vm : Value)
    (hC : ∀ w2 (i : Nat) (hi : i < ds.length), Kp (fun _ => False) w w2 → Calls Tryz.prog 62 #[.pointer (some ⟨p, 0, none⟩), .agg #[.pointer (some ⟨(ds[i]).1, 0, none⟩), .pointer (some ⟨(ds[i]).2, 0, none⟩)], .agg #[.int .i64 11, .int .i64 e, .int .i64 a, .int .i64 b, .string st, .string tt, vl, vm]] w2 (fun r w' => r = .returned (.bool true) ∧ R (.returned (.bool true)) w')) :
    Calls Tryz.prog 31 #[.pointer (some ⟨p, 0, none⟩), .agg #[.int .i64 11, .int .i64 e, .int .i64 a, .int .i64 b, .string st, .string tt, vl, vm]] w R := by
  obtain ⟨g, cap, hvL, hcap, hgl, hcells⟩ := duos_row h.rowL h0
  have hk1 : Kp (fun _ => False) w (w.alloc (.cells #[.int .i64 11, .int .i64 e, .int .i64 a, .int .i64 b, .string st, .string tt, vl, vm] 71)) := Kp.alloc _ _ _
  have lp : p < w.heap.size := block_lt h.book.world
  have c0 : w.cell? ⟨p, 0, none⟩ = some vL := cell_of h.book.world 0
  rw [hvL] at c0
  have d0 := (hk1.cell (a := ⟨p, 0, none⟩) lp (fun h => h)).trans c0
  have hil := pickN_lt e ds.length h0
  have e0 := (hk1.cell (a := ⟨g, pickN e ds.length * 2, none⟩) hgl (fun h => h)).trans (hcells _ hil).1
  have e1 := (hk1.cell (a := ⟨g, pickN e ds.length * 2 + 1, none⟩) hgl (fun h => h)).trans (hcells _ hil).2
  have z1 : (w.alloc (.cells #[.int .i64 11, .int .i64 e, .int .i64 a, .int .i64 b, .string st, .string tt, vl, vm] 71)).cell? ⟨w.heap.size, 1, none⟩ = some (.int .i64 e) := cell_of (heap_alloc_new w _) 1
  have hil' : (pickN e ds.length : Int) < ds.length := by omega
  have ng1 : g ≠ w.heap.size + 1 := by omega
  have np1 : p ≠ w.heap.size + 1 := by omega
  have hn1 := h.nds
  have hdl : (ds.length : Int) < 1000000 := by omega
  have HCALL := hid_of (fun w2 (k : Kp (fun _ => False) w w2) => hC w2 _ hil k)
  have HE := hid_of he
  have H0 := hid_of h0
  have HLT : Hid (ds.length < 1000000000) := by show _ < _; omega
  generalize hds : ds[pickN e ds.length] = d at *
  clear hds hil
  generalize hpi : pickN e ds.length = i at *
  clear h hC hcells hvL hk1 he hnt hn1 h0 c0 lp hgl
  go_enter Tryz.func31, Tryz.ntmps31
  go_wp2
  go_region_held3 (fun w' => w'.cell? ⟨p, 0, none⟩ = some (.slice (some ⟨g, 0, none⟩) ds.length cap) ∧ w'.cell? ⟨w.heap.size, 1, none⟩ = some (.int .i64 e) ∧ w'.cell? ⟨g, i * 2, none⟩ = some (.pointer (some ⟨d.1, 0, none⟩)) ∧ w'.cell? ⟨g, i * 2 + 1, none⟩ = some (.pointer (some ⟨d.2, 0, none⟩))) (go_keep) ((go_at_call 60; refine pick_any e ds.length _ HE.out H0.out HLT.out ?_; rw [hpi]))
  all_goals
    go_wp2_with (first
      | (go_at_call 62; refine (HCALL.out _ ?_).mono ?_; (exact ((Kp.alloc _ _ _).trans (Kp.alloc (fun _ => False) _ _) (fun _ _ h => h)).trans (Kp.drew (fun _ => False) _) (fun _ _ h => h)); rintro r w'' ⟨rfl, hr⟩)
      | fail)
    exact hr

set_option maxRecDepth 20000 in
set_option maxHeartbeats 2000000 in
theorem step_12 (h : Inv own w p ds vL vP vK bk nt) (h0 : 0 < ds.length) (hnt : nt < 1000000) (e a b : Int) (he : -9223372036854775808 ≤ e ∧ e ≤ 9223372036854775807) (st tt : ByteArray) (vl vm : Value)
    (hC : ∀ w2 (i : Nat) (hi : i < ds.length), Kp (fun _ => False) w w2 → Calls Tryz.prog 62 #[.pointer (some ⟨p, 0, none⟩), .agg #[.pointer (some ⟨(ds[i]).1, 0, none⟩), .pointer (some ⟨(ds[i]).2, 0, none⟩)], .agg #[.int .i64 12, .int .i64 e, .int .i64 a, .int .i64 b, .string st, .string tt, vl, vm]] w2 (fun r w' => r = .returned (.bool true) ∧ R (.returned (.bool true)) w')) :
    Calls Tryz.prog 31 #[.pointer (some ⟨p, 0, none⟩), .agg #[.int .i64 12, .int .i64 e, .int .i64 a, .int .i64 b, .string st, .string tt, vl, vm]] w R := by
  obtain ⟨g, cap, hvL, hcap, hgl, hcells⟩ := duos_row h.rowL h0
  have hk1 : Kp (fun _ => False) w (w.alloc (.cells #[.int .i64 12, .int .i64 e, .int .i64 a, .int .i64 b, .string st, .string tt, vl, vm] 71)) := Kp.alloc _ _ _
  have lp : p < w.heap.size := block_lt h.book.world
  have c0 : w.cell? ⟨p, 0, none⟩ = some vL := cell_of h.book.world 0
  rw [hvL] at c0
  have d0 := (hk1.cell (a := ⟨p, 0, none⟩) lp (fun h => h)).trans c0
  have hil := pickN_lt e ds.length h0
  have e0 := (hk1.cell (a := ⟨g, pickN e ds.length * 2, none⟩) hgl (fun h => h)).trans (hcells _ hil).1
  have e1 := (hk1.cell (a := ⟨g, pickN e ds.length * 2 + 1, none⟩) hgl (fun h => h)).trans (hcells _ hil).2
  have z1 : (w.alloc (.cells #[.int .i64 12, .int .i64 e, .int .i64 a, .int .i64 b, .string st, .string tt, vl, vm] 71)).cell? ⟨w.heap.size, 1, none⟩ = some (.int .i64 e) := cell_of (heap_alloc_new w _) 1
  have hil' : (pickN e ds.length : Int) < ds.length := by omega
  have ng1 : g ≠ w.heap.size + 1 := by omega
  have np1 : p ≠ w.heap.size + 1 := by omega
  have hn1 := h.nds
  have hdl : (ds.length : Int) < 1000000 := by omega
  have HCALL := hid_of (fun w2 (k : Kp (fun _ => False) w w2) => hC w2 _ hil k)
  have HE := hid_of he
  have H0 := hid_of h0
  have HLT : Hid (ds.length < 1000000000) := by show _ < _; omega
  generalize hds : ds[pickN e ds.length] = d at *
  clear hds hil
  generalize hpi : pickN e ds.length = i at *
  clear h hC hcells hvL hk1 he hnt hn1 h0 c0 lp hgl
  go_enter Tryz.func31, Tryz.ntmps31
  go_wp2
  go_region_held3 (fun w' => w'.cell? ⟨p, 0, none⟩ = some (.slice (some ⟨g, 0, none⟩) ds.length cap) ∧ w'.cell? ⟨w.heap.size, 1, none⟩ = some (.int .i64 e) ∧ w'.cell? ⟨g, i * 2, none⟩ = some (.pointer (some ⟨d.1, 0, none⟩)) ∧ w'.cell? ⟨g, i * 2 + 1, none⟩ = some (.pointer (some ⟨d.2, 0, none⟩))) (go_keep) ((go_at_call 60; refine pick_any e ds.length _ HE.out H0.out HLT.out ?_; rw [hpi]))
  all_goals
    go_wp2_with (first
      | (go_at_call 62; refine (HCALL.out _ ?_).mono ?_; (exact ((Kp.alloc _ _ _).trans (Kp.alloc (fun _ => False) _ _) (fun _ _ h => h)).trans (Kp.drew (fun _ => False) _) (fun _ _ h => h)); rintro r w'' ⟨rfl, hr⟩)
      | fail)
    exact hr

set_option maxRecDepth 20000 in
set_option maxHeartbeats 2000000 in
theorem step_13 (h : Inv own w p ds vL vP vK bk nt) (h0 : 0 < ds.length) (hnt : nt < 1000000) (e a b : Int) (he : -9223372036854775808 ≤ e ∧ e ≤ 9223372036854775807) (st tt : ByteArray) (vl vm : Value)
    (hC : ∀ w2 (i : Nat) (hi : i < ds.length), Kp (fun _ => False) w w2 → Calls Tryz.prog 62 #[.pointer (some ⟨p, 0, none⟩), .agg #[.pointer (some ⟨(ds[i]).1, 0, none⟩), .pointer (some ⟨(ds[i]).2, 0, none⟩)], .agg #[.int .i64 13, .int .i64 e, .int .i64 a, .int .i64 b, .string st, .string tt, vl, vm]] w2 (fun r w' => r = .returned (.bool true) ∧ R (.returned (.bool true)) w')) :
    Calls Tryz.prog 31 #[.pointer (some ⟨p, 0, none⟩), .agg #[.int .i64 13, .int .i64 e, .int .i64 a, .int .i64 b, .string st, .string tt, vl, vm]] w R := by
  obtain ⟨g, cap, hvL, hcap, hgl, hcells⟩ := duos_row h.rowL h0
  have hk1 : Kp (fun _ => False) w (w.alloc (.cells #[.int .i64 13, .int .i64 e, .int .i64 a, .int .i64 b, .string st, .string tt, vl, vm] 71)) := Kp.alloc _ _ _
  have lp : p < w.heap.size := block_lt h.book.world
  have c0 : w.cell? ⟨p, 0, none⟩ = some vL := cell_of h.book.world 0
  rw [hvL] at c0
  have d0 := (hk1.cell (a := ⟨p, 0, none⟩) lp (fun h => h)).trans c0
  have hil := pickN_lt e ds.length h0
  have e0 := (hk1.cell (a := ⟨g, pickN e ds.length * 2, none⟩) hgl (fun h => h)).trans (hcells _ hil).1
  have e1 := (hk1.cell (a := ⟨g, pickN e ds.length * 2 + 1, none⟩) hgl (fun h => h)).trans (hcells _ hil).2
  have z1 : (w.alloc (.cells #[.int .i64 13, .int .i64 e, .int .i64 a, .int .i64 b, .string st, .string tt, vl, vm] 71)).cell? ⟨w.heap.size, 1, none⟩ = some (.int .i64 e) := cell_of (heap_alloc_new w _) 1
  have hil' : (pickN e ds.length : Int) < ds.length := by omega
  have ng1 : g ≠ w.heap.size + 1 := by omega
  have np1 : p ≠ w.heap.size + 1 := by omega
  have hn1 := h.nds
  have hdl : (ds.length : Int) < 1000000 := by omega
  have HCALL := hid_of (fun w2 (k : Kp (fun _ => False) w w2) => hC w2 _ hil k)
  have HE := hid_of he
  have H0 := hid_of h0
  have HLT : Hid (ds.length < 1000000000) := by show _ < _; omega
  generalize hds : ds[pickN e ds.length] = d at *
  clear hds hil
  generalize hpi : pickN e ds.length = i at *
  clear h hC hcells hvL hk1 he hnt hn1 h0 c0 lp hgl
  go_enter Tryz.func31, Tryz.ntmps31
  go_wp2
  go_region_held3 (fun w' => w'.cell? ⟨p, 0, none⟩ = some (.slice (some ⟨g, 0, none⟩) ds.length cap) ∧ w'.cell? ⟨w.heap.size, 1, none⟩ = some (.int .i64 e) ∧ w'.cell? ⟨g, i * 2, none⟩ = some (.pointer (some ⟨d.1, 0, none⟩)) ∧ w'.cell? ⟨g, i * 2 + 1, none⟩ = some (.pointer (some ⟨d.2, 0, none⟩))) (go_keep) ((go_at_call 60; refine pick_any e ds.length _ HE.out H0.out HLT.out ?_; rw [hpi]))
  all_goals
    go_wp2_with (first
      | (go_at_call 62; refine (HCALL.out _ ?_).mono ?_; (exact ((Kp.alloc _ _ _).trans (Kp.alloc (fun _ => False) _ _) (fun _ _ h => h)).trans (Kp.drew (fun _ => False) _) (fun _ _ h => h)); rintro r w'' ⟨rfl, hr⟩)
      | fail)
    exact hr

set_option maxRecDepth 20000 in
set_option maxHeartbeats 2000000 in
theorem step_14 (h : Inv own w p ds vL vP vK bk nt) (h0 : 0 < ds.length) (hnt : nt < 1000000) (e a b : Int) (he : -9223372036854775808 ≤ e ∧ e ≤ 9223372036854775807) (st tt : ByteArray) (vl vm : Value)
    (hC : ∀ w2 (i : Nat) (hi : i < ds.length), Kp (fun _ => False) w w2 → Calls Tryz.prog 62 #[.pointer (some ⟨p, 0, none⟩), .agg #[.pointer (some ⟨(ds[i]).1, 0, none⟩), .pointer (some ⟨(ds[i]).2, 0, none⟩)], .agg #[.int .i64 14, .int .i64 e, .int .i64 a, .int .i64 b, .string st, .string tt, vl, vm]] w2 (fun r w' => r = .returned (.bool true) ∧ R (.returned (.bool true)) w')) :
    Calls Tryz.prog 31 #[.pointer (some ⟨p, 0, none⟩), .agg #[.int .i64 14, .int .i64 e, .int .i64 a, .int .i64 b, .string st, .string tt, vl, vm]] w R := by
  obtain ⟨g, cap, hvL, hcap, hgl, hcells⟩ := duos_row h.rowL h0
  have hk1 : Kp (fun _ => False) w (w.alloc (.cells #[.int .i64 14, .int .i64 e, .int .i64 a, .int .i64 b, .string st, .string tt, vl, vm] 71)) := Kp.alloc _ _ _
  have lp : p < w.heap.size := block_lt h.book.world
  have c0 : w.cell? ⟨p, 0, none⟩ = some vL := cell_of h.book.world 0
  rw [hvL] at c0
  have d0 := (hk1.cell (a := ⟨p, 0, none⟩) lp (fun h => h)).trans c0
  have hil := pickN_lt e ds.length h0
  have e0 := (hk1.cell (a := ⟨g, pickN e ds.length * 2, none⟩) hgl (fun h => h)).trans (hcells _ hil).1
  have e1 := (hk1.cell (a := ⟨g, pickN e ds.length * 2 + 1, none⟩) hgl (fun h => h)).trans (hcells _ hil).2
  have z1 : (w.alloc (.cells #[.int .i64 14, .int .i64 e, .int .i64 a, .int .i64 b, .string st, .string tt, vl, vm] 71)).cell? ⟨w.heap.size, 1, none⟩ = some (.int .i64 e) := cell_of (heap_alloc_new w _) 1
  have hil' : (pickN e ds.length : Int) < ds.length := by omega
  have ng1 : g ≠ w.heap.size + 1 := by omega
  have np1 : p ≠ w.heap.size + 1 := by omega
  have hn1 := h.nds
  have hdl : (ds.length : Int) < 1000000 := by omega
  have HCALL := hid_of (fun w2 (k : Kp (fun _ => False) w w2) => hC w2 _ hil k)
  have HE := hid_of he
  have H0 := hid_of h0
  have HLT : Hid (ds.length < 1000000000) := by show _ < _; omega
  generalize hds : ds[pickN e ds.length] = d at *
  clear hds hil
  generalize hpi : pickN e ds.length = i at *
  clear h hC hcells hvL hk1 he hnt hn1 h0 c0 lp hgl
  go_enter Tryz.func31, Tryz.ntmps31
  go_wp2
  go_region_held3 (fun w' => w'.cell? ⟨p, 0, none⟩ = some (.slice (some ⟨g, 0, none⟩) ds.length cap) ∧ w'.cell? ⟨w.heap.size, 1, none⟩ = some (.int .i64 e) ∧ w'.cell? ⟨g, i * 2, none⟩ = some (.pointer (some ⟨d.1, 0, none⟩)) ∧ w'.cell? ⟨g, i * 2 + 1, none⟩ = some (.pointer (some ⟨d.2, 0, none⟩))) (go_keep) ((go_at_call 60; refine pick_any e ds.length _ HE.out H0.out HLT.out ?_; rw [hpi]))
  all_goals
    go_wp2_with (first
      | (go_at_call 62; refine (HCALL.out _ ?_).mono ?_; (exact ((Kp.alloc _ _ _).trans (Kp.alloc (fun _ => False) _ _) (fun _ _ h => h)).trans (Kp.drew (fun _ => False) _) (fun _ _ h => h)); rintro r w'' ⟨rfl, hr⟩)
      | fail)
    exact hr

end

end Go.Proofs.YthbdpfccfcceiaaGreatDoor

namespace Go.Proofs.YthbdpfccfcceiaaGreatDoor
open Go.RowKit

def horY (s : YS) (n : Int) : YS := { s with hor := n }

/-- A transaction that is not over sees less than a moment. -/
def PinY (s : YS) (t : Int) : Prop := ∃ i, ∃ hi : i < s.txs.length, (s.txs[i]).over = false ∧ (s.txs[i]).sees < t

theorem four_new2 (w : World) (p : Nat) (t : Int) (o : Obj) (x1 x2 x3 x4 : Value) (u : TypeId) : ∀ j q, [x1, x2, x3, x4][j]? = some q → (((w.setCell ⟨p, 1, none⟩ (.int .i64 t)).alloc o).alloc (.cells #[x1, x2, x3, x4] u)).cell? ((⟨w.heap.size + 1, 0, none⟩ : Addr).add j) = some q := by
  have h := four_new ((w.setCell ⟨p, 1, none⟩ (.int .i64 t)).alloc o) x1 x2 x3 x4 u
  have e : ((w.setCell ⟨p, 1, none⟩ (.int .i64 t)).alloc o).heap.size = w.heap.size + 1 := by simp [World.setCell]
  rw [e] at h
  exact h

section
variable {own own' : Nat → Lab} {c : Nat} {w w' : World} {p : Nat} {s : YS} {vL vT vG : Value} {sv lg : List Value}
variable {R : Ending → World → Prop}

theorem YR.setHor (h : YR own c w p s vL vT vG sv lg) (n : Int) : YR own c (w.setCell ⟨p, 1, none⟩ (.int .i64 n)) p (horY s n) vL vT vG sv lg := by
  have hb : ∀ b, b ≠ p → (w.setCell ⟨p, 1, none⟩ (.int .i64 n)).heap[b]? = w.heap[b]? := fun b hb => Below.heap_setCell w _ _ b hb
  refine ⟨h.ownP, ?_, ?_, h.ownL, h.len, ?_, h.ownT, fun i hi hj => ?_, h.ownX, ?_, h.ownG⟩
  · rw [heap_setCell_at h.store]; simp [horY]
  · exact ownsRow_block h.rowL (fun b e => hb b (lab_ne2 (own := own) (by rw [h.ownL b e, h.ownP]; simp)))
  · exact ownsRow_block h.rowT (fun b e => hb b (lab_ne2 (own := own) (by rw [h.ownT b e, h.ownP]; simp)))
  · exact ownsRow_block (h.rowX i hi hj) (fun b e => hb b (lab_ne2 (own := own) (by rw [h.ownX i hj b e, h.ownP]; simp)))
  · exact ownsRow_block h.rowG (fun b e => hb b (lab_ne2 (own := own) (by rw [h.ownG b e, h.ownP]; simp)))

set_option maxRecDepth 20000 in
set_option maxHeartbeats 4000000 in
theorem y_retain (h : YR own c w p s vL vT vG sv lg) (hB : YB s) (hbk : s.bku = .slice none 0 0) (t : Int) (hlg : lg.length < 1000000) (hh : 0 ≤ s.hor) (hn : s.now ≤ 2000)
    (h1 : t < s.hor ∨ s.now < t → R (.returned (.int .i64 1)) w)
    (h2 : ¬ t < s.hor → ¬ s.now < t → PinY s t → R (.returned (.int .i64 8)) w)
    (h3 : ¬ s.now < t → ¬ PinY s t → t = s.hor → R (.returned (.int .i64 0)) w)
    (h4 : ¬ s.now < t → ¬ PinY s t → s.hor < t → ∀ w' own' vG' x, Kp (fun b => (own b).c = c) w w' → (∀ b, b < w.heap.size → own' b = own b) → YR own' c w' p (horY s t) vL vT vG' sv (lg ++ [x]) → R (.returned (.int .i64 0)) w') :
    Calls Tryz.prog 110 #[.pointer (some ⟨p, 0, none⟩), .int .i64 t] w R := by
  have H := hid_of h
  have c1 : w.cell? ⟨p, 1, none⟩ = some (.int .i64 s.hor) := cell_of h.store 1
  have c2 : w.cell? ⟨p, 2, none⟩ = some (.int .i64 s.now) := cell_of h.store 2
  by_cases ha : t < s.hor
  · have HR := h1 (Or.inl ha)
    clear h h1 h2 h3 h4 hB hbk hlg hh hn
    go_enter Tryz.func110, Tryz.ntmps110
    go_wp2
    exact HR
  · by_cases hb : s.now < t
    · have HR := h1 (Or.inr hb)
      clear h h1 h2 h3 h4 hB hbk hlg hh hn
      go_enter Tryz.func110, Tryz.ntmps110
      go_wp2
      exact HR
    · obtain ⟨aT, capT, hvT, _⟩ := row_len h.rowT
      have c3 : w.cell? ⟨p, 3, none⟩ = some (.slice aT s.txs.length capT) := (cell_of h.store 3).trans (by rw [hvT]; rfl)
      have c6 : w.cell? ⟨p, 6, none⟩ = some (.slice none 0 0) := (cell_of h.store 6).trans (by rw [hbk]; rfl)
      have HH2 := hid_of (h2 ha hb)
      have HH3 := hid_of (h3 hb)
      have HH4 := hid_of (h4 hb)
      have HVT := hid_of hvT
      have htl : (s.txs.length : Int) < 1000000000000 := by have := hB.txs; omega
      have HLG := hid_of hlg
      have HHN := hid_of (And.intro hh hn)
      clear h h1 h2 h3 h4 hB hbk hlg hh hn hvT
      go_enter Tryz.func110, Tryz.ntmps110
      go_wp2
      go_loopw [5] (fun v5 wr => ∃ i : Nat, i ≤ s.txs.length ∧ v5 = .int .i64 i ∧ wr = w ∧ ∀ k (hk : k < s.txs.length), k < i → ¬ ((s.txs[k]).over = false ∧ (s.txs[k]).sees < t)) (fun v5 _ => s.txs.length - (intOf v5).toNat)
      case atStart => exact ⟨0, Nat.zero_le _, rfl, rfl, fun k _ hk => absurd hk (by omega)⟩
      case round =>
        obtain ⟨i, hile, rfl, hww, hno⟩ := hrel
        rw [hww]
        clear hww
        have HNO := hid_of hno
        clear hno
        by_cases hin : i < s.txs.length
        · have hin' : (i : Int) < s.txs.length := by omega
          obtain ⟨g, cap, hv, q0, q1, q2, q3, q4⟩ := H.out.txAt i hin
          clear q2 q3 q4
          rw [HVT.out] at hv
          injection hv with hv1 _ _
          subst hv1
          have HIN := hid_of hin
          generalize hov : (s.txs[i]).over = ov at q0
          generalize hse : (s.txs[i]).sees = se at q1
          have HOV := hid_of hov
          have HSE := hid_of hse
          clear hov hse hin hile
          cases ov with
          | true =>
            go_wp2
            go_roundw
            case rel =>
              refine ⟨i + 1, by have := HIN.out; omega, by go_num, by first | rfl | trivial, fun k hk hki => ?_⟩
              by_cases hk2 : k = i
              · subst hk2
                intro h
                exact Bool.noConfusion (h.1.symm.trans HOV.out)
              · exact HNO.out k hk (by omega)
            case measure => have := HIN.out; simp [intOf]; omega
          | false =>
            by_cases hlt : se < t
            · have HF := hid_of (HH2.out ⟨i, HIN.out, HOV.out, by have e : (s.txs[i]'HIN.out).sees = se := HSE.out; omega⟩)
              go_wp2
              exact HF.out
            · go_wp2
              go_roundw
              case rel =>
                refine ⟨i + 1, by have := HIN.out; omega, by go_num, by first | rfl | trivial, fun k hk hki => ?_⟩
                by_cases hk2 : k = i
                · subst hk2
                  intro h
                  have e : (s.txs[k]).sees = se := HSE.out
                  have h2 := h.2
                  omega
                · exact HNO.out k hk (by omega)
              case measure => have := HIN.out; simp [intOf]; omega
        · have hnl : ¬ (i : Int) < s.txs.length := by omega
          have hnp : ¬ PinY s t := fun ⟨k, hk, h1, h2⟩ => HNO.out k hk (by omega) ⟨h1, h2⟩
          have HNP := hid_of hnp
          clear hin hile hnp
          go_wp2
          go_loopw [6] (fun v6 wr => v6 = .int .i64 0 ∧ wr = w) (fun _ _ => 0)
          case atStart => exact ⟨rfl, rfl⟩
          case round =>
            obtain ⟨rfl, hww⟩ := hrel
            rw [hww]
            clear hww
            by_cases heq : s.hor < t
            · have hf1 : w.frozen? ⟨p, 1, none⟩ = false := frozen_of H.out.store 1
              obtain ⟨iU, hU⟩ := info_parts infoByte
              have HIU := hid_of hU
              obtain ⟨iB, hB⟩ := info_parts infoBytes
              have HIB := hid_of hB
              have HY1 := hid_of (H.out.setHor t)
              have H4 := hid_of (HH4.out HNP.out heq)
              have HT0 : Hid (0 ≤ t ∧ t ≤ 10000) := ⟨by have := HHN.out.1; omega, by have := HHN.out.2; omega⟩
              have LP : Hid (p < w.heap.size) := block_lt H.out.store
              have NPG : Hid (vG.ownBlock ≠ some p) := fun e => by
                have := H.out.ownG p e
                rw [H.out.ownP] at this; simp at this
              have HS1 : Hid ((w.setCell ⟨p, 1, none⟩ (.int .i64 t)).heap.size = w.heap.size) := by show _ = _; simp [World.setCell]
              have ROW0 : Hid (((w.setCell ⟨p, 1, none⟩ (.int .i64 t)).alloc (.cells #[.int .u8 72] 5)).ownsRow 0 5 1 (.slice (some ⟨w.heap.size, 0, none⟩) 1 1) 1 [.int .u8 72]) := by
                have e := heap_alloc_new (w.setCell ⟨p, 1, none⟩ (.int .i64 t)) (.cells #[.int .u8 72] 5)
                rw [HS1.out] at e
                exact ⟨by simp, Or.inr ⟨w.heap.size, 1, #[.int .u8 72], rfl, Nat.zero_le _, e, Nat.le_refl _, by unfold maxLen; omega, by simp, by simp⟩⟩
              clear hU hB
              go_wp2_with (first
                | (go_at_call 161; refine four_any t _ HT0.out.1 HT0.out.2 (fun a b c d => ?_))
                | (at_builtin; refine wpL_append_keep rfl _ _ 48 rfl 0 5 iU (.int .u8 0) 1 1 Tryz.underlying48 HIU.out.1 HIU.out.2.1 HIU.out.2.2.1 HIU.out.2.2.2 rfl (by decide) _ _ _ rfl (ROW0.out.alloc _) ⟨w.heap.size + 1, 0, none⟩ 4 4 [.int .u8 a, .int .u8 b, .int .u8 c, .int .u8 d] rfl rfl ?_ (by simp [Value.oneCell']) (by decide) (by decide) (Nat.zero_le _) (by decide) ?_; (exact four_new2 w p t _ _ _ _ _ _); intro v2 w2 own2 grow2 loc2 keep2; have hk2 := ((Kp.alloc (fun b => b = w.heap.size) (w.setCell ⟨p, 1, none⟩ (.int .i64 t)) (.cells #[.int .u8 72] 5)).trans (Kp.alloc (fun b => b = w.heap.size) _ (.cells #[.int .u8 a, .int .u8 b, .int .u8 c, .int .u8 d] 5)) (fun _ _ h => h)).trans (Kp.of_grown (S := fun b => b = w.heap.size) grow2 (fun k h => by injection h with h; exact h.symm)) (fun _ _ h => h); have hp1 := heap_setCell_at (i := 1) H.out.store (.int .i64 t); have hp2 := mbs hk2 hp1 (fun h => by have := LP.out; omega); have y4 : w2.cell? ⟨p, 4, none⟩ = some vG := cell_of hp2 4; obtain ⟨a2, cap2, rfl, _⟩ := row_len own2; have HK2 := hid_of hk2; have HP2 := hid_of hp2; have RG := hid_of (ownsRow_kp HY1.out.rowG hk2 (fun b hb h => by have h1 := (H.out.rowG.lt b hb).2; omega)); clear hk2 hp1 hp2 own2 grow2 loc2 keep2)
                | (at_builtin; refine wpL_append_keep rfl _ _ 37 rfl 0 48 iB (.slice none 0 0) 1 24 Tryz.underlying37 HIB.out.1 HIB.out.2.1 HIB.out.2.2.1 HIB.out.2.2.2 rfl (by decide) _ _ _ rfl (RG.out.alloc _) ⟨w2.heap.size, 0, none⟩ 1 1 [.slice a2 5 cap2] rfl rfl (cell_one_new _ _ _) (by simp [Value.oneCell']) (by have := HLG.out; unfold maxLen; omega) (by have := HLG.out; omega) (Nat.zero_le _) (by decide) ?_; intro v3 w3 own3 grow3 loc3 keep3; have hk3 := after_app (S := fun b => vG.ownBlock = some b) grow3 (fun _ h => h); have hp3 := mbs hk3 HP2.out NPG.out; have y4 : w3.cell? ⟨p, 4, none⟩ = some vG := cell_of hp3 4; have yf4 := frozen_of hp3 4; obtain ⟨a3, cap3, rfl, _⟩ := row_len own3; have HO3 := hid_of own3; have HG3 := hid_of grow3; have HL3 := hid_of loc3; have HK3 := hid_of hk3; clear hk3 hp3 own3 grow3 loc3 keep3)
                | fail)
              have s2 := HK2.out.size
              rw [HS1.out] at s2
              have Y2 : YR own _ (w2.alloc (.cells #[.slice a2 5 cap2] 48)) p (horY s t) vL vT vG sv lg := HY1.out.frame (fun b hb _ => by
                rw [HS1.out] at hb
                rw [Below.heap_alloc _ _ _ (by omega)]
                exact HK2.out.block b (by rw [HS1.out]; exact hb) (by omega)) (fun _ _ _ => rfl)
              have Y3 := Y2.addLog (Kp.of_grown (S := fun b => vG.ownBlock = some b) HG3.out (fun _ h => h)) (.slice a2 5 cap2) HO3.out (HL3.out.imp id (fun h => ⟨_, h, Nat.le_refl _⟩))
              have kk : Kp (fun b => (own b).c = _) w (w3.setCell ⟨p, 4, none⟩ (.slice a3 (lg.length + 1) cap3)) :=
                (((Kp.setCell (S := fun b => (own b).c = _) w ⟨p, 1, none⟩ (.int .i64 t) (by show (own p).c = _; rw [H.out.ownP])).trans HK2.out (fun b hb h => by omega)).trans HK3.out (fun b hb h => by show (own b).c = _; rw [H.out.ownG b h])).trans (Kp.setCell (S := fun b => b = p) w3 ⟨p, 4, none⟩ _ rfl) (fun b hb h => by show (own b).c = _; rw [h, H.out.ownP])
              have HF := hid_of (H4.out _ _ _ _ kk (fun b hb => Y3.2 b (by simp; omega)) Y3.1)
              clear Y2 Y3 kk s2
              go_wp2_with fail
              exact HF.out
            · have HF := hid_of (HH3.out HNP.out (by omega))
              go_wp2
              exact HF.out

end

end Go.Proofs.YthbdpfccfcceiaaGreatDoor
