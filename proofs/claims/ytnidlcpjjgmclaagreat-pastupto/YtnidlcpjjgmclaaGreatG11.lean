/-
  One step of the law's script of the kinds of stage 2, on whichever pair of stores: it makes the call that those kinds make.
-/
import Derived.Test.YtnidlcpjjgmclaaGreatG6
namespace Go.Proofs.YtnidlcpjjgmclaaGreat
open Go.RowKit

section
variable {own : Nat → Lab} {w : World} {p nt : Nat} {ds : List (Nat × Nat)} {vL vP vK : Value} {bk : List (Value × Nat × Int)}
variable {R : Ending → World → Prop}

set_option maxRecDepth 20000 in
set_option maxHeartbeats 2000000 in
theorem step_10 (h : Inv own w p ds vL vP vK bk nt) (h0 : 0 < ds.length) (hnt : nt < 1000000) (e a b : Int) (he : -9223372036854775808 ≤ e ∧ e ≤ 9223372036854775807) (st tt : ByteArray) (vl vm : Value)
    (hC : ∀ w2 (i : Nat) (hi : i < ds.length), Kp (fun _ => False) w w2 → Calls Tryz.prog 15 #[.pointer (some ⟨p, 0, none⟩), .agg #[.pointer (some ⟨(ds[i]).1, 0, none⟩), .pointer (some ⟨(ds[i]).2, 0, none⟩)], .agg #[.int .i64 10, .int .i64 e, .int .i64 a, .int .i64 b, .string st, .string tt, vl, vm]] w2 (fun r w' => r = .returned (.bool true) ∧ R (.returned (.bool true)) w')) :
    Calls Tryz.prog 7 #[.pointer (some ⟨p, 0, none⟩), .agg #[.int .i64 10, .int .i64 e, .int .i64 a, .int .i64 b, .string st, .string tt, vl, vm]] w R := by
  obtain ⟨g, cap, hvL, hcap, hgl, hcells⟩ := duos_row h.rowL h0
  have hk1 : Kp (fun _ => False) w (w.alloc (.cells #[.int .i64 10, .int .i64 e, .int .i64 a, .int .i64 b, .string st, .string tt, vl, vm] 38)) := Kp.alloc _ _ _
  have lp : p < w.heap.size := block_lt h.book.world
  have c0 : w.cell? ⟨p, 0, none⟩ = some vL := cell_of h.book.world 0
  rw [hvL] at c0
  have d0 := (hk1.cell (a := ⟨p, 0, none⟩) lp (fun h => h)).trans c0
  have hil := pickN_lt e ds.length h0
  have e0 := (hk1.cell (a := ⟨g, pickN e ds.length * 2, none⟩) hgl (fun h => h)).trans (hcells _ hil).1
  have e1 := (hk1.cell (a := ⟨g, pickN e ds.length * 2 + 1, none⟩) hgl (fun h => h)).trans (hcells _ hil).2
  have z1 : (w.alloc (.cells #[.int .i64 10, .int .i64 e, .int .i64 a, .int .i64 b, .string st, .string tt, vl, vm] 38)).cell? ⟨w.heap.size, 1, none⟩ = some (.int .i64 e) := cell_of (heap_alloc_new w _) 1
  have hil' : (pickN e ds.length : Int) < ds.length := by omega
  have ng1 : g ≠ w.heap.size + 1 := by omega
  have np1 : p ≠ w.heap.size + 1 := by omega
  have hn1 := h.nds
  have hdl : (ds.length : Int) < 1000000 := by omega
  have HCALL := hid_of (fun w2 (k : Kp (fun _ => False) w w2) => hC w2 _ hil k)
  have HE := hid_of he
  have H0 := hid_of h0
  have HLT : Hid (ds.length < 1000000000) := by show _ < _; omega
  generalize hds : ds[pickN e ds.length] = d at *
  clear hds hil
  generalize hpi : pickN e ds.length = i at *
  clear h hC hcells hvL hk1 he hnt hn1 h0 c0 lp hgl
  go_enter Tryz.func7, Tryz.ntmps7
  go_wp2
  go_region_held3 (fun w' => w'.cell? ⟨p, 0, none⟩ = some (.slice (some ⟨g, 0, none⟩) ds.length cap) ∧ w'.cell? ⟨w.heap.size, 1, none⟩ = some (.int .i64 e) ∧ w'.cell? ⟨g, i * 2, none⟩ = some (.pointer (some ⟨d.1, 0, none⟩)) ∧ w'.cell? ⟨g, i * 2 + 1, none⟩ = some (.pointer (some ⟨d.2, 0, none⟩))) (go_keep) ((go_at_call 13; refine pick_any e ds.length _ HE.out H0.out HLT.out ?_; rw [hpi]))
  all_goals
    go_wp2_with (first
      | (go_at_call 15; refine (HCALL.out _ ?_).mono ?_; (exact ((Kp.alloc _ _ _).trans (Kp.alloc (fun _ => False) _ _) (fun _ _ h => h)).trans (Kp.drew (fun _ => False) _) (fun _ _ h => h)); rintro r w'' ⟨rfl, hr⟩)
      | fail)
    exact hr

set_option maxRecDepth 20000 in
set_option maxHeartbeats 2000000 in
theorem step_11 (h : Inv own w p ds vL vP vK bk nt) (h0 : 0 < ds.length) (hnt : nt < 1000000) (e a b : Int) (he : -9223372036854775808 ≤ e ∧ e ≤ 9223372036854775807) (st tt : ByteArray) (vl vm : Value)
    (hC : ∀ w2 (i : Nat) (hi : i < ds.length), Kp (fun _ => False) w w2 → Calls Tryz.prog 15 #[.pointer (some ⟨p, 0, none⟩), .agg #[.pointer (some ⟨(ds[i]).1, 0, none⟩), .pointer (some ⟨(ds[i]).2, 0, none⟩)], .agg #[.int .i64 11, .int .i64 e, .int .i64 a, .int .i64 b, .string st, .string tt, vl, vm]] w2 (fun r w' => r = .returned (.bool true) ∧ R (.returned (.bool true)) w')) :
    Calls Tryz.prog 7 #[.pointer (some ⟨p, 0, none⟩), .agg #[.int .i64 11, .int .i64 e, .int .i64 a, .int .i64 b, .string st, .string tt, vl, vm]] w R := by
  obtain ⟨g, cap, hvL, hcap, hgl, hcells⟩ := duos_row h.rowL h0
  have hk1 : Kp (fun _ => False) w (w.alloc (.cells #[.int .i64 11, .int .i64 e, .int .i64 a, .int .i64 b, .string st, .string tt, vl, vm] 38)) := Kp.alloc _ _ _
  have lp : p < w.heap.size := block_lt h.book.world
  have c0 : w.cell? ⟨p, 0, none⟩ = some vL := cell_of h.book.world 0
  rw [hvL] at c0
  have d0 := (hk1.cell (a := ⟨p, 0, none⟩) lp (fun h => h)).trans c0
  have hil := pickN_lt e ds.length h0
  have e0 := (hk1.cell (a := ⟨g, pickN e ds.length * 2, none⟩) hgl (fun h => h)).trans (hcells _ hil).1
  have e1 := (hk1.cell (a := ⟨g, pickN e ds.length * 2 + 1, none⟩) hgl (fun h => h)).trans (hcells _ hil).2
  have z1 : (w.alloc (.cells #[.int .i64 11, .int .i64 e, .int .i64 a, .int .i64 b, .string st, .string tt, vl, vm] 38)).cell? ⟨w.heap.size, 1, none⟩ = some (.int .i64 e) := cell_of (heap_alloc_new w _) 1
  have hil' : (pickN e ds.length : Int) < ds.length := by omega
  have ng1 : g ≠ w.heap.size + 1 := by omega
  have np1 : p ≠ w.heap.size + 1 := by omega
  have hn1 := h.nds
  have hdl : (ds.length : Int) < 1000000 := by omega
  have HCALL := hid_of (fun w2 (k : Kp (fun _ => False) w w2) => hC w2 _ hil k)
  have HE := hid_of he
  have H0 := hid_of h0
  have HLT : Hid (ds.length < 1000000000) := by show _ < _; omega
  generalize hds : ds[pickN e ds.length] = d at *
  clear hds hil
  generalize hpi : pickN e ds.length = i at *
  clear h hC hcells hvL hk1 he hnt hn1 h0 c0 lp hgl
  go_enter Tryz.func7, Tryz.ntmps7
  go_wp2
  go_region_held3 (fun w' => w'.cell? ⟨p, 0, none⟩ = some (.slice (some ⟨g, 0, none⟩) ds.length cap) ∧ w'.cell? ⟨w.heap.size, 1, none⟩ = some (.int .i64 e) ∧ w'.cell? ⟨g, i * 2, none⟩ = some (.pointer (some ⟨d.1, 0, none⟩)) ∧ w'.cell? ⟨g, i * 2 + 1, none⟩ = some (.pointer (some ⟨d.2, 0, none⟩))) (go_keep) ((go_at_call 13; refine pick_any e ds.length _ HE.out H0.out HLT.out ?_; rw [hpi]))
  all_goals
    go_wp2_with (first
      | (go_at_call 15; refine (HCALL.out _ ?_).mono ?_; (exact ((Kp.alloc _ _ _).trans (Kp.alloc (fun _ => False) _ _) (fun _ _ h => h)).trans (Kp.drew (fun _ => False) _) (fun _ _ h => h)); rintro r w'' ⟨rfl, hr⟩)
      | fail)
    exact hr

set_option maxRecDepth 20000 in
set_option maxHeartbeats 2000000 in
theorem step_12 (h : Inv own w p ds vL vP vK bk nt) (h0 : 0 < ds.length) (hnt : nt < 1000000) (e a b : Int) (he : -9223372036854775808 ≤ e ∧ e ≤ 9223372036854775807) (st tt : ByteArray) (vl vm : Value)
    (hC : ∀ w2 (i : Nat) (hi : i < ds.length), Kp (fun _ => False) w w2 → Calls Tryz.prog 15 #[.pointer (some ⟨p, 0, none⟩), .agg #[.pointer (some ⟨(ds[i]).1, 0, none⟩), .pointer (some ⟨(ds[i]).2, 0, none⟩)], .agg #[.int .i64 12, .int .i64 e, .int .i64 a, .int .i64 b, .string st, .string tt, vl, vm]] w2 (fun r w' => r = .returned (.bool true) ∧ R (.returned (.bool true)) w')) :
    Calls Tryz.prog 7 #[.pointer (some ⟨p, 0, none⟩), .agg #[.int .i64 12, .int .i64 e, .int .i64 a, .int .i64 b, .string st, .string tt, vl, vm]] w R := by
  obtain ⟨g, cap, hvL, hcap, hgl, hcells⟩ := duos_row h.rowL h0
  have hk1 : Kp (fun _ => False) w (w.alloc (.cells #[.int .i64 12, .int .i64 e, .int .i64 a, .int .i64 b, .string st, .string tt, vl, vm] 38)) := Kp.alloc _ _ _
  have lp : p < w.heap.size := block_lt h.book.world
  have c0 : w.cell? ⟨p, 0, none⟩ = some vL := cell_of h.book.world 0
  rw [hvL] at c0
  have d0 := (hk1.cell (a := ⟨p, 0, none⟩) lp (fun h => h)).trans c0
  have hil := pickN_lt e ds.length h0
  have e0 := (hk1.cell (a := ⟨g, pickN e ds.length * 2, none⟩) hgl (fun h => h)).trans (hcells _ hil).1
  have e1 := (hk1.cell (a := ⟨g, pickN e ds.length * 2 + 1, none⟩) hgl (fun h => h)).trans (hcells _ hil).2
  have z1 : (w.alloc (.cells #[.int .i64 12, .int .i64 e, .int .i64 a, .int .i64 b, .string st, .string tt, vl, vm] 38)).cell? ⟨w.heap.size, 1, none⟩ = some (.int .i64 e) := cell_of (heap_alloc_new w _) 1
  have hil' : (pickN e ds.length : Int) < ds.length := by omega
  have ng1 : g ≠ w.heap.size + 1 := by omega
  have np1 : p ≠ w.heap.size + 1 := by omega
  have hn1 := h.nds
  have hdl : (ds.length : Int) < 1000000 := by omega
  have HCALL := hid_of (fun w2 (k : Kp (fun _ => False) w w2) => hC w2 _ hil k)
  have HE := hid_of he
  have H0 := hid_of h0
  have HLT : Hid (ds.length < 1000000000) := by show _ < _; omega
  generalize hds : ds[pickN e ds.length] = d at *
  clear hds hil
  generalize hpi : pickN e ds.length = i at *
  clear h hC hcells hvL hk1 he hnt hn1 h0 c0 lp hgl
  go_enter Tryz.func7, Tryz.ntmps7
  go_wp2
  go_region_held3 (fun w' => w'.cell? ⟨p, 0, none⟩ = some (.slice (some ⟨g, 0, none⟩) ds.length cap) ∧ w'.cell? ⟨w.heap.size, 1, none⟩ = some (.int .i64 e) ∧ w'.cell? ⟨g, i * 2, none⟩ = some (.pointer (some ⟨d.1, 0, none⟩)) ∧ w'.cell? ⟨g, i * 2 + 1, none⟩ = some (.pointer (some ⟨d.2, 0, none⟩))) (go_keep) ((go_at_call 13; refine pick_any e ds.length _ HE.out H0.out HLT.out ?_; rw [hpi]))
  all_goals
    go_wp2_with (first
      | (go_at_call 15; refine (HCALL.out _ ?_).mono ?_; (exact ((Kp.alloc _ _ _).trans (Kp.alloc (fun _ => False) _ _) (fun _ _ h => h)).trans (Kp.drew (fun _ => False) _) (fun _ _ h => h)); rintro r w'' ⟨rfl, hr⟩)
      | fail)
    exact hr

set_option maxRecDepth 20000 in
set_option maxHeartbeats 2000000 in
theorem step_13 (h : Inv own w p ds vL vP vK bk nt) (h0 : 0 < ds.length) (hnt : nt < 1000000) (e a b : Int) (he : -9223372036854775808 ≤ e ∧ e ≤ 9223372036854775807) (st tt : ByteArray) (vl vm : Value)
    (hC : ∀ w2 (i : Nat) (hi : i < ds.length), Kp (fun _ => False) w w2 → Calls Tryz.prog 15 #[.pointer (some ⟨p, 0, none⟩), .agg #[.pointer (some ⟨(ds[i]).1, 0, none⟩), .pointer (some ⟨(ds[i]).2, 0, none⟩)], .agg #[.int .i64 13, .int .i64 e, .int .i64 a, .int .i64 b, .string st, .string tt, vl, vm]] w2 (fun r w' => r = .returned (.bool true) ∧ R (.returned (.bool true)) w')) :
    Calls Tryz.prog 7 #[.pointer (some ⟨p, 0, none⟩), .agg #[.int .i64 13, .int .i64 e, .int .i64 a, .int .i64 b, .string st, .string tt, vl, vm]] w R := by
  obtain ⟨g, cap, hvL, hcap, hgl, hcells⟩ := duos_row h.rowL h0
  have hk1 : Kp (fun _ => False) w (w.alloc (.cells #[.int .i64 13, .int .i64 e, .int .i64 a, .int .i64 b, .string st, .string tt, vl, vm] 38)) := Kp.alloc _ _ _
  have lp : p < w.heap.size := block_lt h.book.world
  have c0 : w.cell? ⟨p, 0, none⟩ = some vL := cell_of h.book.world 0
  rw [hvL] at c0
  have d0 := (hk1.cell (a := ⟨p, 0, none⟩) lp (fun h => h)).trans c0
  have hil := pickN_lt e ds.length h0
  have e0 := (hk1.cell (a := ⟨g, pickN e ds.length * 2, none⟩) hgl (fun h => h)).trans (hcells _ hil).1
  have e1 := (hk1.cell (a := ⟨g, pickN e ds.length * 2 + 1, none⟩) hgl (fun h => h)).trans (hcells _ hil).2
  have z1 : (w.alloc (.cells #[.int .i64 13, .int .i64 e, .int .i64 a, .int .i64 b, .string st, .string tt, vl, vm] 38)).cell? ⟨w.heap.size, 1, none⟩ = some (.int .i64 e) := cell_of (heap_alloc_new w _) 1
  have hil' : (pickN e ds.length : Int) < ds.length := by omega
  have ng1 : g ≠ w.heap.size + 1 := by omega
  have np1 : p ≠ w.heap.size + 1 := by omega
  have hn1 := h.nds
  have hdl : (ds.length : Int) < 1000000 := by omega
  have HCALL := hid_of (fun w2 (k : Kp (fun _ => False) w w2) => hC w2 _ hil k)
  have HE := hid_of he
  have H0 := hid_of h0
  have HLT : Hid (ds.length < 1000000000) := by show _ < _; omega
  generalize hds : ds[pickN e ds.length] = d at *
  clear hds hil
  generalize hpi : pickN e ds.length = i at *
  clear h hC hcells hvL hk1 he hnt hn1 h0 c0 lp hgl
  go_enter Tryz.func7, Tryz.ntmps7
  go_wp2
  go_region_held3 (fun w' => w'.cell? ⟨p, 0, none⟩ = some (.slice (some ⟨g, 0, none⟩) ds.length cap) ∧ w'.cell? ⟨w.heap.size, 1, none⟩ = some (.int .i64 e) ∧ w'.cell? ⟨g, i * 2, none⟩ = some (.pointer (some ⟨d.1, 0, none⟩)) ∧ w'.cell? ⟨g, i * 2 + 1, none⟩ = some (.pointer (some ⟨d.2, 0, none⟩))) (go_keep) ((go_at_call 13; refine pick_any e ds.length _ HE.out H0.out HLT.out ?_; rw [hpi]))
  all_goals
    go_wp2_with (first
      | (go_at_call 15; refine (HCALL.out _ ?_).mono ?_; (exact ((Kp.alloc _ _ _).trans (Kp.alloc (fun _ => False) _ _) (fun _ _ h => h)).trans (Kp.drew (fun _ => False) _) (fun _ _ h => h)); rintro r w'' ⟨rfl, hr⟩)
      | fail)
    exact hr

set_option maxRecDepth 20000 in
set_option maxHeartbeats 2000000 in
theorem step_14 (h : Inv own w p ds vL vP vK bk nt) (h0 : 0 < ds.length) (hnt : nt < 1000000) (e a b : Int) (he : -9223372036854775808 ≤ e ∧ e ≤ 9223372036854775807) (st tt : ByteArray) (vl vm : Value)
    (hC : ∀ w2 (i : Nat) (hi : i < ds.length), Kp (fun _ => False) w w2 → Calls Tryz.prog 15 #[.pointer (some ⟨p, 0, none⟩), .agg #[.pointer (some ⟨(ds[i]).1, 0, none⟩), .pointer (some ⟨(ds[i]).2, 0, none⟩)], .agg #[.int .i64 14, .int .i64 e, .int .i64 a, .int .i64 b, .string st, .string tt, vl, vm]] w2 (fun r w' => r = .returned (.bool true) ∧ R (.returned (.bool true)) w')) :
    Calls Tryz.prog 7 #[.pointer (some ⟨p, 0, none⟩), .agg #[.int .i64 14, .int .i64 e, .int .i64 a, .int .i64 b, .string st, .string tt, vl, vm]] w R := by
  obtain ⟨g, cap, hvL, hcap, hgl, hcells⟩ := duos_row h.rowL h0
  have hk1 : Kp (fun _ => False) w (w.alloc (.cells #[.int .i64 14, .int .i64 e, .int .i64 a, .int .i64 b, .string st, .string tt, vl, vm] 38)) := Kp.alloc _ _ _
  have lp : p < w.heap.size := block_lt h.book.world
  have c0 : w.cell? ⟨p, 0, none⟩ = some vL := cell_of h.book.world 0
  rw [hvL] at c0
  have d0 := (hk1.cell (a := ⟨p, 0, none⟩) lp (fun h => h)).trans c0
  have hil := pickN_lt e ds.length h0
  have e0 := (hk1.cell (a := ⟨g, pickN e ds.length * 2, none⟩) hgl (fun h => h)).trans (hcells _ hil).1
  have e1 := (hk1.cell (a := ⟨g, pickN e ds.length * 2 + 1, none⟩) hgl (fun h => h)).trans (hcells _ hil).2
  have z1 : (w.alloc (.cells #[.int .i64 14, .int .i64 e, .int .i64 a, .int .i64 b, .string st, .string tt, vl, vm] 38)).cell? ⟨w.heap.size, 1, none⟩ = some (.int .i64 e) := cell_of (heap_alloc_new w _) 1
  have hil' : (pickN e ds.length : Int) < ds.length := by omega
  have ng1 : g ≠ w.heap.size + 1 := by omega
  have np1 : p ≠ w.heap.size + 1 := by omega
  have hn1 := h.nds
  have hdl : (ds.length : Int) < 1000000 := by omega
  have HCALL := hid_of (fun w2 (k : Kp (fun _ => False) w w2) => hC w2 _ hil k)
  have HE := hid_of he
  have H0 := hid_of h0
  have HLT : Hid (ds.length < 1000000000) := by show _ < _; omega
  generalize hds : ds[pickN e ds.length] = d at *
  clear hds hil
  generalize hpi : pickN e ds.length = i at *
  clear h hC hcells hvL hk1 he hnt hn1 h0 c0 lp hgl
  go_enter Tryz.func7, Tryz.ntmps7
  go_wp2
  go_region_held3 (fun w' => w'.cell? ⟨p, 0, none⟩ = some (.slice (some ⟨g, 0, none⟩) ds.length cap) ∧ w'.cell? ⟨w.heap.size, 1, none⟩ = some (.int .i64 e) ∧ w'.cell? ⟨g, i * 2, none⟩ = some (.pointer (some ⟨d.1, 0, none⟩)) ∧ w'.cell? ⟨g, i * 2 + 1, none⟩ = some (.pointer (some ⟨d.2, 0, none⟩))) (go_keep) ((go_at_call 13; refine pick_any e ds.length _ HE.out H0.out HLT.out ?_; rw [hpi]))
  all_goals
    go_wp2_with (first
      | (go_at_call 15; refine (HCALL.out _ ?_).mono ?_; (exact ((Kp.alloc _ _ _).trans (Kp.alloc (fun _ => False) _ _) (fun _ _ h => h)).trans (Kp.drew (fun _ => False) _) (fun _ _ h => h)); rintro r w'' ⟨rfl, hr⟩)
      | fail)
    exact hr

end

end Go.Proofs.YtnidlcpjjgmclaaGreat
