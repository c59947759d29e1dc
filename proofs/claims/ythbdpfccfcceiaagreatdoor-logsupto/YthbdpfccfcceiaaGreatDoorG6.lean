/-
  One step of the law's script, on whichever pair of stores.
-/
import Derived.Test.YthbdpfccfcceiaaGreatDoorG4G5T4T5
import Derived.Deep.RegionHeld3
namespace Go.Proofs.YthbdpfccfcceiaaGreatDoor
open Go.RowKit

theorem cellsD_len (l : List (Nat × Nat)) : (cellsD l).length = l.length * 2 := by
  induction l with
  | nil => rfl
  | cons a r ih => simp [cellsD] at ih ⊢; omega

theorem cellsD_at : ∀ (l : List (Nat × Nat)) (j : Nat) (hj : j < l.length), (cellsD l)[j * 2]? = some (.pointer (some ⟨l[j].1, 0, none⟩)) ∧ (cellsD l)[j * 2 + 1]? = some (.pointer (some ⟨l[j].2, 0, none⟩))
  | a :: r, 0, _ => by simp [cellsD]
  | a :: r, j + 1, hj => by
    have ih := cellsD_at r j (by simpa using hj)
    have e : cellsD (a :: r) = .pointer (some ⟨a.1, 0, none⟩) :: .pointer (some ⟨a.2, 0, none⟩) :: cellsD r := by simp [cellsD]
    rw [e, show (j + 1) * 2 = j * 2 + 1 + 1 by omega]
    simpa using ih

theorem duos_row {w : World} {v : Value} {l : List (Nat × Nat)} (h : w.ownsRow 0 81 2 v l.length (cellsD l)) (h0 : 0 < l.length) : ∃ g cap, v = .slice (some ⟨g, 0, none⟩) l.length cap ∧ l.length ≤ cap ∧ g < w.heap.size ∧ ∀ j (hj : j < l.length), w.cell? ⟨g, j * 2, none⟩ = some (.pointer (some ⟨l[j].1, 0, none⟩)) ∧ w.cell? ⟨g, j * 2 + 1, none⟩ = some (.pointer (some ⟨l[j].2, 0, none⟩)) := by
  rcases h.2 with ⟨rfl, h1⟩ | ⟨g, cap, cur, rfl, hb, hg, hn, hm, hcs, ht⟩
  · omega
  · refine ⟨g, cap, rfl, hn, block_lt hg, fun j hj => ?_⟩
    have key : ∀ i u, (cellsD l)[i]? = some u → w.cell? ⟨g, i, none⟩ = some u := fun i u hu => by
      have : w.cell? ⟨g, i, none⟩ = cur[i]? := by simp [World.cell?, hg]
      rw [this, ← Array.getElem?_toList]
      rw [← ht, List.getElem?_take] at hu
      split at hu
      · exact hu
      · cases hu
    obtain ⟨a1, a2⟩ := cellsD_at l j hj
    exact ⟨key _ _ a1, key _ _ a2⟩

section
variable {own : Nat → Lab} {w : World} {p nt : Nat} {ds : List (Nat × Nat)} {vL vP vK : Value} {bk : BO}
variable {R : Ending → World → Prop}

/-- A step's call, made in a world in which more was laid since. -/
theorem i_call {w2 : World} {i : Nat} (h : Inv own w p ds vL vP vK bk nt) (k : Kp (fun _ => False) w w2) (hi : i < ds.length) (hnt : nt < 1000000) (kind e a b : Int) (hk : 2 ≤ kind ∧ kind ≤ 9) (ha : -9223372036854775808 ≤ a ∧ a ≤ 9223372036854775807) (st tt : ByteArray) (hst : st.size ≤ maxLen) (htt : tt.size ≤ maxLen) (vl vm : Value)
    (hK : ∀ w' own' vP' vK' bk', Kp (fun b => own b ≠ lab9) w w' → (∀ b, b < w.heap.size → own' b = own b) → Inv own' w' p ds vL vP' vK' bk' (nt + 1) → R (.returned (.bool true)) w') :
    Calls Tryz.prog 61 #[.pointer (some ⟨p, 0, none⟩), .agg #[.pointer (some ⟨(ds[i]).1, 0, none⟩), .pointer (some ⟨(ds[i]).2, 0, none⟩)], .agg #[.int .i64 kind, .int .i64 e, .int .i64 a, .int .i64 b, .string st, .string tt, vl, vm]] w2 R := by
  refine i_txs (h.same (own3 := base9 own w.heap.size) k (fun _ hb => base9_old hb)) hi hnt kind e a b hk ha st tt hst htt vl vm (fun w' own' vP' vK' bk' k2 a2 I => hK w' own' vP' vK' bk' ?_ ?_ I)
  · exact (k.mono (S' := fun b => own b ≠ lab9) (fun _ _ h => h.elim)).trans k2 (fun b hb e => by rw [base9_old hb] at e; exact e)
  · intro b hb
    rw [a2 b (Nat.lt_of_lt_of_le hb k.size), base9_old hb]

set_option maxRecDepth 20000 in
set_option maxHeartbeats 2000000 in
theorem step_2 (h : Inv own w p ds vL vP vK bk nt) (h0 : 0 < ds.length) (hnt : nt < 1000000) (e a b : Int) (he : -9223372036854775808 ≤ e ∧ e ≤ 9223372036854775807) (ha : -9223372036854775808 ≤ a ∧ a ≤ 9223372036854775807) (st tt : ByteArray) (hst : st.size ≤ maxLen) (htt : tt.size ≤ maxLen) (vl vm : Value)
    (hK : ∀ w' own' vP' vK' bk', Kp (fun b => own b ≠ lab9) w w' → (∀ b, b < w.heap.size → own' b = own b) → Inv own' w' p ds vL vP' vK' bk' (nt + 1) → R (.returned (.bool true)) w') :
    Calls Tryz.prog 31 #[.pointer (some ⟨p, 0, none⟩), .agg #[.int .i64 2, .int .i64 e, .int .i64 a, .int .i64 b, .string st, .string tt, vl, vm]] w R := by
  obtain ⟨g, cap, hvL, hcap, hgl, hcells⟩ := duos_row h.rowL h0
  have hk1 : Kp (fun _ => False) w (w.alloc (.cells #[.int .i64 2, .int .i64 e, .int .i64 a, .int .i64 b, .string st, .string tt, vl, vm] 71)) := Kp.alloc _ _ _
  have lp : p < w.heap.size := block_lt h.book.world
  have c0 : w.cell? ⟨p, 0, none⟩ = some vL := cell_of h.book.world 0
  rw [hvL] at c0
  have d0 := (hk1.cell (a := ⟨p, 0, none⟩) lp (fun h => h)).trans c0
  have hil := pickN_lt e ds.length h0
  have e0 := (hk1.cell (a := ⟨g, pickN e ds.length * 2, none⟩) hgl (fun h => h)).trans (hcells _ hil).1
  have e1 := (hk1.cell (a := ⟨g, pickN e ds.length * 2 + 1, none⟩) hgl (fun h => h)).trans (hcells _ hil).2
  have z1 : (w.alloc (.cells #[.int .i64 2, .int .i64 e, .int .i64 a, .int .i64 b, .string st, .string tt, vl, vm] 71)).cell? ⟨w.heap.size, 1, none⟩ = some (.int .i64 e) := cell_of (heap_alloc_new w _) 1
  have hil' : (pickN e ds.length : Int) < ds.length := by omega
  have ng1 : g ≠ w.heap.size + 1 := by omega
  have np1 : p ≠ w.heap.size + 1 := by omega
  have hn1 := h.nds
  have hdl : (ds.length : Int) < 1000000 := by omega
  have HCALL := hid_of (fun w2 (k : Kp (fun _ => False) w w2) => i_call (R := fun r w' => r = .returned (.bool true) ∧ R (.returned (.bool true)) w') h k hil hnt 2 e a b (by omega) ha st tt hst htt vl vm (fun w' own' vP' vK' bk' k a I => ⟨rfl, hK w' own' vP' vK' bk' k a I⟩))
  have HE := hid_of he
  have H0 := hid_of h0
  have HLT : Hid (ds.length < 1000000000) := by show _ < _; omega
  generalize hds : ds[pickN e ds.length] = d at *
  clear hds hil
  generalize hpi : pickN e ds.length = i at *
  clear h hK hcells hvL hk1 he ha hst htt hnt hn1 h0 c0 lp hgl
  go_enter Tryz.func31, Tryz.ntmps31
  go_wp2
  go_region_held3 (fun w' => w'.cell? ⟨p, 0, none⟩ = some (.slice (some ⟨g, 0, none⟩) ds.length cap) ∧ w'.cell? ⟨w.heap.size, 1, none⟩ = some (.int .i64 e) ∧ w'.cell? ⟨g, i * 2, none⟩ = some (.pointer (some ⟨d.1, 0, none⟩)) ∧ w'.cell? ⟨g, i * 2 + 1, none⟩ = some (.pointer (some ⟨d.2, 0, none⟩))) (go_keep) ((go_at_call 60; refine pick_any e ds.length _ HE.out H0.out HLT.out ?_; rw [hpi]))
  all_goals
    go_wp2_with (first
      | (go_at_call 61; refine (HCALL.out _ ?_).mono ?_; (exact ((Kp.alloc _ _ _).trans (Kp.alloc (fun _ => False) _ _) (fun _ _ h => h)).trans (Kp.drew (fun _ => False) _) (fun _ _ h => h)); rintro r w'' ⟨rfl, hr⟩)
      | fail)
    exact hr

set_option maxRecDepth 20000 in
set_option maxHeartbeats 2000000 in
theorem step_3 (h : Inv own w p ds vL vP vK bk nt) (h0 : 0 < ds.length) (hnt : nt < 1000000) (e a b : Int) (he : -9223372036854775808 ≤ e ∧ e ≤ 9223372036854775807) (ha : -9223372036854775808 ≤ a ∧ a ≤ 9223372036854775807) (st tt : ByteArray) (hst : st.size ≤ maxLen) (htt : tt.size ≤ maxLen) (vl vm : Value)
    (hK : ∀ w' own' vP' vK' bk', Kp (fun b => own b ≠ lab9) w w' → (∀ b, b < w.heap.size → own' b = own b) → Inv own' w' p ds vL vP' vK' bk' (nt + 1) → R (.returned (.bool true)) w') :
    Calls Tryz.prog 31 #[.pointer (some ⟨p, 0, none⟩), .agg #[.int .i64 3, .int .i64 e, .int .i64 a, .int .i64 b, .string st, .string tt, vl, vm]] w R := by
  obtain ⟨g, cap, hvL, hcap, hgl, hcells⟩ := duos_row h.rowL h0
  have hk1 : Kp (fun _ => False) w (w.alloc (.cells #[.int .i64 3, .int .i64 e, .int .i64 a, .int .i64 b, .string st, .string tt, vl, vm] 71)) := Kp.alloc _ _ _
  have lp : p < w.heap.size := block_lt h.book.world
  have c0 : w.cell? ⟨p, 0, none⟩ = some vL := cell_of h.book.world 0
  rw [hvL] at c0
  have d0 := (hk1.cell (a := ⟨p, 0, none⟩) lp (fun h => h)).trans c0
  have hil := pickN_lt e ds.length h0
  have e0 := (hk1.cell (a := ⟨g, pickN e ds.length * 2, none⟩) hgl (fun h => h)).trans (hcells _ hil).1
  have e1 := (hk1.cell (a := ⟨g, pickN e ds.length * 2 + 1, none⟩) hgl (fun h => h)).trans (hcells _ hil).2
  have z1 : (w.alloc (.cells #[.int .i64 3, .int .i64 e, .int .i64 a, .int .i64 b, .string st, .string tt, vl, vm] 71)).cell? ⟨w.heap.size, 1, none⟩ = some (.int .i64 e) := cell_of (heap_alloc_new w _) 1
  have hil' : (pickN e ds.length : Int) < ds.length := by omega
  have ng1 : g ≠ w.heap.size + 1 := by omega
  have np1 : p ≠ w.heap.size + 1 := by omega
  have hn1 := h.nds
  have hdl : (ds.length : Int) < 1000000 := by omega
  have HCALL := hid_of (fun w2 (k : Kp (fun _ => False) w w2) => i_call (R := fun r w' => r = .returned (.bool true) ∧ R (.returned (.bool true)) w') h k hil hnt 3 e a b (by omega) ha st tt hst htt vl vm (fun w' own' vP' vK' bk' k a I => ⟨rfl, hK w' own' vP' vK' bk' k a I⟩))
  have HE := hid_of he
  have H0 := hid_of h0
  have HLT : Hid (ds.length < 1000000000) := by show _ < _; omega
  generalize hds : ds[pickN e ds.length] = d at *
  clear hds hil
  generalize hpi : pickN e ds.length = i at *
  clear h hK hcells hvL hk1 he ha hst htt hnt hn1 h0 c0 lp hgl
  go_enter Tryz.func31, Tryz.ntmps31
  go_wp2
  go_region_held3 (fun w' => w'.cell? ⟨p, 0, none⟩ = some (.slice (some ⟨g, 0, none⟩) ds.length cap) ∧ w'.cell? ⟨w.heap.size, 1, none⟩ = some (.int .i64 e) ∧ w'.cell? ⟨g, i * 2, none⟩ = some (.pointer (some ⟨d.1, 0, none⟩)) ∧ w'.cell? ⟨g, i * 2 + 1, none⟩ = some (.pointer (some ⟨d.2, 0, none⟩))) (go_keep) ((go_at_call 60; refine pick_any e ds.length _ HE.out H0.out HLT.out ?_; rw [hpi]))
  all_goals
    go_wp2_with (first
      | (go_at_call 61; refine (HCALL.out _ ?_).mono ?_; (exact ((Kp.alloc _ _ _).trans (Kp.alloc (fun _ => False) _ _) (fun _ _ h => h)).trans (Kp.drew (fun _ => False) _) (fun _ _ h => h)); rintro r w'' ⟨rfl, hr⟩)
      | fail)
    exact hr

set_option maxRecDepth 20000 in
set_option maxHeartbeats 2000000 in
theorem step_4 (h : Inv own w p ds vL vP vK bk nt) (h0 : 0 < ds.length) (hnt : nt < 1000000) (e a b : Int) (he : -9223372036854775808 ≤ e ∧ e ≤ 9223372036854775807) (ha : -9223372036854775808 ≤ a ∧ a ≤ 9223372036854775807) (st tt : ByteArray) (hst : st.size ≤ maxLen) (htt : tt.size ≤ maxLen) (vl vm : Value)
    (hK : ∀ w' own' vP' vK' bk', Kp (fun b => own b ≠ lab9) w w' → (∀ b, b < w.heap.size → own' b = own b) → Inv own' w' p ds vL vP' vK' bk' (nt + 1) → R (.returned (.bool true)) w') :
    Calls Tryz.prog 31 #[.pointer (some ⟨p, 0, none⟩), .agg #[.int .i64 4, .int .i64 e, .int .i64 a, .int .i64 b, .string st, .string tt, vl, vm]] w R := by
  obtain ⟨g, cap, hvL, hcap, hgl, hcells⟩ := duos_row h.rowL h0
  have hk1 : Kp (fun _ => False) w (w.alloc (.cells #[.int .i64 4, .int .i64 e, .int .i64 a, .int .i64 b, .string st, .string tt, vl, vm] 71)) := Kp.alloc _ _ _
  have lp : p < w.heap.size := block_lt h.book.world
  have c0 : w.cell? ⟨p, 0, none⟩ = some vL := cell_of h.book.world 0
  rw [hvL] at c0
  have d0 := (hk1.cell (a := ⟨p, 0, none⟩) lp (fun h => h)).trans c0
  have hil := pickN_lt e ds.length h0
  have e0 := (hk1.cell (a := ⟨g, pickN e ds.length * 2, none⟩) hgl (fun h => h)).trans (hcells _ hil).1
  have e1 := (hk1.cell (a := ⟨g, pickN e ds.length * 2 + 1, none⟩) hgl (fun h => h)).trans (hcells _ hil).2
  have z1 : (w.alloc (.cells #[.int .i64 4, .int .i64 e, .int .i64 a, .int .i64 b, .string st, .string tt, vl, vm] 71)).cell? ⟨w.heap.size, 1, none⟩ = some (.int .i64 e) := cell_of (heap_alloc_new w _) 1
  have hil' : (pickN e ds.length : Int) < ds.length := by omega
  have ng1 : g ≠ w.heap.size + 1 := by omega
  have np1 : p ≠ w.heap.size + 1 := by omega
  have hn1 := h.nds
  have hdl : (ds.length : Int) < 1000000 := by omega
  have HCALL := hid_of (fun w2 (k : Kp (fun _ => False) w w2) => i_call (R := fun r w' => r = .returned (.bool true) ∧ R (.returned (.bool true)) w') h k hil hnt 4 e a b (by omega) ha st tt hst htt vl vm (fun w' own' vP' vK' bk' k a I => ⟨rfl, hK w' own' vP' vK' bk' k a I⟩))
  have HE := hid_of he
  have H0 := hid_of h0
  have HLT : Hid (ds.length < 1000000000) := by show _ < _; omega
  generalize hds : ds[pickN e ds.length] = d at *
  clear hds hil
  generalize hpi : pickN e ds.length = i at *
  clear h hK hcells hvL hk1 he ha hst htt hnt hn1 h0 c0 lp hgl
  go_enter Tryz.func31, Tryz.ntmps31
  go_wp2
  go_region_held3 (fun w' => w'.cell? ⟨p, 0, none⟩ = some (.slice (some ⟨g, 0, none⟩) ds.length cap) ∧ w'.cell? ⟨w.heap.size, 1, none⟩ = some (.int .i64 e) ∧ w'.cell? ⟨g, i * 2, none⟩ = some (.pointer (some ⟨d.1, 0, none⟩)) ∧ w'.cell? ⟨g, i * 2 + 1, none⟩ = some (.pointer (some ⟨d.2, 0, none⟩))) (go_keep) ((go_at_call 60; refine pick_any e ds.length _ HE.out H0.out HLT.out ?_; rw [hpi]))
  all_goals
    go_wp2_with (first
      | (go_at_call 61; refine (HCALL.out _ ?_).mono ?_; (exact ((Kp.alloc _ _ _).trans (Kp.alloc (fun _ => False) _ _) (fun _ _ h => h)).trans (Kp.drew (fun _ => False) _) (fun _ _ h => h)); rintro r w'' ⟨rfl, hr⟩)
      | fail)
    exact hr

set_option maxRecDepth 20000 in
set_option maxHeartbeats 2000000 in
theorem step_5 (h : Inv own w p ds vL vP vK bk nt) (h0 : 0 < ds.length) (hnt : nt < 1000000) (e a b : Int) (he : -9223372036854775808 ≤ e ∧ e ≤ 9223372036854775807) (ha : -9223372036854775808 ≤ a ∧ a ≤ 9223372036854775807) (st tt : ByteArray) (hst : st.size ≤ maxLen) (htt : tt.size ≤ maxLen) (vl vm : Value)
    (hK : ∀ w' own' vP' vK' bk', Kp (fun b => own b ≠ lab9) w w' → (∀ b, b < w.heap.size → own' b = own b) → Inv own' w' p ds vL vP' vK' bk' (nt + 1) → R (.returned (.bool true)) w') :
    Calls Tryz.prog 31 #[.pointer (some ⟨p, 0, none⟩), .agg #[.int .i64 5, .int .i64 e, .int .i64 a, .int .i64 b, .string st, .string tt, vl, vm]] w R := by
  obtain ⟨g, cap, hvL, hcap, hgl, hcells⟩ := duos_row h.rowL h0
  have hk1 : Kp (fun _ => False) w (w.alloc (.cells #[.int .i64 5, .int .i64 e, .int .i64 a, .int .i64 b, .string st, .string tt, vl, vm] 71)) := Kp.alloc _ _ _
  have lp : p < w.heap.size := block_lt h.book.world
  have c0 : w.cell? ⟨p, 0, none⟩ = some vL := cell_of h.book.world 0
  rw [hvL] at c0
  have d0 := (hk1.cell (a := ⟨p, 0, none⟩) lp (fun h => h)).trans c0
  have hil := pickN_lt e ds.length h0
  have e0 := (hk1.cell (a := ⟨g, pickN e ds.length * 2, none⟩) hgl (fun h => h)).trans (hcells _ hil).1
  have e1 := (hk1.cell (a := ⟨g, pickN e ds.length * 2 + 1, none⟩) hgl (fun h => h)).trans (hcells _ hil).2
  have z1 : (w.alloc (.cells #[.int .i64 5, .int .i64 e, .int .i64 a, .int .i64 b, .string st, .string tt, vl, vm] 71)).cell? ⟨w.heap.size, 1, none⟩ = some (.int .i64 e) := cell_of (heap_alloc_new w _) 1
  have hil' : (pickN e ds.length : Int) < ds.length := by omega
  have ng1 : g ≠ w.heap.size + 1 := by omega
  have np1 : p ≠ w.heap.size + 1 := by omega
  have hn1 := h.nds
  have hdl : (ds.length : Int) < 1000000 := by omega
  have HCALL := hid_of (fun w2 (k : Kp (fun _ => False) w w2) => i_call (R := fun r w' => r = .returned (.bool true) ∧ R (.returned (.bool true)) w') h k hil hnt 5 e a b (by omega) ha st tt hst htt vl vm (fun w' own' vP' vK' bk' k a I => ⟨rfl, hK w' own' vP' vK' bk' k a I⟩))
  have HE := hid_of he
  have H0 := hid_of h0
  have HLT : Hid (ds.length < 1000000000) := by show _ < _; omega
  generalize hds : ds[pickN e ds.length] = d at *
  clear hds hil
  generalize hpi : pickN e ds.length = i at *
  clear h hK hcells hvL hk1 he ha hst htt hnt hn1 h0 c0 lp hgl
  go_enter Tryz.func31, Tryz.ntmps31
  go_wp2
  go_region_held3 (fun w' => w'.cell? ⟨p, 0, none⟩ = some (.slice (some ⟨g, 0, none⟩) ds.length cap) ∧ w'.cell? ⟨w.heap.size, 1, none⟩ = some (.int .i64 e) ∧ w'.cell? ⟨g, i * 2, none⟩ = some (.pointer (some ⟨d.1, 0, none⟩)) ∧ w'.cell? ⟨g, i * 2 + 1, none⟩ = some (.pointer (some ⟨d.2, 0, none⟩))) (go_keep) ((go_at_call 60; refine pick_any e ds.length _ HE.out H0.out HLT.out ?_; rw [hpi]))
  all_goals
    go_wp2_with (first
      | (go_at_call 61; refine (HCALL.out _ ?_).mono ?_; (exact ((Kp.alloc _ _ _).trans (Kp.alloc (fun _ => False) _ _) (fun _ _ h => h)).trans (Kp.drew (fun _ => False) _) (fun _ _ h => h)); rintro r w'' ⟨rfl, hr⟩)
      | fail)
    exact hr

set_option maxRecDepth 20000 in
set_option maxHeartbeats 2000000 in
theorem step_6 (h : Inv own w p ds vL vP vK bk nt) (h0 : 0 < ds.length) (hnt : nt < 1000000) (e a b : Int) (he : -9223372036854775808 ≤ e ∧ e ≤ 9223372036854775807) (ha : -9223372036854775808 ≤ a ∧ a ≤ 9223372036854775807) (st tt : ByteArray) (hst : st.size ≤ maxLen) (htt : tt.size ≤ maxLen) (vl vm : Value)
    (hK : ∀ w' own' vP' vK' bk', Kp (fun b => own b ≠ lab9) w w' → (∀ b, b < w.heap.size → own' b = own b) → Inv own' w' p ds vL vP' vK' bk' (nt + 1) → R (.returned (.bool true)) w') :
    Calls Tryz.prog 31 #[.pointer (some ⟨p, 0, none⟩), .agg #[.int .i64 6, .int .i64 e, .int .i64 a, .int .i64 b, .string st, .string tt, vl, vm]] w R := by
  obtain ⟨g, cap, hvL, hcap, hgl, hcells⟩ := duos_row h.rowL h0
  have hk1 : Kp (fun _ => False) w (w.alloc (.cells #[.int .i64 6, .int .i64 e, .int .i64 a, .int .i64 b, .string st, .string tt, vl, vm] 71)) := Kp.alloc _ _ _
  have lp : p < w.heap.size := block_lt h.book.world
  have c0 : w.cell? ⟨p, 0, none⟩ = some vL := cell_of h.book.world 0
  rw [hvL] at c0
  have d0 := (hk1.cell (a := ⟨p, 0, none⟩) lp (fun h => h)).trans c0
  have hil := pickN_lt e ds.length h0
  have e0 := (hk1.cell (a := ⟨g, pickN e ds.length * 2, none⟩) hgl (fun h => h)).trans (hcells _ hil).1
  have e1 := (hk1.cell (a := ⟨g, pickN e ds.length * 2 + 1, none⟩) hgl (fun h => h)).trans (hcells _ hil).2
  have z1 : (w.alloc (.cells #[.int .i64 6, .int .i64 e, .int .i64 a, .int .i64 b, .string st, .string tt, vl, vm] 71)).cell? ⟨w.heap.size, 1, none⟩ = some (.int .i64 e) := cell_of (heap_alloc_new w _) 1
  have hil' : (pickN e ds.length : Int) < ds.length := by omega
  have ng1 : g ≠ w.heap.size + 1 := by omega
  have np1 : p ≠ w.heap.size + 1 := by omega
  have hn1 := h.nds
  have hdl : (ds.length : Int) < 1000000 := by omega
  have HCALL := hid_of (fun w2 (k : Kp (fun _ => False) w w2) => i_call (R := fun r w' => r = .returned (.bool true) ∧ R (.returned (.bool true)) w') h k hil hnt 6 e a b (by omega) ha st tt hst htt vl vm (fun w' own' vP' vK' bk' k a I => ⟨rfl, hK w' own' vP' vK' bk' k a I⟩))
  have HE := hid_of he
  have H0 := hid_of h0
  have HLT : Hid (ds.length < 1000000000) := by show _ < _; omega
  generalize hds : ds[pickN e ds.length] = d at *
  clear hds hil
  generalize hpi : pickN e ds.length = i at *
  clear h hK hcells hvL hk1 he ha hst htt hnt hn1 h0 c0 lp hgl
  go_enter Tryz.func31, Tryz.ntmps31
  go_wp2
  go_region_held3 (fun w' => w'.cell? ⟨p, 0, none⟩ = some (.slice (some ⟨g, 0, none⟩) ds.length cap) ∧ w'.cell? ⟨w.heap.size, 1, none⟩ = some (.int .i64 e) ∧ w'.cell? ⟨g, i * 2, none⟩ = some (.pointer (some ⟨d.1, 0, none⟩)) ∧ w'.cell? ⟨g, i * 2 + 1, none⟩ = some (.pointer (some ⟨d.2, 0, none⟩))) (go_keep) ((go_at_call 60; refine pick_any e ds.length _ HE.out H0.out HLT.out ?_; rw [hpi]))
  all_goals
    go_wp2_with (first
      | (go_at_call 61; refine (HCALL.out _ ?_).mono ?_; (exact ((Kp.alloc _ _ _).trans (Kp.alloc (fun _ => False) _ _) (fun _ _ h => h)).trans (Kp.drew (fun _ => False) _) (fun _ _ h => h)); rintro r w'' ⟨rfl, hr⟩)
      | fail)
    exact hr

set_option maxRecDepth 20000 in
set_option maxHeartbeats 2000000 in
theorem step_7 (h : Inv own w p ds vL vP vK bk nt) (h0 : 0 < ds.length) (hnt : nt < 1000000) (e a b : Int) (he : -9223372036854775808 ≤ e ∧ e ≤ 9223372036854775807) (ha : -9223372036854775808 ≤ a ∧ a ≤ 9223372036854775807) (st tt : ByteArray) (hst : st.size ≤ maxLen) (htt : tt.size ≤ maxLen) (vl vm : Value)
    (hK : ∀ w' own' vP' vK' bk', Kp (fun b => own b ≠ lab9) w w' → (∀ b, b < w.heap.size → own' b = own b) → Inv own' w' p ds vL vP' vK' bk' (nt + 1) → R (.returned (.bool true)) w') :
    Calls Tryz.prog 31 #[.pointer (some ⟨p, 0, none⟩), .agg #[.int .i64 7, .int .i64 e, .int .i64 a, .int .i64 b, .string st, .string tt, vl, vm]] w R := by
  obtain ⟨g, cap, hvL, hcap, hgl, hcells⟩ := duos_row h.rowL h0
  have hk1 : Kp (fun _ => False) w (w.alloc (.cells #[.int .i64 7, .int .i64 e, .int .i64 a, .int .i64 b, .string st, .string tt, vl, vm] 71)) := Kp.alloc _ _ _
  have lp : p < w.heap.size := block_lt h.book.world
  have c0 : w.cell? ⟨p, 0, none⟩ = some vL := cell_of h.book.world 0
  rw [hvL] at c0
  have d0 := (hk1.cell (a := ⟨p, 0, none⟩) lp (fun h => h)).trans c0
  have hil := pickN_lt e ds.length h0
  have e0 := (hk1.cell (a := ⟨g, pickN e ds.length * 2, none⟩) hgl (fun h => h)).trans (hcells _ hil).1
  have e1 := (hk1.cell (a := ⟨g, pickN e ds.length * 2 + 1, none⟩) hgl (fun h => h)).trans (hcells _ hil).2
  have z1 : (w.alloc (.cells #[.int .i64 7, .int .i64 e, .int .i64 a, .int .i64 b, .string st, .string tt, vl, vm] 71)).cell? ⟨w.heap.size, 1, none⟩ = some (.int .i64 e) := cell_of (heap_alloc_new w _) 1
  have hil' : (pickN e ds.length : Int) < ds.length := by omega
  have ng1 : g ≠ w.heap.size + 1 := by omega
  have np1 : p ≠ w.heap.size + 1 := by omega
  have hn1 := h.nds
  have hdl : (ds.length : Int) < 1000000 := by omega
  have HCALL := hid_of (fun w2 (k : Kp (fun _ => False) w w2) => i_call (R := fun r w' => r = .returned (.bool true) ∧ R (.returned (.bool true)) w') h k hil hnt 7 e a b (by omega) ha st tt hst htt vl vm (fun w' own' vP' vK' bk' k a I => ⟨rfl, hK w' own' vP' vK' bk' k a I⟩))
  have HE := hid_of he
  have H0 := hid_of h0
  have HLT : Hid (ds.length < 1000000000) := by show _ < _; omega
  generalize hds : ds[pickN e ds.length] = d at *
  clear hds hil
  generalize hpi : pickN e ds.length = i at *
  clear h hK hcells hvL hk1 he ha hst htt hnt hn1 h0 c0 lp hgl
  go_enter Tryz.func31, Tryz.ntmps31
  go_wp2
  go_region_held3 (fun w' => w'.cell? ⟨p, 0, none⟩ = some (.slice (some ⟨g, 0, none⟩) ds.length cap) ∧ w'.cell? ⟨w.heap.size, 1, none⟩ = some (.int .i64 e) ∧ w'.cell? ⟨g, i * 2, none⟩ = some (.pointer (some ⟨d.1, 0, none⟩)) ∧ w'.cell? ⟨g, i * 2 + 1, none⟩ = some (.pointer (some ⟨d.2, 0, none⟩))) (go_keep) ((go_at_call 60; refine pick_any e ds.length _ HE.out H0.out HLT.out ?_; rw [hpi]))
  all_goals
    go_wp2_with (first
      | (go_at_call 61; refine (HCALL.out _ ?_).mono ?_; (exact ((Kp.alloc _ _ _).trans (Kp.alloc (fun _ => False) _ _) (fun _ _ h => h)).trans (Kp.drew (fun _ => False) _) (fun _ _ h => h)); rintro r w'' ⟨rfl, hr⟩)
      | fail)
    exact hr

set_option maxRecDepth 20000 in
set_option maxHeartbeats 2000000 in
theorem step_8 (h : Inv own w p ds vL vP vK bk nt) (h0 : 0 < ds.length) (hnt : nt < 1000000) (e a b : Int) (he : -9223372036854775808 ≤ e ∧ e ≤ 9223372036854775807) (ha : -9223372036854775808 ≤ a ∧ a ≤ 9223372036854775807) (st tt : ByteArray) (hst : st.size ≤ maxLen) (htt : tt.size ≤ maxLen) (vl vm : Value)
    (hK : ∀ w' own' vP' vK' bk', Kp (fun b => own b ≠ lab9) w w' → (∀ b, b < w.heap.size → own' b = own b) → Inv own' w' p ds vL vP' vK' bk' (nt + 1) → R (.returned (.bool true)) w') :
    Calls Tryz.prog 31 #[.pointer (some ⟨p, 0, none⟩), .agg #[.int .i64 8, .int .i64 e, .int .i64 a, .int .i64 b, .string st, .string tt, vl, vm]] w R := by
  obtain ⟨g, cap, hvL, hcap, hgl, hcells⟩ := duos_row h.rowL h0
  have hk1 : Kp (fun _ => False) w (w.alloc (.cells #[.int .i64 8, .int .i64 e, .int .i64 a, .int .i64 b, .string st, .string tt, vl, vm] 71)) := Kp.alloc _ _ _
  have lp : p < w.heap.size := block_lt h.book.world
  have c0 : w.cell? ⟨p, 0, none⟩ = some vL := cell_of h.book.world 0
  rw [hvL] at c0
  have d0 := (hk1.cell (a := ⟨p, 0, none⟩) lp (fun h => h)).trans c0
  have hil := pickN_lt e ds.length h0
  have e0 := (hk1.cell (a := ⟨g, pickN e ds.length * 2, none⟩) hgl (fun h => h)).trans (hcells _ hil).1
  have e1 := (hk1.cell (a := ⟨g, pickN e ds.length * 2 + 1, none⟩) hgl (fun h => h)).trans (hcells _ hil).2
  have z1 : (w.alloc (.cells #[.int .i64 8, .int .i64 e, .int .i64 a, .int .i64 b, .string st, .string tt, vl, vm] 71)).cell? ⟨w.heap.size, 1, none⟩ = some (.int .i64 e) := cell_of (heap_alloc_new w _) 1
  have hil' : (pickN e ds.length : Int) < ds.length := by omega
  have ng1 : g ≠ w.heap.size + 1 := by omega
  have np1 : p ≠ w.heap.size + 1 := by omega
  have hn1 := h.nds
  have hdl : (ds.length : Int) < 1000000 := by omega
  have HCALL := hid_of (fun w2 (k : Kp (fun _ => False) w w2) => i_call (R := fun r w' => r = .returned (.bool true) ∧ R (.returned (.bool true)) w') h k hil hnt 8 e a b (by omega) ha st tt hst htt vl vm (fun w' own' vP' vK' bk' k a I => ⟨rfl, hK w' own' vP' vK' bk' k a I⟩))
  have HE := hid_of he
  have H0 := hid_of h0
  have HLT : Hid (ds.length < 1000000000) := by show _ < _; omega
  generalize hds : ds[pickN e ds.length] = d at *
  clear hds hil
  generalize hpi : pickN e ds.length = i at *
  clear h hK hcells hvL hk1 he ha hst htt hnt hn1 h0 c0 lp hgl
  go_enter Tryz.func31, Tryz.ntmps31
  go_wp2
  go_region_held3 (fun w' => w'.cell? ⟨p, 0, none⟩ = some (.slice (some ⟨g, 0, none⟩) ds.length cap) ∧ w'.cell? ⟨w.heap.size, 1, none⟩ = some (.int .i64 e) ∧ w'.cell? ⟨g, i * 2, none⟩ = some (.pointer (some ⟨d.1, 0, none⟩)) ∧ w'.cell? ⟨g, i * 2 + 1, none⟩ = some (.pointer (some ⟨d.2, 0, none⟩))) (go_keep) ((go_at_call 60; refine pick_any e ds.length _ HE.out H0.out HLT.out ?_; rw [hpi]))
  all_goals
    go_wp2_with (first
      | (go_at_call 61; refine (HCALL.out _ ?_).mono ?_; (exact ((Kp.alloc _ _ _).trans (Kp.alloc (fun _ => False) _ _) (fun _ _ h => h)).trans (Kp.drew (fun _ => False) _) (fun _ _ h => h)); rintro r w'' ⟨rfl, hr⟩)
      | fail)
    exact hr

set_option maxRecDepth 20000 in
set_option maxHeartbeats 2000000 in
theorem step_9 (h : Inv own w p ds vL vP vK bk nt) (h0 : 0 < ds.length) (hnt : nt < 1000000) (e a b : Int) (he : -9223372036854775808 ≤ e ∧ e ≤ 9223372036854775807) (ha : -9223372036854775808 ≤ a ∧ a ≤ 9223372036854775807) (st tt : ByteArray) (hst : st.size ≤ maxLen) (htt : tt.size ≤ maxLen) (vl vm : Value)
    (hK : ∀ w' own' vP' vK' bk', Kp (fun b => own b ≠ lab9) w w' → (∀ b, b < w.heap.size → own' b = own b) → Inv own' w' p ds vL vP' vK' bk' (nt + 1) → R (.returned (.bool true)) w') :
    Calls Tryz.prog 31 #[.pointer (some ⟨p, 0, none⟩), .agg #[.int .i64 9, .int .i64 e, .int .i64 a, .int .i64 b, .string st, .string tt, vl, vm]] w R := by
  obtain ⟨g, cap, hvL, hcap, hgl, hcells⟩ := duos_row h.rowL h0
  have hk1 : Kp (fun _ => False) w (w.alloc (.cells #[.int .i64 9, .int .i64 e, .int .i64 a, .int .i64 b, .string st, .string tt, vl, vm] 71)) := Kp.alloc _ _ _
  have lp : p < w.heap.size := block_lt h.book.world
  have c0 : w.cell? ⟨p, 0, none⟩ = some vL := cell_of h.book.world 0
  rw [hvL] at c0
  have d0 := (hk1.cell (a := ⟨p, 0, none⟩) lp (fun h => h)).trans c0
  have hil := pickN_lt e ds.length h0
  have e0 := (hk1.cell (a := ⟨g, pickN e ds.length * 2, none⟩) hgl (fun h => h)).trans (hcells _ hil).1
  have e1 := (hk1.cell (a := ⟨g, pickN e ds.length * 2 + 1, none⟩) hgl (fun h => h)).trans (hcells _ hil).2
  have z1 : (w.alloc (.cells #[.int .i64 9, .int .i64 e, .int .i64 a, .int .i64 b, .string st, .string tt, vl, vm] 71)).cell? ⟨w.heap.size, 1, none⟩ = some (.int .i64 e) := cell_of (heap_alloc_new w _) 1
  have hil' : (pickN e ds.length : Int) < ds.length := by omega
  have ng1 : g ≠ w.heap.size + 1 := by omega
  have np1 : p ≠ w.heap.size + 1 := by omega
  have hn1 := h.nds
  have hdl : (ds.length : Int) < 1000000 := by omega
  have HCALL := hid_of (fun w2 (k : Kp (fun _ => False) w w2) => i_call (R := fun r w' => r = .returned (.bool true) ∧ R (.returned (.bool true)) w') h k hil hnt 9 e a b (by omega) ha st tt hst htt vl vm (fun w' own' vP' vK' bk' k a I => ⟨rfl, hK w' own' vP' vK' bk' k a I⟩))
  have HE := hid_of he
  have H0 := hid_of h0
  have HLT : Hid (ds.length < 1000000000) := by show _ < _; omega
  generalize hds : ds[pickN e ds.length] = d at *
  clear hds hil
  generalize hpi : pickN e ds.length = i at *
  clear h hK hcells hvL hk1 he ha hst htt hnt hn1 h0 c0 lp hgl
  go_enter Tryz.func31, Tryz.ntmps31
  go_wp2
  go_region_held3 (fun w' => w'.cell? ⟨p, 0, none⟩ = some (.slice (some ⟨g, 0, none⟩) ds.length cap) ∧ w'.cell? ⟨w.heap.size, 1, none⟩ = some (.int .i64 e) ∧ w'.cell? ⟨g, i * 2, none⟩ = some (.pointer (some ⟨d.1, 0, none⟩)) ∧ w'.cell? ⟨g, i * 2 + 1, none⟩ = some (.pointer (some ⟨d.2, 0, none⟩))) (go_keep) ((go_at_call 60; refine pick_any e ds.length _ HE.out H0.out HLT.out ?_; rw [hpi]))
  all_goals
    go_wp2_with (first
      | (go_at_call 61; refine (HCALL.out _ ?_).mono ?_; (exact ((Kp.alloc _ _ _).trans (Kp.alloc (fun _ => False) _ _) (fun _ _ h => h)).trans (Kp.drew (fun _ => False) _) (fun _ _ h => h)); rintro r w'' ⟨rfl, hr⟩)
      | fail)
    exact hr

set_option maxRecDepth 20000 in
set_option maxHeartbeats 2000000 in
theorem step_none (h : Inv own w p ds vL vP vK bk nt) (h0 : 0 < ds.length) (hnt : nt < 1000000) (kind e a b : Int) (hkind : kind ≤ 0) (he : -9223372036854775808 ≤ e ∧ e ≤ 9223372036854775807) (_ha : -9223372036854775808 ≤ a ∧ a ≤ 9223372036854775807) (st tt : ByteArray) (_hst : st.size ≤ maxLen) (_htt : tt.size ≤ maxLen) (vl vm : Value)
    (hK : ∀ w' own' vP' vK' bk', Kp (fun b => own b ≠ lab9) w w' → (∀ b, b < w.heap.size → own' b = own b) → Inv own' w' p ds vL vP' vK' bk' (nt + 1) → R (.returned (.bool true)) w') :
    Calls Tryz.prog 31 #[.pointer (some ⟨p, 0, none⟩), .agg #[.int .i64 kind, .int .i64 e, .int .i64 a, .int .i64 b, .string st, .string tt, vl, vm]] w R := by
  obtain ⟨g, cap, hvL, hcap, hgl, hcells⟩ := duos_row h.rowL h0
  have hk1 : Kp (fun _ => False) w (w.alloc (.cells #[.int .i64 kind, .int .i64 e, .int .i64 a, .int .i64 b, .string st, .string tt, vl, vm] 71)) := Kp.alloc _ _ _
  have lp : p < w.heap.size := block_lt h.book.world
  have c0 : w.cell? ⟨p, 0, none⟩ = some vL := cell_of h.book.world 0
  rw [hvL] at c0
  have d0 := (hk1.cell (a := ⟨p, 0, none⟩) lp (fun h => h)).trans c0
  have hil := pickN_lt e ds.length h0
  have e0 := (hk1.cell (a := ⟨g, pickN e ds.length * 2, none⟩) hgl (fun h => h)).trans (hcells _ hil).1
  have e1 := (hk1.cell (a := ⟨g, pickN e ds.length * 2 + 1, none⟩) hgl (fun h => h)).trans (hcells _ hil).2
  have z1 : (w.alloc (.cells #[.int .i64 kind, .int .i64 e, .int .i64 a, .int .i64 b, .string st, .string tt, vl, vm] 71)).cell? ⟨w.heap.size, 1, none⟩ = some (.int .i64 e) := cell_of (heap_alloc_new w _) 1
  have hil' : (pickN e ds.length : Int) < ds.length := by omega
  have ng1 : g ≠ w.heap.size + 1 := by omega
  have np1 : p ≠ w.heap.size + 1 := by omega
  have hn1 := h.nds
  have hdl : (ds.length : Int) < 1000000 := by omega
  have H := hid_of h
  have HK := hid_of hK
  have k1 : (kind == 1) = false := by simp; omega
  have k2 : (kind == 2) = false := by simp; omega
  have k3 : (kind == 3) = false := by simp; omega
  have k4 : (kind == 4) = false := by simp; omega
  have k5 : (kind == 5) = false := by simp; omega
  have k6 : (kind == 6) = false := by simp; omega
  have k7 : (kind == 7) = false := by simp; omega
  have k8 : (kind == 8) = false := by simp; omega
  have k9 : (kind == 9) = false := by simp; omega
  have k10 : (kind == 10) = false := by simp; omega
  have k11 : (kind == 11) = false := by simp; omega
  have k12 : (kind == 12) = false := by simp; omega
  have k13 : (kind == 13) = false := by simp; omega
  have k14 : (kind == 14) = false := by simp; omega
  have k15 : (kind == 15) = false := by simp; omega
  have k16 : (kind == 16) = false := by simp; omega
  have k17 : (kind == 17) = false := by simp; omega
  have k18 : (kind == 18) = false := by simp; omega
  have k19 : (kind == 19) = false := by simp; omega
  have k20 : (kind == 20) = false := by simp; omega
  have k21 : (kind == 21) = false := by simp; omega
  have k22 : (kind == 22) = false := by simp; omega
  have k23 : (kind == 23) = false := by simp; omega
  have k24 : (kind == 24) = false := by simp; omega
  have k25 : (kind == 25) = false := by simp; omega
  have k26 : (kind == 26) = false := by simp; omega
  have HE := hid_of he
  have H0 := hid_of h0
  have HLT : Hid (ds.length < 1000000000) := by show _ < _; omega
  generalize hds : ds[pickN e ds.length] = d at *
  clear hds hil
  generalize hpi : pickN e ds.length = i at *
  clear h hK hcells hvL hk1 he _ha _hst _htt hnt hn1 h0 c0 lp hgl
  go_enter Tryz.func31, Tryz.ntmps31
  go_wp2
  go_region_held3 (fun w' => w'.cell? ⟨p, 0, none⟩ = some (.slice (some ⟨g, 0, none⟩) ds.length cap) ∧ w'.cell? ⟨w.heap.size, 1, none⟩ = some (.int .i64 e) ∧ w'.cell? ⟨g, i * 2, none⟩ = some (.pointer (some ⟨d.1, 0, none⟩)) ∧ w'.cell? ⟨g, i * 2 + 1, none⟩ = some (.pointer (some ⟨d.2, 0, none⟩))) (go_keep) ((go_at_call 60; refine pick_any e ds.length _ HE.out H0.out HLT.out ?_; rw [hpi]))
  all_goals
    go_wp2
    have k : Kp (fun _ => False) w ((w.alloc (.cells #[.int .i64 kind, .int .i64 e, .int .i64 a, .int .i64 b, .string st, .string tt, vl, vm] 71)).alloc (.cells #[.pointer (some ⟨d.1, 0, none⟩), .pointer (some ⟨d.2, 0, none⟩)] 81)).drew := ((Kp.alloc _ _ _).trans (Kp.alloc (fun _ => False) _ _) (fun _ _ h => h)).trans (Kp.drew (fun _ => False) _) (fun _ _ h => h)
    exact HK.out _ own vP vK bk (kpF k) (fun _ _ => rfl) ((H.out.same k (fun _ _ => rfl)).mono (Nat.le_succ _))

end

end Go.Proofs.YthbdpfccfcceiaaGreatDoor
