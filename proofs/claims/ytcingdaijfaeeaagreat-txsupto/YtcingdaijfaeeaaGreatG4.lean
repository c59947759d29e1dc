/-
  The law's comparison of two lists of pairs.
-/
import Derived.Test.YtcingdaijfaeeaaGreatG3
import Derived.BigQuiet
namespace Go.Proofs.YtcingdaijfaeeaaGreat
open Go.RowKit

theorem cells2_at : ∀ (l : List (ByteArray × ByteArray)) (j : Nat) (hj : j < l.length), (cells2 l)[j * 2]? = some (.string l[j].1) ∧ (cells2 l)[j * 2 + 1]? = some (.string l[j].2)
  | a :: r, 0, _ => by simp [cells2]
  | a :: r, j + 1, hj => by
    have ih := cells2_at r j (by simpa using hj)
    have e : cells2 (a :: r) = .string a.1 :: .string a.2 :: cells2 r := by simp [cells2]
    rw [e, show (j + 1) * 2 = j * 2 + 1 + 1 by omega]
    simpa using ih

theorem pairs_row {w : World} {base n : Nat} {v : Value} {l : List (ByteArray × ByteArray)} (h : w.ownsRow base 67 2 v n (cells2 l)) : l.length = n ∧ ∃ a cap, v = .slice a n cap ∧ n ≤ cap ∧ ∀ j (hj : j < l.length), ∃ g, a = some ⟨g, 0, none⟩ ∧ w.cell? ⟨g, j * 2, none⟩ = some (.string l[j].1) ∧ w.cell? ⟨g, j * 2 + 1, none⟩ = some (.string l[j].2) := by
  have hl : l.length = n := by have := h.1; rw [cells2_len] at this; omega
  refine ⟨hl, ?_⟩
  rcases h.2 with ⟨rfl, rfl⟩ | ⟨g, cap, cur, rfl, hb, hg, hn, hm, hcs, ht⟩
  · exact ⟨none, 0, rfl, Nat.le_refl _, fun j hj => by omega⟩
  · refine ⟨_, cap, rfl, hn, fun j hj => ⟨g, rfl, ?_⟩⟩
    have key : ∀ i u, (cells2 l)[i]? = some u → w.cell? ⟨g, i, none⟩ = some u := fun i u hu => by
      have : w.cell? ⟨g, i, none⟩ = cur[i]? := by simp [World.cell?, hg]
      rw [this, ← Array.getElem?_toList]
      rw [← ht, List.getElem?_take] at hu
      split at hu
      · exact hu
      · cases hu
    obtain ⟨a1, a2⟩ := cells2_at l j hj
    exact ⟨key _ _ a1, key _ _ a2⟩

section
variable {R : Ending → World → Prop} {w : World}

set_option maxRecDepth 20000 in
set_option maxHeartbeats 1000000 in
theorem world_pairs (p : Nat) (v v' : Value) (n : Nat) (xs : List (ByteArray × ByteArray)) (er : Int) (hn : n < 1000000) (hv : w.ownsRow 0 67 2 v n (cells2 xs)) (hv' : w.ownsRow 0 67 2 v' n (cells2 xs))
    (hB : ∀ w1, Kp (fun _ => False) w w1 → Calls Tryz.prog 75 #[.pointer (some ⟨p, 3, none⟩), v] w1 (fun r w2 => r = .returned (.tuple #[]) ∧ R (.returned (.bool true)) w2)) (_hp : p < w.heap.size) :
    Calls Tryz.prog 32 #[.pointer (some ⟨p, 0, none⟩), v, .int .i64 er, v', .int .i64 er] w R := by
  obtain ⟨hl, a, cap, rfl, hc, hx⟩ := pairs_row hv
  obtain ⟨_, a', cap', rfl, hc', hx'⟩ := pairs_row hv'
  have HX := hid_of hx
  have HX' := hid_of hx'
  have HB := hid_of hB
  have hn' : (n : Int) < 1000000 := by omega
  clear hv hv' hx hx' hB
  go_enter Tryz.func32, Tryz.ntmps32
  go_wp2
  go_loopw [11, 12] (fun v11 v12 wr => ∃ i : Nat, i ≤ n ∧ v11 = .bool true ∧ v12 = .int .i64 i ∧ Kp (fun _ => False) w wr) (fun _ v12 _ => n - (intOf v12).toNat)
  case atStart => exact ⟨0, Nat.zero_le _, rfl, rfl, Kp.refl _ _⟩
  case round =>
    obtain ⟨i, hile, rfl, rfl, hkp⟩ := hrel
    by_cases hin : i < n
    · have hin' : (i : Int) < n := by omega
      obtain ⟨g, rfl, q0, q1⟩ := HX.out i (by omega)
      obtain ⟨g', rfl, q0', q1'⟩ := HX'.out i (by omega)
      have r0 := (hkp.cell (World.block_lt_of_cell? w _ q0) (fun h => h)).trans q0
      have r1 := (hkp.cell (World.block_lt_of_cell? w _ q1) (fun h => h)).trans q1
      have r0' := (hkp.cell (World.block_lt_of_cell? w _ q0') (fun h => h)).trans q0'
      have r1' := (hkp.cell (World.block_lt_of_cell? w _ q1') (fun h => h)).trans q1'
      generalize (xs[i]'(by omega)).1 = x1 at r0 r0'
      generalize (xs[i]'(by omega)).2 = x2 at r1 r1'
      have HKP := hid_of hkp
      clear q0 q1 q0' q1' hkp hin
      go_wp2
      go_quiet (fail)
      go_wp2
      go_roundw
      case rel => exact ⟨i + 1, by omega, rfl, by go_num, HKP.out.trans (Kp.drewN (fun _ => False) _ _) (fun _ _ h => h)⟩
      case measure => simp [intOf]; omega
    · have hie : i = n := by omega
      subst hie
      have HKP := hid_of hkp
      clear hkp hile hin
      go_wp2_with (first
        | (go_at_call 75; refine (HB.out wr HKP.out).mono ?_; rintro r w2 ⟨rfl, hr⟩)
        | fail)
      exact hr

end

end Go.Proofs.YtcingdaijfaeeaaGreat
