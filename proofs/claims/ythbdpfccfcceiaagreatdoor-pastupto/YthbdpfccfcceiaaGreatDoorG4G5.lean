/-
  The law's comparison of two lists of pairs.
  The law's book: every list that came out reads as its owner wrote it.
-/
import Derived.Test.YthbdpfccfcceiaaGreatDoorG3
import Derived.BigQuiet
import Derived.BigRegion
namespace Go.Proofs.YthbdpfccfcceiaaGreatDoor
open Go.RowKit

theorem cells2_at : ∀ (l : List (ByteArray × ByteArray)) (j : Nat) (hj : j < l.length), (cells2 l)[j * 2]? = some (.string l[j].1) ∧ (cells2 l)[j * 2 + 1]? = some (.string l[j].2)
  | a :: r, 0, _ => by simp [cells2]
  | a :: r, j + 1, hj => by
    have ih := cells2_at r j (by simpa using hj)
    have e : cells2 (a :: r) = .string a.1 :: .string a.2 :: cells2 r := by simp [cells2]
    rw [e, show (j + 1) * 2 = j * 2 + 1 + 1 by omega]
    simpa using ih

theorem pairs_row {w : World} {base n : Nat} {v : Value} {l : List (ByteArray × ByteArray)} (h : w.ownsRow base 105 2 v n (cells2 l)) : l.length = n ∧ ∃ a cap, v = .slice a n cap ∧ n ≤ cap ∧ ∀ j (hj : j < l.length), ∃ g, a = some ⟨g, 0, none⟩ ∧ w.cell? ⟨g, j * 2, none⟩ = some (.string l[j].1) ∧ w.cell? ⟨g, j * 2 + 1, none⟩ = some (.string l[j].2) := by
  have hl : l.length = n := by have := h.1; rw [cells2_len] at this; omega
  refine ⟨hl, ?_⟩
  rcases h.2 with ⟨rfl, rfl⟩ | ⟨g, cap, cur, rfl, hb, hg, hn, hm, hcs, ht⟩
  · exact ⟨none, 0, rfl, Nat.le_refl _, fun j hj => by omega⟩
  · refine ⟨_, cap, rfl, hn, fun j hj => ⟨g, rfl, ?_⟩⟩
    have key : ∀ i u, (cells2 l)[i]? = some u → w.cell? ⟨g, i, none⟩ = some u := fun i u hu => by
      have : w.cell? ⟨g, i, none⟩ = cur[i]? := by simp [World.cell?, hg]
      rw [this, ← Array.getElem?_toList]
      rw [← ht, List.getElem?_take] at hu
      split at hu
      · exact hu
      · cases hu
    obtain ⟨a1, a2⟩ := cells2_at l j hj
    exact ⟨key _ _ a1, key _ _ a2⟩

section
variable {R : Ending → World → Prop} {w : World}

set_option maxRecDepth 20000 in
set_option maxHeartbeats 1000000 in
theorem world_pairs (p : Nat) (v v' : Value) (n : Nat) (xs : List (ByteArray × ByteArray)) (er : Int) (hn : n < 1000000) (hv : w.ownsRow 0 105 2 v n (cells2 xs)) (hv' : w.ownsRow 0 105 2 v' n (cells2 xs))
    (hB : ∀ w1, Kp (fun _ => False) w w1 → Calls Tryz.prog 154 #[.pointer (some ⟨p, 3, none⟩), v] w1 (fun r w2 => r = .returned (.tuple #[]) ∧ R (.returned (.bool true)) w2)) (_hp : p < w.heap.size) :
    Calls Tryz.prog 100 #[.pointer (some ⟨p, 0, none⟩), v, .int .i64 er, v', .int .i64 er] w R := by
  obtain ⟨hl, a, cap, rfl, hc, hx⟩ := pairs_row hv
  obtain ⟨_, a', cap', rfl, hc', hx'⟩ := pairs_row hv'
  have HX := hid_of hx
  have HX' := hid_of hx'
  have HB := hid_of hB
  have hn' : (n : Int) < 1000000 := by omega
  clear hv hv' hx hx' hB
  go_enter Tryz.func100, Tryz.ntmps100
  go_wp2
  go_loopw [11, 12] (fun v11 v12 wr => ∃ i : Nat, i ≤ n ∧ v11 = .bool true ∧ v12 = .int .i64 i ∧ Kp (fun _ => False) w wr) (fun _ v12 _ => n - (intOf v12).toNat)
  case atStart => exact ⟨0, Nat.zero_le _, rfl, rfl, Kp.refl _ _⟩
  case round =>
    obtain ⟨i, hile, rfl, rfl, hkp⟩ := hrel
    by_cases hin : i < n
    · have hin' : (i : Int) < n := by omega
      obtain ⟨g, rfl, q0, q1⟩ := HX.out i (by omega)
      obtain ⟨g', rfl, q0', q1'⟩ := HX'.out i (by omega)
      have r0 := (hkp.cell (World.block_lt_of_cell? w _ q0) (fun h => h)).trans q0
      have r1 := (hkp.cell (World.block_lt_of_cell? w _ q1) (fun h => h)).trans q1
      have r0' := (hkp.cell (World.block_lt_of_cell? w _ q0') (fun h => h)).trans q0'
      have r1' := (hkp.cell (World.block_lt_of_cell? w _ q1') (fun h => h)).trans q1'
      generalize (xs[i]'(by omega)).1 = x1 at r0 r0'
      generalize (xs[i]'(by omega)).2 = x2 at r1 r1'
      have HKP := hid_of hkp
      clear q0 q1 q0' q1' hkp hin
      go_wp2
      go_quiet (fail)
      go_wp2
      go_roundw
      case rel => exact ⟨i + 1, by omega, rfl, by go_num, HKP.out.trans (Kp.drewN (fun _ => False) _ _) (fun _ _ h => h)⟩
      case measure => simp [intOf]; omega
    · have hie : i = n := by omega
      subst hie
      have HKP := hid_of hkp
      clear hkp hile hin
      go_wp2_with (first
        | (go_at_call 154; refine (HB.out wr HKP.out).mono ?_; rintro r w2 ⟨rfl, hr⟩)
        | fail)
      exact hr

end

end Go.Proofs.YthbdpfccfcceiaaGreatDoor

namespace Go.Proofs.YthbdpfccfcceiaaGreatDoor
open Go.RowKit

def worldC (vL vP vK : Value) : Array Value := #[vL, .slice none 0 0, .slice none 0 0, .slice none 0 0, .slice none 0 0, vP, vK, .slice none 0 0, .slice none 0 0]

/-- The law's world and its book in memory. -/
structure Bk (own : Nat → Lab) (w : World) (p : Nat) (vL vP vK : Value) (bk : List (Value × Nat × Int)) : Prop where
  ownP : own p = ⟨0, 0, 0, eb⟩
  world : w.heap[p]? = some (.cells (worldC vL vP vK) 68 (0, 0))
  rowP : w.ownsRow 0 43 1 vP bk.length (bk.map (·.1))
  ownQ : ∀ b, vP.ownBlock = some b → own b = ⟨0, 2, 0, eb⟩
  rowK : w.ownsRow 0 3 1 vK bk.length (bk.map fun q => .int .i64 q.2.2)
  ownK : ∀ b, vK.ownBlock = some b → own b = ⟨0, 3, 0, eb⟩
  four : ∃ q, bk.length = 4 * q
  lists : ∀ q ∈ bk, w.ownsRow 0 105 2 q.1 q.2.1 (cells2 (List.replicate q.2.1 (eb, mark q.2.2)))
  ownR : ∀ q ∈ bk, ∀ b, q.1.ownBlock = some b → (own b).c = 1
  num : ∀ q ∈ bk, 1 ≤ q.2.2 ∧ q.2.2 < 10000000 ∧ q.2.1 < 10000000

theorem row_at {w : World} {base e n : Nat} {v : Value} {xs : List Value} (h : w.ownsRow base e 1 v n xs) (j : Nat) (hj : j < n) : ∃ g cap, v = .slice (some ⟨g, 0, none⟩) n cap ∧ n ≤ cap ∧ w.cell? ⟨g, j, none⟩ = xs[j]? := by
  have hl : xs.length = n := by simpa using h.1
  rcases h.2 with ⟨rfl, rfl⟩ | ⟨g, cap, cur, rfl, hb, hg, hn, hm, hcs, ht⟩
  · omega
  · refine ⟨g, cap, rfl, hn, ?_⟩
    have : w.cell? ⟨g, j, none⟩ = cur[j]? := by simp [World.cell?, hg]
    rw [this, ← Array.getElem?_toList, ← ht, List.getElem?_take, if_pos (by omega)]

theorem conv_mark_drew (k : Int) (w : World) : (convert 48 9 (.slice (some ⟨w.heap.size, 0, none⟩) 2 2)).run Tryz.prog (w.alloc (.cells #[.int .u8 (k % 256), .int .u8 (k / 256 % 256)] 5)).drew = .ok (.string (mark k)) (w.alloc (.cells #[.int .u8 (k % 256), .int .u8 (k / 256 % 256)] 5)).drew := conv_mark k w.drew

section
variable {R : Ending → World → Prop} {own : Nat → Lab} {w : World} {p : Nat} {vL vP vK : Value} {bk : List (Value × Nat × Int)}

set_option maxRecDepth 20000 in
set_option maxHeartbeats 2000000 in
theorem kept_any (h : Bk own w p vL vP vK bk) (hb : bk.length < 10000000) (hR : ∀ w', Kp (fun _ => False) w w' → R (.returned (.bool true)) w') :
    Calls Tryz.prog 32 #[.pointer (some ⟨p, 3, none⟩)] w R := by
  have H := hid_of h
  have HR := hid_of hR
  obtain ⟨aP, capP, hvP, hcP⟩ := row_len h.rowP
  have c3 : w.cell? ⟨p, 3, none⟩ = some (.slice none 0 0) := cell_of h.world 3
  have c5 : w.cell? ⟨p, 5, none⟩ = some vP := cell_of h.world 5
  have c6 : w.cell? ⟨p, 6, none⟩ = some vK := cell_of h.world 6
  have c7 : w.cell? ⟨p, 7, none⟩ = some (.slice none 0 0) := cell_of h.world 7
  have lp : p < w.heap.size := block_lt h.world
  have HLP := hid_of lp
  have hb' : (bk.length : Int) < 10000000 := by omega
  have C5 := hid_of c5
  have C6 := hid_of c6
  have C7 := hid_of c7
  rw [hvP] at c5
  have HVP := hid_of hvP
  clear h hR c6 c7 lp hvP
  go_enter Tryz.func32, Tryz.ntmps32
  go_wp2
  go_loopw [3] (fun v3 wr => v3 = .int .i64 0 ∧ wr = w) (fun _ _ => 0)
  case atStart => exact ⟨rfl, rfl⟩
  case round =>
    obtain ⟨rfl, hww⟩ := hrel
    rw [hww]
    clear hww
    go_wp2
    go_loopw [5] (fun v5 w1 => ∃ i : Nat, i ≤ bk.length ∧ v5 = .int .i64 i ∧ Kp (fun _ => False) w w1) (fun v5 _ => bk.length - (intOf v5).toNat)
    case atStart => exact ⟨0, Nat.zero_le _, rfl, Kp.refl _ _⟩
    case round =>
      obtain ⟨i, hile, rfl, hkp⟩ := hrel
      have d5 := (hkp.cell (a := ⟨p, 5, none⟩) HLP.out (fun h => h)).trans C5.out
      have d6 := (hkp.cell (a := ⟨p, 6, none⟩) HLP.out (fun h => h)).trans C6.out
      have d7 := (hkp.cell (a := ⟨p, 7, none⟩) HLP.out (fun h => h)).trans C7.out
      by_cases hin : i < bk.length
      · obtain ⟨gK, capK, hvK, hcK, q6⟩ := row_at H.out.rowK i hin
        obtain ⟨gP, capP', hvP, hcP', q5⟩ := row_at H.out.rowP i hin
        rw [List.getElem?_map, List.getElem?_eq_getElem hin, Option.map_some] at q5 q6
        have r5 := (hkp.cell (World.block_lt_of_cell? _ _ q5) (fun h => h)).trans q5
        have r6 := (hkp.cell (World.block_lt_of_cell? _ _ q6) (fun h => h)).trans q6
        have hnum := H.out.num bk[i] (List.getElem_mem hin)
        have hlist := H.out.lists bk[i] (List.getElem_mem hin)
        generalize bk[i] = e at q5 q6 r5 r6 hnum hlist
        obtain ⟨u, n, k⟩ := e
        rw [hvP] at d5
        rw [hvK] at d6
        have hin' : (i : Int) < bk.length := by omega
        have HKP := hid_of hkp
        have kc := conv_mark_drew k wr
        obtain ⟨hn1, hn2, hn3⟩ := hnum
        dsimp only at r5 r6 hlist hn1 hn2 hn3
        have HL := hid_of hlist
        clear q5 q6 hkp hlist hvK hvP hin hile d7 
        go_wp2
        go_region
        obtain ⟨hnl, au, capu, rfl, hcu, hx⟩ := pairs_row HL.out
        have HXU := hid_of hx
        have hk2 : Kp (fun _ => False) w (wr.alloc (.cells #[.int .u8 (k % 256), .int .u8 (k / 256 % 256)] 5)).drew := (HKP.out.trans (Kp.alloc (fun _ => False) _ _) (fun _ _ h => h)).trans (Kp.drew (fun _ => False) _) (fun _ _ h => h)
        have hk2' : Kp (fun _ => False) wr (wr.alloc (.cells #[.int .u8 (k % 256), .int .u8 (k / 256 % 256)] 5)).drew := (Kp.alloc (fun _ => False) _ _).trans (Kp.drew (fun _ => False) _) (fun _ _ h => h)
        have HLG : Hid (gP < wr.heap.size) := World.block_lt_of_cell? _ _ r5
        have HLW : Hid (p < wr.heap.size) := World.block_lt_of_cell? _ _ d5
        have R5 := hid_of r5
        have D5 := hid_of d5
        generalize (wr.alloc (.cells #[.int .u8 (k % 256), .int .u8 (k / 256 % 256)] 5)).drew = w2 at *
        have HK2 := hid_of hk2
        have HK2' := hid_of hk2'
        clear hx hk2 kc r6 d6 r5 d5 hk2'
        go_wp2
        go_loopw [7] (fun v7 w3 => ∃ j : Nat, j ≤ n ∧ v7 = .int .i64 j ∧ Kp (fun _ => False) w2 w3) (fun v7 _ => n - (intOf v7).toNat)
        case atStart => exact ⟨0, Nat.zero_le _, rfl, Kp.refl _ _⟩
        case round =>
          obtain ⟨j, hjle, rfl, hkp3⟩ := hrel
          have hk3 := HK2'.out.trans hkp3 (fun _ _ h => h)
          have r5 := (hk3.cell (a := ⟨gP, i, none⟩) HLG.out (fun h => h)).trans R5.out
          have d5 := (hk3.cell (a := ⟨p, 5, none⟩) HLW.out (fun h => h)).trans D5.out
          have hn3' : (n : Int) < 10000000 := by omega
          have HK3 := hid_of (HK2.out.trans hkp3 (fun _ _ h => h))
          have HK3' := hid_of hkp3
          by_cases hjn : j < n
          · have hjn' : (j : Int) < n := by omega
            obtain ⟨gu, rfl, q0, q1⟩ := HXU.out j (by simpa using hjn)
            rw [List.getElem_replicate] at q0 q1
            have z0 := (HK3.out.cell (World.block_lt_of_cell? _ _ q0) (fun h => h)).trans q0
            have z1 := (HK3.out.cell (World.block_lt_of_cell? _ _ q1) (fun h => h)).trans q1
            have z0' : wr.cell? ⟨gu, j * 2, none⟩ = some (.string ⟨#[]⟩) := z0
            clear q0 q1 z0 hkp3 hk3 hjn hjle
            go_wp2
            go_roundw
            case rel => exact ⟨j + 1, by omega, by go_num, HK3'.out⟩
            case measure => simp [intOf]; omega
          · have hje : j = n := by omega
            subst hje
            clear hkp3 hk3 hjn hjle
            go_wp2
            go_roundw
            case rel => exact ⟨i + 1, by omega, by go_num, HK3.out⟩
            case measure => simp [intOf]; omega
      · have hie : i = bk.length := by omega
        rw [HVP.out] at d5
        have HKP := hid_of hkp
        have HIE := hid_of hie
        have hnl : ¬ (i : Int) < bk.length := by omega
        clear hkp hin hile hie d6
        go_wp2
        go_loopw [8] (fun v8 w3 => v8 = .int .i64 0 ∧ w3 = wr) (fun _ _ => 0)
        case atStart => exact ⟨rfl, rfl⟩
        case round =>
          obtain ⟨rfl, hww⟩ := hrel
          rw [hww]
          clear hww
          go_wp2
          exact HR.out _ HKP.out

end

end Go.Proofs.YthbdpfccfcceiaaGreatDoor
