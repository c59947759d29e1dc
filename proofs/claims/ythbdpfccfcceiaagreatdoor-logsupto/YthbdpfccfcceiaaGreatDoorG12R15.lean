/-
  The law's book: every list that came out reads as the caller wrote it.
  The document's answer: Retain.
-/
import Derived.Test.YthbdpfccfcceiaaGreatDoorG4G5T4T5
import Derived.BigQuiet
import Derived.Test.YthbdpfccfcceiaaGreatDoorR13
import Derived.Test.YthbdpfccfcceiaaGreatDoorA1G3
import Derived.Test.YthbdpfccfcceiaaGreatDoorB1B2O1C1
namespace Go.Proofs.YthbdpfccfcceiaaGreatDoor
open Go.RowKit

theorem signs_at (k : Int) {n j : Nat} (h : j < n) : (signs k n)[j]? = some (signV k j) := by
  unfold signs
  rw [List.getElem?_map, List.getElem?_range h]
  rfl
theorem signs_len (k : Int) (n : Nat) : (signs k n).length = n := by simp [signs]
theorem signs_succ (k : Int) (n : Nat) : signs k (n + 1) = signs k n ++ [signV k n] := by
  unfold signs
  rw [List.range_succ, List.map_append]
  rfl

theorem conv_mark_at (k : Int) (w : World) (g : Nat) (hg : w.heap[g]? = some (.cells (markC k) 5 (0, 0))) : (convert 48 9 (.slice (some ⟨g, 0, none⟩) 2 2)).run Tryz.prog w = .ok (.string (mark k)) w := by
  have h := run_convert_bytes_back (P := Tryz.prog) w 48 9 5 ⟨g, 0, none⟩ 2 [UInt8.ofNat (k % 256).toNat, UInt8.ofNat (k / 256 % 256).toNat] Tryz.underlying48 Tryz.underlying5 Tryz.underlying9 (fun j hj => ?_)
  · exact h
  · have e1 : ((UInt8.ofNat (k % 256).toNat).toNat : Int) = k % 256 := by
      rw [UInt8.toNat_ofNat']; omega
    have e2 : ((UInt8.ofNat (k / 256 % 256).toNat).toNat : Int) = k / 256 % 256 := by
      rw [UInt8.toNat_ofNat']; omega
    rcases (by simpa using hj : j < 2) with hj2
    rcases (by omega : j = 0 ∨ j = 1) with rfl | rfl
    · show World.cell? _ ⟨g, 0, none⟩ = _
      rw [cell_of hg]
      show some _ = some _
      simp only [List.getElem_cons_zero, e1]
      rfl
    · show World.cell? _ ⟨g, 1, none⟩ = _
      rw [cell_of hg]
      show some _ = some _
      simp only [List.getElem_cons_succ, List.getElem_cons_zero, e2]
      rfl

section
variable {R : Ending → World → Prop} {own : Nat → Lab} {w : World} {p : Nat} {vL vP vK : Value} {bk : BO}

set_option maxRecDepth 20000 in
set_option maxHeartbeats 400000 in
theorem sign_any (k : Int) (x : Int) (i : Nat) (hx : x = i) (w : World) (hk : 0 ≤ k ∧ k < 1000000000000) (hi : i < 100000000) (hR : R (.returned (.int .u8 (sgnI k i))) w) :
    Calls Tryz.prog 65 #[.int .i64 k, .int .i64 x] w R := by
  subst hx
  obtain ⟨hk1, hk2⟩ := hk
  have hi' : (i : Int) < 100000000 := by omega
  by_cases q : i % 2 = 0
  · have e : sgnI k i = k % 256 := by simp [sgnI, q]
    rw [e] at hR
    have HR := hid_of hR
    have q' : (i : Int) % 2 = 0 := by omega
    have q2 : ((i : Int) % 2 == 0) = true := by simpa using q'
    clear hR e q
    go_enter Tryz.func65, Tryz.ntmps65
    go_wp2
    exact HR.out
  · have e : sgnI k i = k / 256 % 256 := by simp [sgnI, q]
    rw [e] at hR
    have HR := hid_of hR
    have q' : ¬ (i : Int) % 2 = 0 := by omega
    have q2 : ((i : Int) % 2 == 0) = false := by simpa using q'
    clear hR e q
    go_enter Tryz.func65, Tryz.ntmps65
    go_wp2
    exact HR.out

set_option maxRecDepth 20000 in
set_option maxHeartbeats 4000000 in
theorem kept_any (h : Bk own w p vL vP vK bk) (hq : Bq own w bk) (hb : bk.l.length < 10000000) (hb2 : bk.b.length < 100000000000) (hb3 : bk.f.length < 10000000) (hR : ∀ w', Kp (fun _ => False) w w' → R (.returned (.bool true)) w') :
    Calls Tryz.prog 32 #[.pointer (some ⟨p, 3, none⟩)] w R := by
  have H := hid_of h
  have HQ := hid_of hq
  have HR := hid_of hR
  obtain ⟨aP, capP, hvP, hcP⟩ := row_len h.rowP
  obtain ⟨aB, capB, hvB, hcB⟩ := row_len hq.rowB
  obtain ⟨aF, capF, hvF, hcF⟩ := row_len hq.rowF
  have c3 : w.cell? ⟨p, 3, none⟩ = some bk.vB := cell_of h.world 3
  have c4 : w.cell? ⟨p, 4, none⟩ = some bk.vI := cell_of h.world 4
  have c5 : w.cell? ⟨p, 5, none⟩ = some vP := cell_of h.world 5
  have c6 : w.cell? ⟨p, 6, none⟩ = some vK := cell_of h.world 6
  have c7 : w.cell? ⟨p, 7, none⟩ = some bk.vF := cell_of h.world 7
  have c8 : w.cell? ⟨p, 8, none⟩ = some bk.vJ := cell_of h.world 8
  have lp : p < w.heap.size := block_lt h.world
  have HLP := hid_of lp
  have hb' : (bk.l.length : Int) < 10000000 := by omega
  have hb2' : (bk.b.length : Int) < 100000000000 := by omega
  have hb3' : (bk.f.length : Int) < 10000000 := by omega
  have C3 := hid_of c3
  have C4 := hid_of c4
  have C5 := hid_of c5
  have C6 := hid_of c6
  have C7 := hid_of c7
  have C8 := hid_of c8
  have HVP := hid_of hvP
  have HVB := hid_of hvB
  have HVF := hid_of hvF
  clear h hq hR c3 c4 c5 c6 c7 c8 lp hvP hvB hvF hcP hcB hcF
  go_enter Tryz.func32, Tryz.ntmps32
  go_wp2
  go_loopw [3] (fun v3 wr => ∃ i : Nat, i ≤ bk.b.length ∧ v3 = .int .i64 i ∧ Kp (fun _ => False) w wr) (fun v3 _ => bk.b.length - (intOf v3).toNat)
  case atStart => exact ⟨0, Nat.zero_le _, rfl, Kp.refl _ _⟩
  case round =>
    obtain ⟨i, hile, rfl, hkp⟩ := hrel
    have d3 := (hkp.cell (a := ⟨p, 3, none⟩) HLP.out (fun h => h)).trans C3.out
    have HKP := hid_of hkp
    rw [HVB.out] at d3
    by_cases hin : i < bk.b.length
    · have hin' : (i : Int) < bk.b.length := by omega
      obtain ⟨gI, capI, hvI, hcI, q4⟩ := row_at HQ.out.rowI i hin
      obtain ⟨gB, capB', hvB', hcB', q3⟩ := row_at HQ.out.rowB i hin
      rw [List.getElem?_map, List.getElem?_eq_getElem hin, Option.map_some] at q3 q4
      have hnum := HQ.out.numB bk.b[i] (List.getElem_mem hin)
      have hlist := HQ.out.listsB bk.b[i] (List.getElem_mem hin)
      generalize bk.b[i] = e at q3 q4 hnum hlist
      obtain ⟨u, n, k⟩ := e
      rw [HVB.out] at hvB'
      injection hvB' with hvB' _ _
      subst hvB'
      obtain ⟨hn1, hn2, hn3⟩ := hnum
      dsimp only at q3 q4 hlist hn1 hn2 hn3
      have HL := hid_of hlist
      obtain ⟨au, capu, rfl, hcu⟩ := row_len hlist
      have Q3 := hid_of q3
      have Q4 := hid_of q4
      have HVI := hid_of hvI
      have HIN := hid_of hin
      clear q3 q4 hkp hlist hvI hin hile hcu hcI hcB'
      go_wp2
      go_loopw [4] (fun v4 w1 => ∃ j : Nat, j ≤ n ∧ v4 = .int .i64 j ∧ Kp (fun _ => False) w w1) (fun v4 _ => n - (intOf v4).toNat)
      case atStart => exact ⟨0, Nat.zero_le _, rfl, HKP.out⟩
      case round =>
        obtain ⟨j, hjle, rfl, hkp1⟩ := hrel
        have d3 := (hkp1.cell (a := ⟨p, 3, none⟩) HLP.out (fun h => h)).trans C3.out
        have d4 := (hkp1.cell (a := ⟨p, 4, none⟩) HLP.out (fun h => h)).trans C4.out
        rw [HVB.out] at d3
        rw [HVI.out] at d4
        have r3 := (hkp1.cell (World.block_lt_of_cell? _ _ Q3.out) (fun h => h)).trans Q3.out
        have r4 := (hkp1.cell (World.block_lt_of_cell? _ _ Q4.out) (fun h => h)).trans Q4.out
        have HK1 := hid_of hkp1
        have hn3' : (n : Int) < 10000000 := by omega
        by_cases hjn : j < n
        · have hjn' : (j : Int) < n := by omega
          obtain ⟨gu, capu', hvu, hcu', qj⟩ := row_at HL.out j hjn
          injection hvu with hvu _ _
          subst hvu
          rw [signs_at k hjn] at qj
          have rj := (hkp1.cell (World.block_lt_of_cell? _ _ qj) (fun h => h)).trans qj
          have HSG := hid_of (fun (q : Nat) => sign_any (R := fun e w' => e = .returned (.int .u8 (sgnI k j)) ∧ w' = wr.drewN q) k j j rfl (wr.drewN q) ⟨by omega, by omega⟩ (by omega) ⟨rfl, rfl⟩)
          clear hkp1 hjle qj hcu'
          unfold signV at rj
          generalize sgnI k j = z at rj HSG
          go_wp2
          go_quiet (first | (go_at_call 65; exact Calls.quiet_of_same (HSG.out _)))
          all_goals go_wp2
          all_goals go_roundw
          case rel => exact ⟨j + 1, by omega, by go_num, HK1.out.trans (Kp.drewN _ _ _) (fun _ _ h => h)⟩
          case measure => simp [intOf]; omega
        · have hje : ¬ (j : Int) < n := by omega
          clear hkp1 hjle d4 r4
          go_wp2
          go_roundw
          case rel => exact ⟨i + 1, by have := HIN.out; omega, by go_num, HK1.out⟩
          case measure => have := HIN.out; simp [intOf]; omega
    · have hnl : ¬ (i : Int) < bk.b.length := by omega
      clear hkp hin hile
      go_wp2
      go_loopw [5] (fun v5 w1 => ∃ i : Nat, i ≤ bk.l.length ∧ v5 = .int .i64 i ∧ Kp (fun _ => False) w w1) (fun v5 _ => bk.l.length - (intOf v5).toNat)
      case atStart => exact ⟨0, Nat.zero_le _, rfl, HKP.out⟩
      case round =>
        clear d3 HKP
        obtain ⟨i, hile, rfl, hkp⟩ := hrel
        have d5 := (hkp.cell (a := ⟨p, 5, none⟩) HLP.out (fun h => h)).trans C5.out
        have d6 := (hkp.cell (a := ⟨p, 6, none⟩) HLP.out (fun h => h)).trans C6.out
        by_cases hin : i < bk.l.length
        · obtain ⟨gK, capK, hvK, hcK, q6⟩ := row_at H.out.rowK i hin
          obtain ⟨gP, capP', hvP, hcP', q5⟩ := row_at H.out.rowP i hin
          rw [List.getElem?_map, List.getElem?_eq_getElem hin, Option.map_some] at q5 q6
          have r5 := (hkp.cell (World.block_lt_of_cell? _ _ q5) (fun h => h)).trans q5
          have r6 := (hkp.cell (World.block_lt_of_cell? _ _ q6) (fun h => h)).trans q6
          have hnum := H.out.num bk.l[i] (List.getElem_mem hin)
          have hlist := H.out.lists bk.l[i] (List.getElem_mem hin)
          generalize bk.l[i] = e at q5 q6 r5 r6 hnum hlist
          obtain ⟨u, n, k⟩ := e
          rw [hvP] at d5
          rw [hvK] at d6
          have hin' : (i : Int) < bk.l.length := by omega
          have HKP := hid_of hkp
          have kc := conv_mark_drew k wr
          obtain ⟨hn1, hn2, hn3⟩ := hnum
          dsimp only at r5 r6 hlist hn1 hn2 hn3
          have HL := hid_of hlist
          clear q5 q6 hkp hlist hvK hvP hin hile
          go_wp2
          go_region
          obtain ⟨hnl, au, capu, rfl, hcu, hx⟩ := pairs_row HL.out
          have HXU := hid_of hx
          have hk2 : Kp (fun _ => False) w (wr.alloc (.cells #[.int .u8 (k % 256), .int .u8 (k / 256 % 256)] 5)).drew := (HKP.out.trans (Kp.alloc (fun _ => False) _ _) (fun _ _ h => h)).trans (Kp.drew (fun _ => False) _) (fun _ _ h => h)
          have hk2' : Kp (fun _ => False) wr (wr.alloc (.cells #[.int .u8 (k % 256), .int .u8 (k / 256 % 256)] 5)).drew := (Kp.alloc (fun _ => False) _ _).trans (Kp.drew (fun _ => False) _) (fun _ _ h => h)
          have HLG : Hid (gP < wr.heap.size) := World.block_lt_of_cell? _ _ r5
          have HLW : Hid (p < wr.heap.size) := World.block_lt_of_cell? _ _ d5
          have R5 := hid_of r5
          have D5 := hid_of d5
          generalize (wr.alloc (.cells #[.int .u8 (k % 256), .int .u8 (k / 256 % 256)] 5)).drew = w2 at *
          have HK2 := hid_of hk2
          have HK2' := hid_of hk2'
          clear hx hk2 kc r6 d6 r5 d5 hk2'
          go_wp2
          go_loopw [7] (fun v7 w3 => ∃ j : Nat, j ≤ n ∧ v7 = .int .i64 j ∧ Kp (fun _ => False) w2 w3) (fun v7 _ => n - (intOf v7).toNat)
          case atStart => exact ⟨0, Nat.zero_le _, rfl, Kp.refl _ _⟩
          case round =>
            obtain ⟨j, hjle, rfl, hkp3⟩ := hrel
            have hk3 := HK2'.out.trans hkp3 (fun _ _ h => h)
            have r5 := (hk3.cell (a := ⟨gP, i, none⟩) HLG.out (fun h => h)).trans R5.out
            have d5 := (hk3.cell (a := ⟨p, 5, none⟩) HLW.out (fun h => h)).trans D5.out
            have hn3' : (n : Int) < 10000000 := by omega
            have HK3 := hid_of (HK2.out.trans hkp3 (fun _ _ h => h))
            have HK3' := hid_of hkp3
            by_cases hjn : j < n
            · have hjn' : (j : Int) < n := by omega
              obtain ⟨gu, rfl, q0, q1⟩ := HXU.out j (by simpa using hjn)
              rw [List.getElem_replicate] at q0 q1
              have z0 := (HK3.out.cell (World.block_lt_of_cell? _ _ q0) (fun h => h)).trans q0
              have z1 := (HK3.out.cell (World.block_lt_of_cell? _ _ q1) (fun h => h)).trans q1
              have z0' : wr.cell? ⟨gu, j * 2, none⟩ = some (.string ⟨#[]⟩) := z0
              clear q0 q1 z0 hkp3 hk3 hjn hjle
              go_wp2
              go_roundw
              case rel => exact ⟨j + 1, by omega, by go_num, HK3'.out⟩
              case measure => simp [intOf]; omega
            · have hje : j = n := by omega
              subst hje
              clear hkp3 hk3 hjn hjle
              go_wp2
              go_roundw
              case rel => exact ⟨i + 1, by omega, by go_num, HK3.out⟩
              case measure => simp [intOf]; omega
        · rw [HVP.out] at d5
          have HKP := hid_of hkp
          have hnl : ¬ (i : Int) < bk.l.length := by omega
          clear hkp hin hile d6
          go_wp2
          go_loopw [8] (fun v8 w1 => ∃ i : Nat, i ≤ bk.f.length ∧ v8 = .int .i64 i ∧ Kp (fun _ => False) w w1) (fun v8 _ => bk.f.length - (intOf v8).toNat)
          case atStart => exact ⟨0, Nat.zero_le _, rfl, HKP.out⟩
          case round =>
            clear d5 HKP
            obtain ⟨i, hile, rfl, hkp⟩ := hrel
            have d7 := (hkp.cell (a := ⟨p, 7, none⟩) HLP.out (fun h => h)).trans C7.out
            have d8 := (hkp.cell (a := ⟨p, 8, none⟩) HLP.out (fun h => h)).trans C8.out
            have HKP := hid_of hkp
            by_cases hin : i < bk.f.length
            · obtain ⟨gJ, capJ, hvJ, hcJ, q8⟩ := row_at HQ.out.rowJ i hin
              obtain ⟨gF, capF', hvF', hcF', q7⟩ := row_at HQ.out.rowF i hin
              rw [List.getElem?_map, List.getElem?_eq_getElem hin, Option.map_some] at q7 q8
              have r7 := (hkp.cell (World.block_lt_of_cell? _ _ q7) (fun h => h)).trans q7
              have r8 := (hkp.cell (World.block_lt_of_cell? _ _ q8) (fun h => h)).trans q8
              have hnum := HQ.out.numF bk.f[i] (List.getElem_mem hin)
              have hlist := HQ.out.listsF bk.f[i] (List.getElem_mem hin)
              have hmark := (HQ.out.markF bk.f[i] (List.getElem_mem hin)).1
              generalize bk.f[i] = e at q7 q8 r7 r8 hnum hlist hmark
              obtain ⟨u, n, k, gm⟩ := e
              rw [hvF'] at d7
              rw [hvJ] at d8
              have hin' : (i : Int) < bk.f.length := by omega
              have kc := conv_mark_drew k wr
              obtain ⟨hn1, hn2, hn3⟩ := hnum
              dsimp only at r7 r8 hlist hn1 hn2 hn3 hmark
              have HL := hid_of hlist
              have HM := hid_of hmark
              clear q7 q8 hkp hlist hvJ hvF' hin hile hmark hcJ hcF'
              go_wp2
              go_region
              obtain ⟨au, capu, rfl, hcu⟩ := row_len HL.out
              have hk2 : Kp (fun _ => False) w (wr.alloc (.cells #[.int .u8 (k % 256), .int .u8 (k / 256 % 256)] 5)).drew := (HKP.out.trans (Kp.alloc (fun _ => False) _ _) (fun _ _ h => h)).trans (Kp.drew (fun _ => False) _) (fun _ _ h => h)
              have hk2' : Kp (fun _ => False) wr (wr.alloc (.cells #[.int .u8 (k % 256), .int .u8 (k / 256 % 256)] 5)).drew := (Kp.alloc (fun _ => False) _ _).trans (Kp.drew (fun _ => False) _) (fun _ _ h => h)
              have HLG : Hid (gF < wr.heap.size) := World.block_lt_of_cell? _ _ r7
              have HLW : Hid (p < wr.heap.size) := World.block_lt_of_cell? _ _ d7
              have R7 := hid_of r7
              have D7 := hid_of d7
              generalize (wr.alloc (.cells #[.int .u8 (k % 256), .int .u8 (k / 256 % 256)] 5)).drew = w2 at *
              have HK2 := hid_of hk2
              have HK2' := hid_of hk2'
              clear hk2 kc r8 d8 r7 d7 hk2' hcu
              go_wp2
              go_loopw [10] (fun v10 w3 => ∃ j : Nat, j ≤ n ∧ v10 = .int .i64 j ∧ Kp (fun _ => False) w2 w3) (fun v10 _ => n - (intOf v10).toNat)
              case atStart => exact ⟨0, Nat.zero_le _, rfl, Kp.refl _ _⟩
              case round =>
                obtain ⟨j, hjle, rfl, hkp3⟩ := hrel
                have hk3 := HK2'.out.trans hkp3 (fun _ _ h => h)
                have r7 := (hk3.cell (a := ⟨gF, i, none⟩) HLG.out (fun h => h)).trans R7.out
                have d7 := (hk3.cell (a := ⟨p, 7, none⟩) HLW.out (fun h => h)).trans D7.out
                have hn3' : (n : Int) < 10000000 := by omega
                have HK3 := hid_of (HK2.out.trans hkp3 (fun _ _ h => h))
                have HK3' := hid_of hkp3
                by_cases hjn : j < n
                · have hjn' : (j : Int) < n := by omega
                  obtain ⟨gu, capu', hvu, hcu', qj⟩ := row_at HL.out j hjn
                  injection hvu with hvu _ _
                  subst hvu
                  rw [List.getElem?_replicate, if_pos hjn] at qj
                  have rj := (HK3.out.cell (World.block_lt_of_cell? _ _ qj) (fun h => h)).trans qj
                  unfold markV at rj
                  have kcm := conv_mark_at k wr gm ((HK3.out.block gm (block_lt HM.out) (fun h => h)).trans HM.out)
                  clear qj hkp3 hk3 hjn hjle hcu'
                  go_wp2
                  go_roundw
                  case rel => exact ⟨j + 1, by omega, by go_num, HK3'.out⟩
                  case measure => simp [intOf]; omega
                · have hje : j = n := by omega
                  subst hje
                  clear hkp3 hk3 hjn hjle
                  go_wp2
                  go_roundw
                  case rel => exact ⟨i + 1, by omega, by go_num, HK3.out⟩
                  case measure => simp [intOf]; omega
            · rw [HVF.out] at d7
              have hnl : ¬ (i : Int) < bk.f.length := by omega
              clear hkp hin hile d8
              go_wp2
              exact HR.out _ HKP.out

end

end Go.Proofs.YthbdpfccfcceiaaGreatDoor

namespace Go.Proofs.YthbdpfccfcceiaaGreatDoor
open Go.RowKit

def horY (s : YS) (n : Int) : YS := { s with hor := n, lg := if s.hor < n then s.lg ++ [bodyH n.toNat] else s.lg }

/-- A transaction that is not over sees less than a moment. -/
def PinY (s : YS) (t : Int) : Prop := ∃ i, ∃ hi : i < s.txs.length, (s.txs[i]).over = false ∧ (s.txs[i]).sees < t

theorem four_new2 (w : World) (p : Nat) (t : Int) (o : Obj) (x1 x2 x3 x4 : Value) (u : TypeId) : ∀ j q, [x1, x2, x3, x4][j]? = some q → (((w.setCell ⟨p, 1, none⟩ (.int .i64 t)).alloc o).alloc (.cells #[x1, x2, x3, x4] u)).cell? ((⟨w.heap.size + 1, 0, none⟩ : Addr).add j) = some q := by
  have h := four_new ((w.setCell ⟨p, 1, none⟩ (.int .i64 t)).alloc o) x1 x2 x3 x4 u
  have e : ((w.setCell ⟨p, 1, none⟩ (.int .i64 t)).alloc o).heap.size = w.heap.size + 1 := by simp [World.setCell]
  rw [e] at h
  exact h

section
variable {own own' : Nat → Lab} {c : Nat} {w w' : World} {p : Nat} {s : YS} {vL vT vG : Value} {sv lg : List Value}
variable {R : Ending → World → Prop}

theorem YR.setHor (h : YR own c w p s vL vT vG sv lg) (n : Int) : YR own c (w.setCell ⟨p, 1, none⟩ (.int .i64 n)) p (horY s n) vL vT vG sv lg := by
  have hb : ∀ b, b ≠ p → (w.setCell ⟨p, 1, none⟩ (.int .i64 n)).heap[b]? = w.heap[b]? := fun b hb => Below.heap_setCell w _ _ b hb
  refine ⟨h.ownP, ?_, ?_, h.ownL, h.len, ?_, h.ownT, fun i hi hj => ?_, h.ownX, ?_, h.ownG⟩
  · rw [heap_setCell_at h.store]; simp [horY]
  · exact ownsRow_block h.rowL (fun b e => hb b (lab_ne2 (own := own) (by rw [h.ownL b e, h.ownP]; simp)))
  · exact ownsRow_block h.rowT (fun b e => hb b (lab_ne2 (own := own) (by rw [h.ownT b e, h.ownP]; simp)))
  · exact ownsRow_block (h.rowX i hi hj) (fun b e => hb b (lab_ne2 (own := own) (by rw [h.ownX i hj b e, h.ownP]; simp)))
  · exact ownsRow_block h.rowG (fun b e => hb b (lab_ne2 (own := own) (by rw [h.ownG b e, h.ownP]; simp)))

set_option maxRecDepth 20000 in
set_option maxHeartbeats 4000000 in
theorem y_retain (h : YR own c w p s vL vT vG sv lg) (hB : YB s) (hbk : s.bku = .slice none 0 0) (t : Int) (hlg : lg.length < 1000000) (hh : 0 ≤ s.hor) (hn : s.now ≤ 2000)
    (h1 : t < s.hor ∨ s.now < t → R (.returned (.int .i64 1)) w)
    (h2 : ¬ t < s.hor → ¬ s.now < t → PinY s t → R (.returned (.int .i64 8)) w)
    (h3 : ¬ s.now < t → ¬ PinY s t → t = s.hor → R (.returned (.int .i64 0)) w)
    (h4 : ¬ s.now < t → ¬ PinY s t → s.hor < t → ∀ w' own' vG' x, Kp (fun b => (own b).c = c) w w' → (∀ b, b < w.heap.size → own' b = own b) → YR own' c w' p (horY s t) vL vT vG' sv (lg ++ [x]) → BR w.heap.size w' x (bodyH t.toNat) → (∀ g, x.ownBlock = some g → own' g = own g) → R (.returned (.int .i64 0)) w') :
    Calls Tryz.prog 110 #[.pointer (some ⟨p, 0, none⟩), .int .i64 t] w R := by
  have H := hid_of h
  have c1 : w.cell? ⟨p, 1, none⟩ = some (.int .i64 s.hor) := cell_of h.store 1
  have c2 : w.cell? ⟨p, 2, none⟩ = some (.int .i64 s.now) := cell_of h.store 2
  by_cases ha : t < s.hor
  · have HR := h1 (Or.inl ha)
    clear h h1 h2 h3 h4 hB hbk hlg hh hn
    go_enter Tryz.func110, Tryz.ntmps110
    go_wp2
    exact HR
  · by_cases hb : s.now < t
    · have HR := h1 (Or.inr hb)
      clear h h1 h2 h3 h4 hB hbk hlg hh hn
      go_enter Tryz.func110, Tryz.ntmps110
      go_wp2
      exact HR
    · obtain ⟨aT, capT, hvT, _⟩ := row_len h.rowT
      have c3 : w.cell? ⟨p, 3, none⟩ = some (.slice aT s.txs.length capT) := (cell_of h.store 3).trans (by rw [hvT]; rfl)
      have c6 : w.cell? ⟨p, 6, none⟩ = some (.slice none 0 0) := (cell_of h.store 6).trans (by rw [hbk]; rfl)
      have HH2 := hid_of (h2 ha hb)
      have HH3 := hid_of (h3 hb)
      have HH4 := hid_of (h4 hb)
      have HVT := hid_of hvT
      have htl : (s.txs.length : Int) < 1000000000000 := by have := hB.txs; omega
      have HLG := hid_of hlg
      have HHN := hid_of (And.intro hh hn)
      clear h h1 h2 h3 h4 hB hbk hlg hh hn hvT
      go_enter Tryz.func110, Tryz.ntmps110
      go_wp2
      go_loopw [5] (fun v5 wr => ∃ i : Nat, i ≤ s.txs.length ∧ v5 = .int .i64 i ∧ wr = w ∧ ∀ k (hk : k < s.txs.length), k < i → ¬ ((s.txs[k]).over = false ∧ (s.txs[k]).sees < t)) (fun v5 _ => s.txs.length - (intOf v5).toNat)
      case atStart => exact ⟨0, Nat.zero_le _, rfl, rfl, fun k _ hk => absurd hk (by omega)⟩
      case round =>
        obtain ⟨i, hile, rfl, hww, hno⟩ := hrel
        rw [hww]
        clear hww
        have HNO := hid_of hno
        clear hno
        by_cases hin : i < s.txs.length
        · have hin' : (i : Int) < s.txs.length := by omega
          obtain ⟨g, cap, hv, q0, q1, q2, q3, q4⟩ := H.out.txAt i hin
          clear q2 q3 q4
          rw [HVT.out] at hv
          injection hv with hv1 _ _
          subst hv1
          have HIN := hid_of hin
          generalize hov : (s.txs[i]).over = ov at q0
          generalize hse : (s.txs[i]).sees = se at q1
          have HOV := hid_of hov
          have HSE := hid_of hse
          clear hov hse hin hile
          cases ov with
          | true =>
            go_wp2
            go_roundw
            case rel =>
              refine ⟨i + 1, by have := HIN.out; omega, by go_num, by first | rfl | trivial, fun k hk hki => ?_⟩
              by_cases hk2 : k = i
              · subst hk2
                intro h
                exact Bool.noConfusion (h.1.symm.trans HOV.out)
              · exact HNO.out k hk (by omega)
            case measure => have := HIN.out; simp [intOf]; omega
          | false =>
            by_cases hlt : se < t
            · have HF := hid_of (HH2.out ⟨i, HIN.out, HOV.out, by have e : (s.txs[i]'HIN.out).sees = se := HSE.out; omega⟩)
              go_wp2
              exact HF.out
            · go_wp2
              go_roundw
              case rel =>
                refine ⟨i + 1, by have := HIN.out; omega, by go_num, by first | rfl | trivial, fun k hk hki => ?_⟩
                by_cases hk2 : k = i
                · subst hk2
                  intro h
                  have e : (s.txs[k]).sees = se := HSE.out
                  have h2 := h.2
                  omega
                · exact HNO.out k hk (by omega)
              case measure => have := HIN.out; simp [intOf]; omega
        · have hnl : ¬ (i : Int) < s.txs.length := by omega
          have hnp : ¬ PinY s t := fun ⟨k, hk, h1, h2⟩ => HNO.out k hk (by omega) ⟨h1, h2⟩
          have HNP := hid_of hnp
          clear hin hile hnp
          go_wp2
          go_loopw [6] (fun v6 wr => v6 = .int .i64 0 ∧ wr = w) (fun _ _ => 0)
          case atStart => exact ⟨rfl, rfl⟩
          case round =>
            obtain ⟨rfl, hww⟩ := hrel
            rw [hww]
            clear hww
            by_cases heq : s.hor < t
            · have hf1 : w.frozen? ⟨p, 1, none⟩ = false := frozen_of H.out.store 1
              obtain ⟨iU, hU⟩ := info_parts infoByte
              have HIU := hid_of hU
              obtain ⟨iB, hB⟩ := info_parts infoBytes
              have HIB := hid_of hB
              have HY1 := hid_of (H.out.setHor t)
              have H4 := hid_of (HH4.out HNP.out heq)
              have HT0 : Hid (0 ≤ t ∧ t ≤ 10000) := ⟨by have := HHN.out.1; omega, by have := HHN.out.2; omega⟩
              have LP : Hid (p < w.heap.size) := block_lt H.out.store
              have NPG : Hid (vG.ownBlock ≠ some p) := fun e => by
                have := H.out.ownG p e
                rw [H.out.ownP] at this; simp at this
              have HS1 : Hid ((w.setCell ⟨p, 1, none⟩ (.int .i64 t)).heap.size = w.heap.size) := by show _ = _; simp [World.setCell]
              have ROW0 : Hid (((w.setCell ⟨p, 1, none⟩ (.int .i64 t)).alloc (.cells #[.int .u8 72] 5)).ownsRow w.heap.size 5 1 (.slice (some ⟨w.heap.size, 0, none⟩) 1 1) 1 [.int .u8 72]) := by
                have e := heap_alloc_new (w.setCell ⟨p, 1, none⟩ (.int .i64 t)) (.cells #[.int .u8 72] 5)
                rw [HS1.out] at e
                exact ⟨by simp, Or.inr ⟨w.heap.size, 1, #[.int .u8 72], rfl, Nat.le_refl _, e, Nat.le_refl _, by unfold maxLen; omega, by simp, by simp⟩⟩
              clear hU hB
              go_wp2_with (first
                | (go_at_call 161; refine four_x t _ HT0.out.1 HT0.out.2 (fun za zb zc zd hby => ?_))
                | (at_builtin; refine wpL_append_keep rfl _ _ 48 rfl w.heap.size 5 iU (.int .u8 0) 1 1 Tryz.underlying48 HIU.out.1 HIU.out.2.1 HIU.out.2.2.1 HIU.out.2.2.2 rfl (by decide) _ _ _ rfl (ROW0.out.alloc _) ⟨w.heap.size + 1, 0, none⟩ 4 4 [.int .u8 za, .int .u8 zb, .int .u8 zc, .int .u8 zd] rfl rfl ?_ (by simp [Value.oneCell']) (by decide) (by decide) (by simp [World.setCell]; omega) (by decide) ?_; (exact four_new2 w p t _ _ _ _ _ _); intro v2 w2 own2 grow2 loc2 keep2; have hk2 := ((Kp.alloc (fun b => b = w.heap.size) (w.setCell ⟨p, 1, none⟩ (.int .i64 t)) (.cells #[.int .u8 72] 5)).trans (Kp.alloc (fun b => b = w.heap.size) _ (.cells #[.int .u8 za, .int .u8 zb, .int .u8 zc, .int .u8 zd] 5)) (fun _ _ h => h)).trans (Kp.of_grown (S := fun b => b = w.heap.size) grow2 (fun k h => by injection h with h; exact h.symm)) (fun _ _ h => h); have hp1 := heap_setCell_at (i := 1) H.out.store (.int .i64 t); have hp2 := mbs hk2 hp1 (fun h => by have := LP.out; omega); have y4 : w2.cell? ⟨p, 4, none⟩ = some vG := cell_of hp2 4; obtain ⟨a2, cap2, rfl, _⟩ := row_len own2; have HB2 : Hid (BR w.heap.size w2 (.slice a2 5 cap2) (bodyH t.toNat)) := (by show World.ownsRow _ _ _ _ _ _ _; rw [show (bodyH t.toNat).length = 5 from rfl, ← hby]; exact own2); have HK2 := hid_of hk2; have HP2 := hid_of hp2; have RG := hid_of (ownsRow_kp HY1.out.rowG hk2 (fun b hb h => by have h1 := (H.out.rowG.lt b hb).2; omega)); clear hk2 hp1 hp2 own2 grow2 loc2 keep2)
                | (at_builtin; refine wpL_append_keep rfl _ _ 37 rfl 0 48 iB (.slice none 0 0) 1 24 Tryz.underlying37 HIB.out.1 HIB.out.2.1 HIB.out.2.2.1 HIB.out.2.2.2 rfl (by decide) _ _ _ rfl (RG.out.alloc _) ⟨w2.heap.size, 0, none⟩ 1 1 [.slice a2 5 cap2] rfl rfl (cell_one_new _ _ _) (by simp [Value.oneCell']) (by have := HLG.out; unfold maxLen; omega) (by have := HLG.out; omega) (Nat.zero_le _) (by decide) ?_; intro v3 w3 own3 grow3 loc3 keep3; have hk3 := after_app (S := fun b => vG.ownBlock = some b) grow3 (fun _ h => h); have hp3 := mbs hk3 HP2.out NPG.out; have y4 : w3.cell? ⟨p, 4, none⟩ = some vG := cell_of hp3 4; have yf4 := frozen_of hp3 4; obtain ⟨a3, cap3, rfl, _⟩ := row_len own3; have HO3 := hid_of own3; have HG3 := hid_of grow3; have HL3 := hid_of loc3; have HK3 := hid_of hk3; clear hk3 hp3 own3 grow3 loc3 keep3)
                | fail)
              have s2 := HK2.out.size
              rw [HS1.out] at s2
              have Y2 : YR own _ (w2.alloc (.cells #[.slice a2 5 cap2] 48)) p (horY s t) vL vT vG sv lg := HY1.out.frame (fun b hb _ => by
                rw [HS1.out] at hb
                rw [Below.heap_alloc _ _ _ (by omega)]
                exact HK2.out.block b (by rw [HS1.out]; exact hb) (by omega)) (fun _ _ _ => rfl)
              have Y3 := Y2.addLog (Kp.of_grown (S := fun b => vG.ownBlock = some b) HG3.out (fun _ h => h)) (.slice a2 5 cap2) HO3.out (HL3.out.imp id (fun h => ⟨_, h, Nat.le_refl _⟩))
              have kk : Kp (fun b => (own b).c = _) w (w3.setCell ⟨p, 4, none⟩ (.slice a3 (lg.length + 1) cap3)) :=
                (((Kp.setCell (S := fun b => (own b).c = _) w ⟨p, 1, none⟩ (.int .i64 t) (by show (own p).c = _; rw [H.out.ownP])).trans HK2.out (fun b hb h => by omega)).trans HK3.out (fun b hb h => by show (own b).c = _; rw [H.out.ownG b h])).trans (Kp.setCell (S := fun b => b = p) w3 ⟨p, 4, none⟩ _ rfl) (fun b hb h => by show (own b).c = _; rw [h, H.out.ownP])
              have z1 : ∀ b, (Value.slice a2 5 cap2).ownBlock = some b → w.heap.size ≤ b ∧ b < w2.heap.size := fun b e => HB2.out.lt b e
              have BF : BR w.heap.size (w3.setCell ⟨p, 4, none⟩ (.slice a3 (lg.length + 1) cap3)) (.slice a2 5 cap2) (bodyH t.toNat) :=
                ((HB2.out.kept (Kp.alloc (fun _ => False) _ _)).kp (Kp.of_grown (S := fun b => vG.ownBlock = some b) HG3.out (fun _ h => h)) (fun b e h => by have h1 := (z1 b e).1; have h2 := (H.out.rowG.lt b h).2; omega)).kp (Kp.setCell (S := fun b => b = p) w3 ⟨p, 4, none⟩ _ rfl) (fun b e h => by have h1 := (z1 b e).1; have := LP.out; omega)
              have OF : ∀ g, (Value.slice a2 5 cap2).ownBlock = some g → (fun b => if (Value.slice a3 (lg.length + 1) cap3).ownBlock = some b then (⟨c, 3, 0, eb⟩ : Lab) else own b) g = own g := fun g hg => by
                have h1 := z1 g hg
                have z3 : ¬ (Value.slice a3 (lg.length + 1) cap3).ownBlock = some g := fun e => by
                  rcases HL3.out with hl | hl
                  · rw [hl] at e
                    have h2 := (H.out.rowG.lt g e).2
                    omega
                  · rw [hl] at e
                    injection e with e
                    simp at e
                    omega
                simp only [z3, if_false]
              have HF := hid_of (H4.out _ _ _ _ kk (fun b hb => Y3.2 b (by simp; omega)) Y3.1 BF OF)
              clear Y2 Y3 kk s2 z1 BF OF
              go_wp2_with fail
              exact HF.out
            · have HF := hid_of (HH3.out HNP.out (by omega))
              go_wp2
              exact HF.out

end

end Go.Proofs.YthbdpfccfcceiaaGreatDoor
