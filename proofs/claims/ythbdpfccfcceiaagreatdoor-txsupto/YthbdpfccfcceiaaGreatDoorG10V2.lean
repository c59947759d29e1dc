/-
  The law's steps on one pair of stores, of the kinds of stage 2: each makes the program's call, then the document's, and tells whether they answer alike.
  Range of a store, told of its plain state.
-/
import Derived.Test.YthbdpfccfcceiaaGreatDoorG2Z1
import Derived.Deep.RegionHeld3
import Derived.Test.YthbdpfccfcceiaaGreatDoorQ3Q4Q5
import Derived.Test.YthbdpfccfcceiaaGreatDoorR14V1
namespace Go.Proofs.YthbdpfccfcceiaaGreatDoor
open Go.RowKit

section
variable {R : Ending → World → Prop}

set_option maxRecDepth 20000 in
set_option maxHeartbeats 1000000 in
theorem past_retain (w : World) (p px py : Nat) (e a b : Int) (s t : ByteArray) (vl vm : Value)
    (hX : Calls Tryz.prog 21 #[.pointer (some ⟨px, 0, none⟩), .int .i64 a] (boxW w px py 12 e a b s t vl vm) (fun r w2 => ∃ er, r = .returned (.int .i64 er) ∧ Kp (fun b => b < w.heap.size) (boxW w px py 12 e a b s t vl vm) w2 ∧
      Calls Tryz.prog 110 #[.pointer (some ⟨py, 0, none⟩), .int .i64 a] w2 (fun r' w3 => r' = .returned (.int .i64 er) ∧ R (.returned (.bool true)) w3))) :
    Calls Tryz.prog 62 #[.pointer (some ⟨p, 0, none⟩), pairV px py, stepV 12 e a b s t vl vm] w R := by
  unfold boxW at hX
  have HX := hid_of hX
  unfold pairV stepV
  clear hX
  go_enter Tryz.func62, Tryz.ntmps62
  go_wp2_with (first
    | (go_at_call 21; refine HX.out.mono ?_; rintro r w2 ⟨er, rfl, hk, hy⟩; have HY := hid_of hy; have q1 := cell_of (box_pair hk) 1; have q12 := cell_of (box_step hk) 2; clear hy hk)
    | (go_at_call 110; refine HY.out.mono ?_; rintro r w3 ⟨rfl, hr⟩)
    | go_in)
  exact hr

set_option maxRecDepth 20000 in
set_option maxHeartbeats 1000000 in
theorem past_vacuum (w : World) (p px py : Nat) (e a b : Int) (s t : ByteArray) (vl vm : Value)
    (hX : Calls Tryz.prog 22 #[.pointer (some ⟨px, 0, none⟩), .int .i64 a] (boxW w px py 13 e a b s t vl vm) (fun r w2 => ∃ n, r = .returned (.int .i64 n) ∧ Kp (fun b => b < w.heap.size) (boxW w px py 13 e a b s t vl vm) w2 ∧
      Calls Tryz.prog 111 #[.pointer (some ⟨py, 0, none⟩), .int .i64 a] w2 (fun r' w3 => r' = .returned (.int .i64 n) ∧ R (.returned (.bool true)) w3))) :
    Calls Tryz.prog 62 #[.pointer (some ⟨p, 0, none⟩), pairV px py, stepV 13 e a b s t vl vm] w R := by
  unfold boxW at hX
  have HX := hid_of hX
  unfold pairV stepV
  clear hX
  go_enter Tryz.func62, Tryz.ntmps62
  go_wp2_with (first
    | (go_at_call 22; refine HX.out.mono ?_; rintro r w2 ⟨n, rfl, hk, hy⟩; have HY := hid_of hy; have q1 := cell_of (box_pair hk) 1; have q12 := cell_of (box_step hk) 2; clear hy hk)
    | (go_at_call 111; refine HY.out.mono ?_; rintro r w3 ⟨rfl, hr⟩)
    | go_in)
  exact hr

set_option maxRecDepth 20000 in
set_option maxHeartbeats 1000000 in
theorem past_stored (w : World) (p px py : Nat) (e a b : Int) (s t : ByteArray) (vl vm : Value)
    (hX : Calls Tryz.prog 112 #[.pointer (some ⟨px, 0, none⟩)] (boxW w px py 14 e a b s t vl vm) (fun r w2 => ∃ (n : Nat) (av : Option Addr) (cap : Nat), r = .returned (.int .i64 n) ∧ Kp (fun b => b < w.heap.size) (boxW w px py 14 e a b s t vl vm) w2 ∧
      w2.cell? ⟨py, 0, none⟩ = some (.slice av n cap) ∧ R (.returned (.bool true)) w2)) :
    Calls Tryz.prog 62 #[.pointer (some ⟨p, 0, none⟩), pairV px py, stepV 14 e a b s t vl vm] w R := by
  unfold boxW at hX
  have HX := hid_of hX
  unfold pairV stepV
  clear hX
  go_enter Tryz.func62, Tryz.ntmps62
  go_wp2_with (first
    | (go_at_call 112; refine HX.out.mono ?_; rintro r w2 ⟨n, av, cap, rfl, hk, hy, hr⟩; have q1 := cell_of (box_pair hk) 1; clear hk)
    | go_in)
  exact hr

set_option maxRecDepth 20000 in
set_option maxHeartbeats 2000000 in
theorem past_asof (w : World) (p px py : Nat) (e a b : Int) (s t : ByteArray) (vl vm : Value)
    (hX : Calls Tryz.prog 29 #[.pointer (some ⟨px, 0, none⟩), .int .i64 a, .string s] (boxW w px py 10 e a b s t vl vm) (fun r w2 => ∃ u er lo hi av n cap, r = .returned (.tuple #[.string u, .int .i64 er]) ∧ Kp (fun b => b < w.heap.size) (boxW w px py 10 e a b s t vl vm) w2 ∧
      w2.cell? ⟨py, 0, none⟩ = some (.slice av n cap) ∧ w2.cell? ⟨py, 1, none⟩ = some (.int .i64 lo) ∧ w2.cell? ⟨py, 2, none⟩ = some (.int .i64 hi) ∧
      ∀ w3, Kp (fun _ => False) w2 w3 → Calls Tryz.prog 97 #[.slice av n cap, .int .i64 lo, .int .i64 hi, .int .i64 a, .string s] w3 (fun r' w4 => r' = .returned (.tuple #[.string u, .int .i64 er]) ∧ Kp (fun _ => False) w2 w4 ∧ R (.returned (.bool true)) w4))) :
    Calls Tryz.prog 62 #[.pointer (some ⟨p, 0, none⟩), pairV px py, stepV 10 e a b s t vl vm] w R := by
  unfold boxW at hX
  have HX := hid_of hX
  unfold pairV stepV
  clear hX
  go_enter Tryz.func62, Tryz.ntmps62
  go_wp2_with (first
    | (go_at_call 29; refine HX.out.mono ?_; rintro r w2 ⟨u, er, lo, hi, av, n, cap, rfl, hk, y0, y1, y2, hy⟩; have HY := hid_of hy; have q1 : w2.cell? ⟨w.heap.size, 1, none⟩ = some (.pointer (some ⟨py, 0, none⟩)) := cell_of (box_pair hk) 1; have q12 : w2.cell? ⟨w.heap.size + 1, 2, none⟩ = some (.int .i64 a) := cell_of (box_step hk) 2; have q14 : w2.cell? ⟨w.heap.size + 1, 4, none⟩ = some (.string s) := cell_of (box_step hk) 4; clear hy hk)
    | go_in)
  go_region_held3 (fun w' => w'.cell? ⟨w.heap.size, 1, none⟩ = some (.pointer (some ⟨py, 0, none⟩)) ∧ w'.cell? ⟨py, 0, none⟩ = some (.slice av n cap) ∧ w'.cell? ⟨py, 1, none⟩ = some (.int .i64 lo) ∧ w'.cell? ⟨py, 2, none⟩ = some (.int .i64 hi) ∧ w'.cell? ⟨w.heap.size + 1, 2, none⟩ = some (.int .i64 a) ∧ w'.cell? ⟨w.heap.size + 1, 4, none⟩ = some (.string s)) (go_keep) ((go_at_call 97; refine (HY.out _ ?_).mono ?_; (first | exact Kp.drew _ _ | exact Kp.drewN _ _ _ | exact Kp.refl _ _); rintro r w4 ⟨rfl, hk4, hr⟩; have zy0 := (hk4.cell (World.block_lt_of_cell? _ _ y0) (fun h => h)).trans y0; have zy1 := (hk4.cell (World.block_lt_of_cell? _ _ y1) (fun h => h)).trans y1; have zy2 := (hk4.cell (World.block_lt_of_cell? _ _ y2) (fun h => h)).trans y2; have zq1 := (hk4.cell (World.block_lt_of_cell? _ _ q1) (fun h => h)).trans q1; have zq12 := (hk4.cell (World.block_lt_of_cell? _ _ q12) (fun h => h)).trans q12; have zq14 := (hk4.cell (World.block_lt_of_cell? _ _ q14) (fun h => h)).trans q14; clear hk4))
  all_goals
    go_wp2
    exact hr

set_option maxRecDepth 20000 in
set_option maxHeartbeats 2000000 in
theorem past_range (w : World) (p px py : Nat) (e a b : Int) (s t : ByteArray) (vl vm : Value)
    (hX : Calls Tryz.prog 27 #[.pointer (some ⟨px, 0, none⟩), .int .i64 a, .string s, .string t] (boxW w px py 11 e a b s t vl vm) (fun r w2 => ∃ v er lo hi av n cap, r = .returned (.tuple #[v, .int .i64 er]) ∧ Kp (fun b => b < w.heap.size) (boxW w px py 11 e a b s t vl vm) w2 ∧
      w2.cell? ⟨py, 0, none⟩ = some (.slice av n cap) ∧ w2.cell? ⟨py, 1, none⟩ = some (.int .i64 lo) ∧ w2.cell? ⟨py, 2, none⟩ = some (.int .i64 hi) ∧
      ∀ w3, Kp (fun _ => False) w2 w3 → Calls Tryz.prog 99 #[.slice av n cap, .int .i64 lo, .int .i64 hi, .int .i64 a, .string s, .string t] w3 (fun r' w4 => ∃ v', r' = .returned (.tuple #[v', .int .i64 er]) ∧ Kp (fun _ => False) w2 w4 ∧ Calls Tryz.prog 100 #[.pointer (some ⟨p, 0, none⟩), v, .int .i64 er, v', .int .i64 er] w4 (fun r w5 => r = .returned (.bool true) ∧ R (.returned (.bool true)) w5)))) :
    Calls Tryz.prog 62 #[.pointer (some ⟨p, 0, none⟩), pairV px py, stepV 11 e a b s t vl vm] w R := by
  unfold boxW at hX
  have HX := hid_of hX
  unfold pairV stepV
  clear hX
  go_enter Tryz.func62, Tryz.ntmps62
  go_wp2_with (first
    | (go_at_call 27; refine HX.out.mono ?_; rintro r w2 ⟨v, er, lo, hi, av, n, cap, rfl, hk, y0, y1, y2, hy⟩; have HY := hid_of hy; have q1 : w2.cell? ⟨w.heap.size, 1, none⟩ = some (.pointer (some ⟨py, 0, none⟩)) := cell_of (box_pair hk) 1; have q12 : w2.cell? ⟨w.heap.size + 1, 2, none⟩ = some (.int .i64 a) := cell_of (box_step hk) 2; have q14 : w2.cell? ⟨w.heap.size + 1, 4, none⟩ = some (.string s) := cell_of (box_step hk) 4; have q15 : w2.cell? ⟨w.heap.size + 1, 5, none⟩ = some (.string t) := cell_of (box_step hk) 5; clear hy hk)
    | go_in)
  go_region_held3 (fun w' => w'.cell? ⟨w.heap.size, 1, none⟩ = some (.pointer (some ⟨py, 0, none⟩)) ∧ w'.cell? ⟨py, 0, none⟩ = some (.slice av n cap) ∧ w'.cell? ⟨py, 1, none⟩ = some (.int .i64 lo) ∧ w'.cell? ⟨py, 2, none⟩ = some (.int .i64 hi) ∧ w'.cell? ⟨w.heap.size + 1, 2, none⟩ = some (.int .i64 a) ∧ w'.cell? ⟨w.heap.size + 1, 4, none⟩ = some (.string s) ∧ w'.cell? ⟨w.heap.size + 1, 5, none⟩ = some (.string t)) (go_keep) ((go_at_call 99; refine (HY.out _ ?_).mono ?_; (first | exact Kp.drew _ _ | exact Kp.drewN _ _ _ | exact Kp.refl _ _); rintro r w4 ⟨v', rfl, hk4, hp⟩; have HP := hid_of hp; have zy0 := (hk4.cell (World.block_lt_of_cell? _ _ y0) (fun h => h)).trans y0; have zy1 := (hk4.cell (World.block_lt_of_cell? _ _ y1) (fun h => h)).trans y1; have zy2 := (hk4.cell (World.block_lt_of_cell? _ _ y2) (fun h => h)).trans y2; have zq1 := (hk4.cell (World.block_lt_of_cell? _ _ q1) (fun h => h)).trans q1; have zq12 := (hk4.cell (World.block_lt_of_cell? _ _ q12) (fun h => h)).trans q12; have zq14 := (hk4.cell (World.block_lt_of_cell? _ _ q14) (fun h => h)).trans q14; have zq15 := (hk4.cell (World.block_lt_of_cell? _ _ q15) (fun h => h)).trans q15; clear hp hk4))
  all_goals
    go_wp2_with (first
      | (go_at_call 100; refine HP.out.mono ?_; rintro r w5 ⟨rfl, hr⟩)
      | go_in)
    exact hr

end

end Go.Proofs.YthbdpfccfcceiaaGreatDoor

namespace Go.Proofs.YthbdpfccfcceiaaGreatDoor
open Go.RowKit Go.Maps Go.Sort

section
variable {own own' : Nat → Lab} {c : Nat} {w w' : World} {p : Nat} {s : XS} {mo ph mv mm : Nat} {pt mw : Int → Nat} {sl : ByteArray → Value}
variable {R : Ending → World → Prop}

set_option maxRecDepth 20000 in
set_option maxHeartbeats 1000000 in
theorem x_between (h : XR own c w p s mo ph mv mm pt mw sl) (m : Int) (f t : ByteArray) (hnm : s.nm < 100000) (hm : ∀ k, MomOk s k) (hkey : ∀ k, s.mom k ≠ [] → k.size ≤ 8)
    (h1 : m < s.hor → R (.returned (.tuple #[.slice none 0 0, .int .i64 6])) w)
    (h2 : ¬ m < s.hor → s.now < m → R (.returned (.tuple #[.slice none 0 0, .int .i64 7])) w)
    (h3 : ¬ m < s.hor → ¬ s.now < m → ∀ w' v (ks : List ByteArray), Kp (fun _ => False) w w' → ks.Pairwise blt → (∀ k, k ∈ ks ↔ s.mom k ≠ [] ∧ inR f t k = true) → ks.length ≤ s.nm →
      w'.ownsRow w.heap.size 105 2 v (ks.filterMap (pairOf (fun k => valAt s k m))).length (cells2 (ks.filterMap (pairOf (fun k => valAt s k m)))) → R (.returned (.tuple #[v, .int .i64 0])) w') :
    Calls Tryz.prog 55 #[.pointer (some ⟨p, 0, none⟩), .int .i64 m, .string f, .string t] w R := by
  have H := hid_of h
  have c3 : w.cell? ⟨p, 0, none⟩ = some (.pointer (some ⟨ph, 0, none⟩)) := cell_of h.store 0
  by_cases q1 : m < s.hor
  · have HR := hid_of (h1 q1)
    have Q1 := hid_of q1
    clear h h1 h2 h3 q1 hnm hm hkey
    go_enter Tryz.func55, Tryz.ntmps55
    go_wp2_with (first
      | (go_at_call 44; refine x_covers H.out m (fun _ => ?_) (fun q _ => by have := Q1.out; omega) (fun q _ => by have := Q1.out; omega))
      | go_in)
    exact HR.out
  · by_cases q2 : s.now < m
    · have HR := hid_of (h2 q1 q2)
      have Q1 := hid_of q1
      have Q2 := hid_of q2
      clear h h1 h2 h3 q1 q2 hnm hm hkey
      go_enter Tryz.func55, Tryz.ntmps55
      go_wp2_with (first
        | (go_at_call 44; refine x_covers H.out m (fun q => by have := Q1.out; omega) (fun _ _ => ?_) (fun _ q => by have := Q2.out; omega))
        | go_in)
      exact HR.out
    · have HR := hid_of (h3 q1 q2)
      have Q1 := hid_of q1
      have Q2 := hid_of q2
      have HN := hid_of hnm
      have HM := hid_of hm
      have HW := hid_of hkey
      obtain ⟨i0, hi, hz0, hz1, hz2⟩ := info_parts infoPair
      clear h h1 h2 h3 q1 q2 hnm hm hkey
      go_enter Tryz.func55, Tryz.ntmps55
      go_wp2_with (first
        | (go_at_call 44; refine x_covers H.out m (fun q => by have := Q1.out; omega) (fun _ q => by have := Q2.out; omega) (fun _ _ => ?_))
        | (go_at_call 90; refine x_keys H.out f t HN.out (fun w1 v1 ks hk1 hrow hmem hlen hsort => ?_); have H1 : Hid (XR own c w1 p s mo ph mv mm pt mw sl) := H.out.kept hk1; obtain ⟨a1, cap1, rfl, hcell⟩ := row_cell hrow; have HC := hid_of hcell; have HROW := hid_of hrow; have HSO := hid_of hsort; have HME := hid_of hmem; have HLE := hid_of hlen; clear hcell hrow hsort hmem hlen)
        | go_in)
      clear c3
      have HS1 : Hid (w.heap.size ≤ w1.heap.size) := hk1.size
      go_loopw [11, 30] (fun v12 v34 wr => ∃ i : Nat, i ≤ ks.length ∧ v34 = .int .i64 i ∧ Kp (fun _ => False) w1 wr ∧ wr.ownsRow w1.heap.size 105 2 v12 ((ks.take i).filterMap (pairOf (fun k => valAt s k m))).length (cells2 ((ks.take i).filterMap (pairOf (fun k => valAt s k m)))))
        (fun _ v34 _ => ks.length - (intOf v34).toNat)
      case atStart => exact ⟨0, Nat.zero_le _, rfl, Kp.refl _ _, World.ownsRow_nil _ _ _ _⟩
      case round =>
        obtain ⟨i, hile, rfl, hkp, hown⟩ := hrel
        by_cases hlt : i < ks.length
        · obtain ⟨g, rfl, hg1, hg2, hcell⟩ := HC.out (fun h => by rw [h] at hlt; simp at hlt)
          have hck : wr.cell? ⟨g, i, none⟩ = some (.string ks[i]) := (hkp.cell (a := ⟨g, i, none⟩) hg2 (fun h => h)).trans (hcell i hlt)
          have hki : ks[i] ∈ ks := List.getElem_mem _
          have hkk := (HME.out ks[i]).1 hki
          have htk : ks.take (i + 1) = ks.take i ++ [ks[i]] := List.take_succ_eq_append_getElem hlt
          have HT := hid_of htk
          have hlt' : (i : Int) < ks.length := by omega
          have hi1 : (i : Int) ≤ 1000000 := by have := HLE.out; have := HN.out; omega
          have hlenps : Hid (((ks.take i).filterMap (pairOf (fun k => valAt s k m))).length ≤ 1000000) := by
            show _ ≤ _
            have h1 := List.length_filterMap_le (pairOf (fun k => valAt s k m)) (ks.take i)
            have h2 : (ks.take i).length ≤ i := by simp [List.length_take]; omega
            have := HLE.out; have := HN.out; omega
          have hxr : Hid (XR own c wr p s mo ph mv mm pt mw sl) := H1.out.kept hkp
          have c4 : wr.cell? ⟨p, 0, none⟩ = some (.pointer (some ⟨ph, 0, none⟩)) := cell_of hxr.out.store 0
          have HWK := hid_of (HW.out _ hkk.1)
          have HKP := hid_of hkp
          generalize hkeq : ks[i] = k at *
          clear hkk hki htk hkp hcell
          cases hs : (valAt s k m).2
          · go_wp2_with (first
              | (go_at_call 91; refine x_value hxr.out k m HWK.out (HM.out k).len (HM.out k).up (HM.out k).ver (fun w2 hk2 => ?_); have HK2 : Hid (Kp (fun _ => False) wr w2) := hk2; clear hk2)
              | go_in)
            go_roundw
            case rel =>
              refine ⟨i + 1, by omega, by go_num, HKP.out.trans HK2.out (fun _ _ h => h), ?_⟩
              have hp0 : (ks.take (i + 1)).filterMap (pairOf (fun k => valAt s k m)) = (ks.take i).filterMap (pairOf (fun k => valAt s k m)) := by rw [HT.out, List.filterMap_append]; simp [pairOf, hs]
              rw [hp0]
              exact ownsRow_kp hown HK2.out (fun _ _ h => h)
            case measure => simp [intOf]; omega
          · go_wp2_with (first
              | (go_at_call 91; refine x_value hxr.out k m HWK.out (HM.out k).len (HM.out k).up (HM.out k).ver (fun w2 hk2 => ?_); have HK2 : Hid (Kp (fun _ => False) wr w2) := hk2; have hown2 := ownsRow_kp hown hk2 (fun _ _ h => h); clear hk2)
              | (at_builtin; refine wpList_append_own_at _ rfl _ _ 43 rfl w1.heap.size 105 i0 (.agg #[.string ⟨#[]⟩, .string ⟨#[]⟩]) 2 32 Tryz.underlying43 hi hz0 hz1 hz2 rfl (by decide) _ _ _ rfl (hown2.alloc _) ⟨w2.heap.size, 0, none⟩ 1 1 [.string k, .string (valAt s k m).1] rfl rfl (two_new _ _ _ _) (by simp [Value.oneCell']) (by have := hlenps.out; unfold maxLen; omega) (by have := hlenps.out; omega) (by have := HKP.out.size; have := HK2.out.size; simp; omega) ?_; intro v' w3 hown' hgrow hnil hloc)
              | go_in)
            have hb1 : ∀ b, Value.ownBlock u11 = some b → w1.heap.size ≤ b := fun b hb => (hown2.lt b hb).1
            go_roundw
            case rel =>
              refine ⟨i + 1, by omega, by go_num, ((HKP.out.trans HK2.out (fun _ _ h => h)).trans ((Kp.alloc (fun b => Value.ownBlock u11 = some b) w2 _).trans (Kp.of_grown (S := fun b => Value.ownBlock u11 = some b) hgrow (fun _ h => h)) (fun _ _ h => h)) (fun b hb h => by have := hb1 b h; omega)), ?_⟩
              have hp0 : (ks.take (i + 1)).filterMap (pairOf (fun k => valAt s k m)) = (ks.take i).filterMap (pairOf (fun k => valAt s k m)) ++ [(k, (valAt s k m).1)] := by rw [HT.out, List.filterMap_append]; simp [pairOf, hs]
              rw [hp0, List.length_append, ← cells2_snoc]
              exact hown'
            case measure => simp [intOf]; omega
        · have hie : i = ks.length := by omega
          subst hie
          rw [List.take_length] at hown
          go_wp2_with fail
          refine HR.out wr u11 ks (hk1.trans hkp (fun _ _ h => h)) HSO.out HME.out HLE.out ⟨hown.1, hown.2.imp id (fun ⟨g, cap, cur, e1, e2, e3⟩ => ⟨g, cap, cur, e1, Nat.le_trans HS1.out e2, e3⟩)⟩

set_option maxRecDepth 20000 in
set_option maxHeartbeats 400000 in
theorem x_range (m : Int) (f t : ByteArray)
    (hR : Calls Tryz.prog 55 #[.pointer (some ⟨p, 0, none⟩), .int .i64 m, .string f, .string t] w fun e w' => ∃ (a : Value) (b : Int), e = .returned (.tuple #[a, .int .i64 b]) ∧ R (.returned (.tuple #[a, .int .i64 b])) w') :
    Calls Tryz.prog 27 #[.pointer (some ⟨p, 0, none⟩), .int .i64 m, .string f, .string t] w R := by
  have HR := hid_of hR
  clear hR
  go_enter Tryz.func27, Tryz.ntmps27
  go_wp2_with (first
    | (go_at_call 55; refine Calls.mono HR.out ?_; rintro e w1 ⟨a, b, rfl, hr⟩; have HR1 := hid_of hr; clear hr)
    | go_in)
  exact HR1.out

end

end Go.Proofs.YthbdpfccfcceiaaGreatDoor
