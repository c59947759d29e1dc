/-
  Vacuum changes no answer: the walk of the law.
-/
import Derived.Test.YthbdpfccfcceiaaDoorU1U2
namespace Go.Proofs.YthbdpfccfcceiaaDoor
open Go.RowKit

/-- How many versions the acts make behind a moment. -/
def laterN (f : Nat → A3) (h : Int) : Nat → Nat
  | 0 => 0
  | i + 1 => laterN f h i + if h < (i : Int) + 2 then (if pk (f i).2.2 3 = 0 ∧ keyN ((f i).2.2.tdiv 3) ≠ keyN (f i).1 then 2 else 1) else 0

theorem laterN_le (f : Nat → A3) (h : Int) : ∀ i, laterN f h i ≤ 2 * i
  | 0 => Nat.le_refl _
  | i + 1 => by
    have := laterN_le f h i
    unfold laterN
    split
    · split <;> omega
    · omega

/-- Numbers that came in. -/
def IntsIn (w : World) (v : Value) (n : Nat) (m : Nat → Int) : Prop := ∃ a cap, v = .slice a n cap ∧ n ≤ 140737488355328 ∧ (0 < n → ∃ g off, a = some ⟨g, off, none⟩ ∧ g < w.heap.size ∧ ∀ i, i < n → w.cell? ⟨g, off + i, none⟩ = some (.int .i64 (m i)) ∧ I64 (m i))

/-- How many versions may go in a round. -/
def mostN (m : Nat → Int) (n i : Nat) : Int := if i < n then pk (m i) 9 else 1000

theorem ToldAt.at {lo hi n cap : Nat} {w : World} {a : Option Addr} {L : Nat → List (ByteArray × ByteArray)} (h : ToldAt lo hi w (.slice a n cap) n L) {j : Nat} (hj : j < n) : ∃ g v', a = some ⟨g, 0, none⟩ ∧ w.cell? ⟨g, j, none⟩ = some v' ∧ PairsAt lo hi w v' (L j) := by
  obtain ⟨a', cap', e, _, h⟩ := h
  cases e
  obtain ⟨g, rfl, _, _, h⟩ := h (by omega)
  obtain ⟨v', h1, h2⟩ := h j hj
  exact ⟨g, v', rfl, h1, h2⟩

section
variable {R : Ending → World → Prop}

set_option maxRecDepth 20000 in
set_option maxHeartbeats 4000000 in
theorem vacuumed_walk (w : World) (a0 : Option Addr) (NN cap0 : Nat) (f : Nat → A3) (hn0 : NN ≤ maxLen) (hv0 : 0 < NN → ∃ g off, a0 = some ⟨g, off, none⟩ ∧ Acts w g off NN f) (hz : Int) (hhz : I64 hz)
    (a : Option Addr) (n cap : Nat) (m : Nat → Int) (hn : n ≤ 140737488355328) (hv : 0 < n → ∃ g off, a = some ⟨g, off, none⟩ ∧ g < w.heap.size ∧ ∀ i, i < n → w.cell? ⟨g, off + i, none⟩ = some (.int .i64 (m i)) ∧ I64 (m i))
    (I : Nat → Nat → Int → Option Addr → Nat → Nat → Nat → Nat → World → Prop) (J : Nat → Nat → Int → Option Addr → Nat → Nat → Value → Nat → Nat → World → Prop)
    (hkI : ∀ i p now av nt capv la nv w', I i p now av nt capv la nv w' → Kp (fun _ => False) w w' ∧ nv < 1000000 ∧ la ≤ 6)
    (H : Calls Tryd.prog 6 #[.slice a0 NN cap0] w fun r w1 => ∃ p, r = .returned (.pointer (some ⟨p, 0, none⟩)) ∧
      Calls Tryd.prog 7 #[.pointer (some ⟨p, 0, none⟩)] w1 fun r w2 => ∃ now : Int, r = .returned (.int .i64 now) ∧ 0 ≤ now ∧ now < 100000 ∧
      Calls Tryd.prog 21 #[.pointer (some ⟨p, 0, none⟩), .int .i64 (pk hz (now + 1)), .int .i64 now] w2 fun r w3 => ∃ (av : Option Addr) (nt capv : Nat), r = .returned (.tuple #[.slice av nt capv, .bool true]) ∧ nt < 1000000 ∧
      Calls Tryd.prog 12 #[.pointer (some ⟨p, 0, none⟩), .int .i64 (pk hz (now + 1)), .string ⟨#[]⟩, .string ⟨#[126]⟩] w3 fun r w4 => ∃ (aa : Option Addr) (la capa : Nat), r = .returned (.tuple #[.slice aa la capa, .int .i64 0]) ∧
      Calls Tryd.prog 22 #[.pointer (some ⟨p, 0, none⟩), .int .i64 (pk hz (now + 1))] w4 fun r w5 => r = .returned (.int .i64 0) ∧
      Calls Tryd.prog 23 #[.pointer (some ⟨p, 0, none⟩)] w5 fun r w6 => ∃ nv : Nat, r = .returned (.int .i64 nv) ∧ I 0 p now av nt capv la nv w6)
    (hS : ∀ i p now av nt capv la nv w', I i p now av nt capv la nv w' → i ≤ n → Calls Tryd.prog 24 #[.pointer (some ⟨p, 0, none⟩), .int .i64 (mostN m n i)] w' fun r w2 => ∃ went : Nat, r = .returned (.int .i64 went) ∧ (went : Int) ≤ mostN m n i ∧ went ≤ nv ∧
      Calls Tryd.prog 23 #[.pointer (some ⟨p, 0, none⟩)] w2 fun r w3 => r = .returned (.int .i64 ((nv : Int) - went)) ∧
      Calls Tryd.prog 21 #[.pointer (some ⟨p, 0, none⟩), .int .i64 (pk hz (now + 1)), .int .i64 now] w3 fun r w4 => ∃ vt, r = .returned (.tuple #[vt, .bool true]) ∧ J (i + 1) p now av nt capv vt la (nv - went) w4)
    (hJ : ∀ i p now av nt capv vt la nv w', J i p now av nt capv vt la nv w' → ∃ at_ capt lo hi lo' hi' L, vt = .slice at_ nt capt ∧ ToldAt lo hi w' (.slice av nt capv) nt L ∧ ToldAt lo' hi' w' (.slice at_ nt capt) nt L ∧ ∀ j, (L j).length ≤ 6)
    (hJk : ∀ i p now av nt capv vt la nv w' w'', J i p now av nt capv vt la nv w' → Kp (fun _ => False) w' w'' → J i p now av nt capv vt la nv w'')
    (hJI : ∀ i p now av nt capv vt la nv w', J i p now av nt capv vt la nv w' → I i p now av nt capv la nv w')
    (hF : ∀ p now av nt capv la nv w', I (n + 1) p now av nt capv la nv w' → Calls Tryd.prog 12 #[.pointer (some ⟨p, 0, none⟩), .int .i64 (pk hz (now + 1) - 1), .string ⟨#[]⟩, .string ⟨#[126]⟩] w' fun r w2 => r = .returned (.tuple #[.slice none 0 0, .int .i64 6]) ∧
      Calls Tryd.prog 24 #[.pointer (some ⟨p, 0, none⟩), .int .i64 1] w2 fun r w3 => r = .returned (.int .i64 0) ∧ Kp (fun _ => False) w w3 ∧ nv = laterN f (pk hz (now + 1)) (min NN 200) + (if pk hz (now + 1) < 1 then 1 else 0) + la)
    (hR : ∀ w', Kp (fun _ => False) w w' → R (.returned (.bool true)) w') :
    Calls Tryd.prog 5 #[.slice a0 NN cap0, .int .i64 hz, .slice a n cap] w R := by
  have HH := hid_of H
  have HKI := hid_of hkI
  have HS := hid_of hS
  have HJ := hid_of hJ
  have HJK := hid_of hJk
  have HJI := hid_of hJI
  have HF := hid_of hF
  have HR := hid_of hR
  have HV0 := hid_of hv0
  have HV := hid_of hv
  have HZ := hid_of hhz
  have HNB := hid_of (And.intro hn0 hn)
  clear H hkI hS hJ hJk hJI hF hR hv0 hv hhz hn0 hn
  go_enter Tryd.func5, Tryd.ntmps5
  go_wp2_with (first
    | (go_at_call 6; refine Calls.mono HH.out ?_; rintro r w1 ⟨p, rfl, hn⟩; have HA := hid_of hn; clear hn HH)
    | (go_at_call 7; refine Calls.mono HA.out ?_; rintro r w2 ⟨now, rfl, n0, n1, hn⟩; have HB := hid_of hn; clear hn HA)
    | (go_at_call 20; refine pick_any _ _ _ HZ.out (by omega) ?_)
    | (go_at_call 21; refine Calls.mono HB.out ?_; rintro r w3 ⟨av, nt, capv, rfl, hnt, hn⟩; have HC := hid_of hn; clear hn HB)
    | (go_at_call 12; refine Calls.mono HC.out ?_; rintro r w4 ⟨aa, la, capa, rfl, hn⟩; have HD := hid_of hn; clear hn HC)
    | (go_at_call 22; refine Calls.mono HD.out ?_; rintro r w5 ⟨rfl, hn⟩; have HE := hid_of hn; clear hn HD)
    | (go_at_call 23; refine Calls.mono HE.out ?_; rintro r w6 ⟨nv0, rfl, hn⟩; have HI0 := hid_of hn; clear hn HE)
    | go_in)
  have hpk := pk_lt hz (n := now + 1) (by omega)
  obtain ⟨h, hH⟩ : ∃ h, h = pk hz (now + 1) := ⟨_, rfl⟩
  rw [← hH] at hpk ⊢
  have HHE := hid_of hH
  clear hH
  have hnb : (n : Int) ≤ 140737488355328 := by have := HNB.out.2; omega
  go_loopw [15, 16, 17, 18, 19, 20, 21, 22, 23] (fun v15 v16 _ _ _ _ _ _ _ wr => ∃ (i nv : Nat), i ≤ n + 1 ∧ v16 = .int .i64 i ∧ v15 = .int .i64 nv ∧ I i p now av nt capv la nv wr)
    (fun _ v16 _ _ _ _ _ _ _ _ => n + 1 - (intOf v16).toNat)
  case atStart => exact ⟨0, nv0, Nat.zero_le _, rfl, rfl, HI0.out⟩
  case round =>
    obtain ⟨i, nv, hin, rfl, rfl, hI⟩ := hrel
    have HI := hid_of hI
    obtain ⟨hkI, hnv, hla⟩ := HKI.out _ _ _ _ _ _ _ _ _ hI
    have HKP := hid_of hkI
    clear hI hkI HI0
    by_cases hlt : i < n + 1
    · have d1 : (i : Int) < (n : Int) + 1 := by omega
      obtain ⟨K, hK⟩ : ∃ K, K = mostN m n i := ⟨_, rfl⟩
      have HS1 := hid_of (HS.out i p now av nt capv la nv wr HI.out (by omega))
      rw [← HHE.out, ← hK] at HS1
      by_cases hin2 : i < n
      · have d2 : (i : Int) < n := by omega
        obtain ⟨g1, off, rfl, hg1, hA⟩ := HV.out (by omega)
        have q0 := (HKP.out.cell (a := ⟨g1, off + i, none⟩) hg1 (fun h => h)).trans (hA i hin2).1
        have BM := hid_of (hA i hin2).2
        have hmo : pk (m i) 9 = K := by rw [hK]; simp [mostN, hin2]
        have hp9 := pk_lt (m i) (n := 9) (by decide)
        have hK9 : 0 ≤ K ∧ K ≤ 1000 := by omega
        have HMO := hid_of hmo
        clear hp9 hmo hA hK
        go_wp2_with (first
          | (go_at_call 20; refine pick_any _ _ _ BM.out (by decide) ?_; rw [HMO.out])
          | (go_at_call 24; refine Calls.mono HS1.out ?_; rintro r w2 ⟨went, rfl, hw1, hw2, hn⟩; have HB1 := hid_of hn; have HW := hid_of (And.intro hw1 hw2); have e2 : decide (K < (went : Int)) = false := (by simp; omega); have e3 : IntKind.i64.wrap ((nv : Int) - went) = (nv : Int) - went := IntWalk.i64_in _ (by omega); clear hn HS1)
          | (go_at_call 23; refine Calls.mono HB1.out ?_; rintro r w3 ⟨rfl, hn⟩; have HB2 := hid_of hn; clear hn HB1)
          | (go_at_call 21; refine Calls.mono HB2.out ?_; rintro r w4 ⟨vt, rfl, hj⟩; obtain ⟨at_, capt, _, _, _, _, _, rfl, _⟩ := HJ.out _ _ _ _ _ _ _ _ _ _ hj; have HJ4 := hid_of hj; clear hj HB2)
          | go_in)
        go_loopw [22, 23] (fun v22 _ wr => ∃ j : Nat, j ≤ nt ∧ v22 = .int .i64 j ∧ J (i + 1) p now av nt capv (.slice at_ nt capt) la (nv - went) wr) (fun v22 _ _ => nt - (intOf v22).toNat)
        case atStart => exact ⟨0, Nat.zero_le _, rfl, HJ4.out⟩
        case round =>
          obtain ⟨j, hjn, rfl, hj⟩ := hrel
          have HJ5 := hid_of hj
          clear hj HJ4
          by_cases hjl : j < nt
          · have d5 : (j : Int) < nt := by omega
            obtain ⟨at2, capt2, lo2, hi2, lo3, hi3, L2, e2, t2, t3, hL⟩ := HJ.out _ _ _ _ _ _ _ _ _ _ HJ5.out
            cases e2
            obtain ⟨gv, v1, rfl, x1, p1⟩ := t2.at hjl
            obtain ⟨gt, v2, rfl, x2, p2⟩ := t3.at hjl
            have HSA := hid_of (fun (q : Nat) => same_draws (w := wr.drewN q) v1 v2 _ (p1.kp (Kp.drewN (fun _ => False) wr q) (fun _ _ _ h => h)) (p2.kp (Kp.drewN (fun _ => False) wr q) (fun _ _ _ h => h)) (by have := hL j; omega))
            clear t2 t3 hL p1 p2
            go_wp2
            go_quiet (first | (go_at_call 17; exact Calls.quiet_of (HSA.out _)))
            go_wp2
            go_roundw
            case rel => exact ⟨j + 1, by omega, by go_num, HJK.out _ _ _ _ _ _ _ _ _ _ _ HJ5.out (Kp.drewN _ _ _)⟩
            case measure => simp [intOf]; omega
          · have d5 : ¬ j < nt := hjl
            have d6 : decide ((j : Int) < nt) = false := by simp; omega
            go_wp2
            go_roundw
            case rel => exact ⟨i + 1, nv - went, by omega, by go_num, by have := HW.out; simp; omega, HJI.out _ _ _ _ _ _ _ _ _ _ HJ5.out⟩
            case measure => simp [intOf]; omega
      · have d2 : ¬ i < n := hin2
        have d3 : decide ((i : Int) < n) = false := by simp; omega
        have hmo : K = 1000 := by rw [hK]; simp [mostN, hin2]
        subst hmo
        clear hK
        go_wp2_with (first
          | (go_at_call 24; refine Calls.mono HS1.out ?_; rintro r w2 ⟨went, rfl, hw1, hw2, hn⟩; have HB1 := hid_of hn; have HW := hid_of (And.intro hw1 hw2); have e2 : decide ((1000 : Int) < (went : Int)) = false := (by simp; omega); have e3 : IntKind.i64.wrap ((nv : Int) - went) = (nv : Int) - went := IntWalk.i64_in _ (by omega); clear hn HS1)
          | (go_at_call 23; refine Calls.mono HB1.out ?_; rintro r w3 ⟨rfl, hn⟩; have HB2 := hid_of hn; clear hn HB1)
          | (go_at_call 21; refine Calls.mono HB2.out ?_; rintro r w4 ⟨vt, rfl, hj⟩; obtain ⟨at_, capt, _, _, _, _, _, rfl, _⟩ := HJ.out _ _ _ _ _ _ _ _ _ _ hj; have HJ4 := hid_of hj; clear hj HB2)
          | go_in)
        go_loopw [22, 23] (fun v22 _ wr => ∃ j : Nat, j ≤ nt ∧ v22 = .int .i64 j ∧ J (i + 1) p now av nt capv (.slice at_ nt capt) la (nv - went) wr) (fun v22 _ _ => nt - (intOf v22).toNat)
        case atStart => exact ⟨0, Nat.zero_le _, rfl, HJ4.out⟩
        case round =>
          obtain ⟨j, hjn, rfl, hj⟩ := hrel
          have HJ5 := hid_of hj
          clear hj HJ4
          by_cases hjl : j < nt
          · have d5 : (j : Int) < nt := by omega
            obtain ⟨at2, capt2, lo2, hi2, lo3, hi3, L2, e2, t2, t3, hL⟩ := HJ.out _ _ _ _ _ _ _ _ _ _ HJ5.out
            cases e2
            obtain ⟨gv, v1, rfl, x1, p1⟩ := t2.at hjl
            obtain ⟨gt, v2, rfl, x2, p2⟩ := t3.at hjl
            have HSA := hid_of (fun (q : Nat) => same_draws (w := wr.drewN q) v1 v2 _ (p1.kp (Kp.drewN (fun _ => False) wr q) (fun _ _ _ h => h)) (p2.kp (Kp.drewN (fun _ => False) wr q) (fun _ _ _ h => h)) (by have := hL j; omega))
            clear t2 t3 hL p1 p2
            go_wp2
            go_quiet (first | (go_at_call 17; exact Calls.quiet_of (HSA.out _)))
            go_wp2
            go_roundw
            case rel => exact ⟨j + 1, by omega, by go_num, HJK.out _ _ _ _ _ _ _ _ _ _ _ HJ5.out (Kp.drewN _ _ _)⟩
            case measure => simp [intOf]; omega
          · have d5 : ¬ j < nt := hjl
            have d6 : decide ((j : Int) < nt) = false := by simp; omega
            go_wp2
            go_roundw
            case rel => exact ⟨i + 1, nv - went, by omega, by go_num, by have := HW.out; simp; omega, HJI.out _ _ _ _ _ _ _ _ _ _ HJ5.out⟩
            case measure => simp [intOf]; omega
    · have d1 : ¬ (i : Int) < (n : Int) + 1 := by omega
      have hie : i = n + 1 := by omega
      subst hie
      have HF1 := hid_of (HF.out p now av nt capv la nv wr HI.out)
      rw [← HHE.out] at HF1
      have hwr1 : IntKind.i64.wrap (h - 1) = h - 1 := IntWalk.i64_in _ (by omega)
      have hnb0 : (NN : Int) ≤ 9223372036854775807 := by have := HNB.out.1; unfold maxLen at this; omega
      go_wp2_with (first
        | (go_at_call 12; refine Calls.mono HF1.out ?_; rintro r w2 ⟨rfl, hn⟩; have HF2 := hid_of hn; clear hn HF1)
        | (go_at_call 24; refine Calls.mono HF2.out ?_; rintro r w3 ⟨rfl, hk3, hnl⟩; have HK3 := hid_of hk3; have HNL := hid_of hnl; clear hk3 hnl HF2)
        | go_in)
      clear HI HKP
      go_loopw [28, 29] (fun v28 v29 wr => ∃ i : Nat, i ≤ NN ∧ i ≤ 200 ∧ v29 = .int .i64 i ∧ v28 = .int .i64 (laterN f h i : Nat) ∧ Kp (fun _ => False) w wr) (fun _ v29 _ => 200 - (intOf v29).toNat)
      case atStart => exact ⟨0, Nat.zero_le _, Nat.zero_le _, rfl, rfl, HK3.out⟩
      case round =>
        obtain ⟨i, hi1, hi2, rfl, rfl, hkp⟩ := hrel
        have hll := laterN_le f h i
        have hlb : ((laterN f h i : Nat) : Int) ≤ 400 := by omega
        by_cases h12 : i < NN ∧ i < 200
        · obtain ⟨h1, h2⟩ := h12
          have d1 : (i : Int) < NN := by omega
          have d2 : (i : Int) < 200 := by omega
          obtain ⟨g1, off, rfl, hA⟩ := HV0.out (by omega)
          have hA' := hA.kept hkp
          have q0 := hA'.c0 i h1
          have q2 := hA'.c2 i h1
          have hok := hA'.ok i h1
          have hls : laterN f h (i + 1) = laterN f h i + if h < (i : Int) + 2 then (if pk (f i).2.2 3 = 0 ∧ keyN ((f i).2.2.tdiv 3) ≠ keyN (f i).1 then 2 else 1) else 0 := rfl
          have HLS := hid_of hls
          have HA1 := hid_of hok.1
          have HA3 := hid_of hok.2.2
          have HKP := hid_of hkp
          generalize (f i).1 = a1 at q0 HLS HA1
          generalize (f i).2.2 = a3 at q2 HLS HA3
          have HQ := hid_of (And.intro q0 q2)
          clear hA hA' hok hls hkp
          have hwl : IntKind.i64.wrap (((laterN f h i : Nat) : Int) + 1) = ((laterN f h i : Nat) : Int) + 1 := IntWalk.i64_in _ (by omega)
          have hwl2 : IntKind.i64.wrap (((laterN f h i : Nat) : Int) + 1 + 1) = ((laterN f h i : Nat) : Int) + 1 + 1 := IntWalk.i64_in _ (by omega)
          by_cases hh : h < (i : Int) + 2
          · have dh : decide (h < (i : Int) + 2) = true := by simpa using hh
            have HHH := hid_of hh
            have cells : ∀ w', Kp (fun _ => False) wr w' → w'.cell? ⟨g1, off + i * 3, none⟩ = some (.int .i64 a1) ∧ w'.cell? ⟨g1, off + i * 3 + 2, none⟩ = some (.int .i64 a3) := fun w' k =>
              ⟨(k.cell (a := ⟨g1, off + i * 3, none⟩) (World.block_lt_of_cell? wr _ HQ.out.1) (fun h => h)).trans HQ.out.1, (k.cell (a := ⟨g1, off + i * 3 + 2, none⟩) (World.block_lt_of_cell? wr _ HQ.out.2) (fun h => h)).trans HQ.out.2⟩
            have HCL := hid_of cells
            have B4 := hid_of (tdiv_i64 HA3.out (n := 3) (by decide))
            have e3 : IntKind.i64.wrap (a3.tdiv 3) = a3.tdiv 3 := IntWalk.i64_in _ B4.out
            clear hh cells
            have hp3 := pk_lt a3 (n := 3) (by decide)
            have hp03 : pk a3 3 = 0 ∨ pk a3 3 = 1 ∨ pk a3 3 = 2 := by omega
            clear hp3
            rcases hp03 with hp3 | hp3 | hp3
            · have HP3 := hid_of hp3
              clear hp3
              by_cases hke : keyN (a3.tdiv 3) = keyN a1
              · have dk := str_eq hke
                have HKE := hid_of hke
                clear hke
                go_wp2
                go_region_held3 (fun w' => w'.cell? ⟨g1, off + i * 3, none⟩ = some (.int .i64 a1) ∧ w'.cell? ⟨g1, off + i * 3 + 2, none⟩ = some (.int .i64 a3)) (go_keep) (first
                  | (go_at_call 20; refine pick_any _ _ _ HA3.out (by decide) ?_; rw [HP3.out])
                  | (go_at_call 10; refine key_any _ _ B4.out (fun w5 k5 => ?_); have k45 := Kp.trans (kp_draws (w := wr) (by simp)) k5 (fun _ _ h => h); obtain ⟨z0, z2⟩ := HCL.out _ k45; have HK5 := hid_of k45; clear k5 k45)
                  | (go_at_call 10; refine key_any _ _ HA1.out (fun w6 k6 => ?_); have k46 := Kp.trans HK5.out (Kp.trans (kp_draws (w := w5) (by simp)) k6 (fun _ _ h => h)) (fun _ _ h => h); obtain ⟨y0, y2⟩ := HCL.out _ k46; have HK6 := hid_of k46; clear k6 k46))
                all_goals
                  go_wp2_with fail
                  go_roundw
                  case rel =>
                    refine ⟨i + 1, by omega, by omega, by go_num, ?_, HKP.out.trans (HK6.out.trans (kp_draws (by simp)) (fun _ _ h => h)) (fun _ _ h => h)⟩
                    rw [HLS.out, if_pos HHH.out, if_neg (fun h => h.2 HKE.out)]
                    go_num
                  case measure => simp [intOf]; omega
              · have dk := str_ne hke
                have HKE := hid_of hke
                clear hke
                go_wp2
                go_region_held3 (fun w' => w'.cell? ⟨g1, off + i * 3, none⟩ = some (.int .i64 a1) ∧ w'.cell? ⟨g1, off + i * 3 + 2, none⟩ = some (.int .i64 a3)) (go_keep) (first
                  | (go_at_call 20; refine pick_any _ _ _ HA3.out (by decide) ?_; rw [HP3.out])
                  | (go_at_call 10; refine key_any _ _ B4.out (fun w5 k5 => ?_); have k45 := Kp.trans (kp_draws (w := wr) (by simp)) k5 (fun _ _ h => h); obtain ⟨z0, z2⟩ := HCL.out _ k45; have HK5 := hid_of k45; clear k5 k45)
                  | (go_at_call 10; refine key_any _ _ HA1.out (fun w6 k6 => ?_); have k46 := Kp.trans HK5.out (Kp.trans (kp_draws (w := w5) (by simp)) k6 (fun _ _ h => h)) (fun _ _ h => h); obtain ⟨y0, y2⟩ := HCL.out _ k46; have HK6 := hid_of k46; clear k6 k46))
                all_goals
                  go_wp2_with fail
                  go_roundw
                  case rel =>
                    refine ⟨i + 1, by omega, by omega, by go_num, ?_, HKP.out.trans (HK6.out.trans (kp_draws (by simp)) (fun _ _ h => h)) (fun _ _ h => h)⟩
                    rw [HLS.out, if_pos HHH.out, if_pos ⟨HP3.out, HKE.out⟩]
                    go_num
                  case measure => simp [intOf]; omega
            · have HP3 := hid_of hp3
              have HPQ := hid_of (fun (q : Nat) => (pick_any (R := fun e w' => e = .returned (.int .i64 1) ∧ w' = wr.drewN q) a3 3 (wr.drewN q) HA3.out (by decide) ⟨by rw [hp3], rfl⟩))
              clear hp3
              go_wp2
              go_quiet (first | (go_at_call 20; exact Calls.quiet_of_same (HPQ.out _)))
              go_wp2
              go_roundw
              case rel =>
                refine ⟨i + 1, by omega, by omega, by go_num, ?_, HKP.out.trans (Kp.drewN (fun _ => False) _ _) (fun _ _ h => h)⟩
                rw [HLS.out, if_pos HHH.out, if_neg (fun h => by have := HP3.out; omega)]
                go_num
              case measure => simp [intOf]; omega
            · have HP3 := hid_of hp3
              have HPQ := hid_of (fun (q : Nat) => (pick_any (R := fun e w' => e = .returned (.int .i64 2) ∧ w' = wr.drewN q) a3 3 (wr.drewN q) HA3.out (by decide) ⟨by rw [hp3], rfl⟩))
              clear hp3
              go_wp2
              go_quiet (first | (go_at_call 20; exact Calls.quiet_of_same (HPQ.out _)))
              go_wp2
              go_roundw
              case rel =>
                refine ⟨i + 1, by omega, by omega, by go_num, ?_, HKP.out.trans (Kp.drewN (fun _ => False) _ _) (fun _ _ h => h)⟩
                rw [HLS.out, if_pos HHH.out, if_neg (fun h => by have := HP3.out; omega)]
                go_num
              case measure => simp [intOf]; omega
          · have dh : decide (h < (i : Int) + 2) = false := by simpa using hh
            have HHH := hid_of hh
            clear hh
            go_wp2
            go_roundw
            case rel => exact ⟨i + 1, by omega, by omega, by go_num, by rw [HLS.out, if_neg HHH.out]; rfl, HKP.out⟩
            case measure => simp [intOf]; omega
        · have hmin : min NN 200 = i := by omega
          have HNL2 := hid_of (show (nv : Int) = (laterN f h i : Nat) + (if h < 1 then 1 else 0 : Nat) + (la : Nat) by have := HNL.out; rw [hmin] at this; rw [this]; push_cast; rfl)
          have HRF := hid_of (HR.out wr hkp)
          have hor : (¬ i < NN ∧ decide ((i : Int) < NN) = false ∧ True) ∨ (i < NN ∧ (i : Int) < NN ∧ decide ((i : Int) < 200) = false) := by
            by_cases h1 : i < NN
            · right; refine ⟨h1, by omega, ?_⟩; simp; omega
            · left; refine ⟨h1, ?_, trivial⟩; simp; omega
          clear h12 hmin hkp
          have hwl : IntKind.i64.wrap (((laterN f h i : Nat) : Int) + 1) = ((laterN f h i : Nat) : Int) + 1 := IntWalk.i64_in _ (by omega)
          by_cases hh1 : h < 1
          · have efin : (nv : Int) = ((laterN f h i : Nat) : Int) + 1 + (la : Int) := by have := HNL2.out; rw [if_pos hh1] at this; simpa using this
            rcases hor with ⟨d0, d1, d2⟩ | ⟨d0, d1, d2⟩
            all_goals
              go_wp2
              exact HRF.out
          · have hh2 : decide (h < 1) = false := by simp; omega
            have efin : (nv : Int) = ((laterN f h i : Nat) : Int) + (la : Int) := by have := HNL2.out; rw [if_neg hh1] at this; simpa using this
            rcases hor with ⟨d0, d1, d2⟩ | ⟨d0, d1, d2⟩
            all_goals
              go_wp2
              exact HRF.out

end

end Go.Proofs.YthbdpfccfcceiaaDoor
