/-
  Who is faster wins: the walk of the law.
-/
import Derived.Test.YthbdpfccfcceiaaDoorE5
namespace Go.Proofs.YthbdpfccfcceiaaDoor
open Go.RowKit

/-- The three acts that came in, each in a block. -/
def P3 (w : World) (A : Nat) (a1 a2 a3 b1 b2 b3 c1 c2 c3 : Int) : Prop := ActAt w A a1 a2 a3 ∧ ActAt w (A + 1) b1 b2 b3 ∧ ActAt w (A + 1 + 1) c1 c2 c3

theorem P3.kp {w w' : World} {A : Nat} {a1 a2 a3 b1 b2 b3 c1 c2 c3 : Int} (h : P3 w A a1 a2 a3 b1 b2 b3 c1 c2 c3) (k : Kp (fun _ => False) w w') : P3 w' A a1 a2 a3 b1 b2 b3 c1 c2 c3 := ⟨h.1.kp k, h.2.1.kp k, h.2.2.kp k⟩
theorem P3.cell {w : World} {A : Nat} {a1 a2 a3 b1 b2 b3 c1 c2 c3 : Int} (h : P3 w A a1 a2 a3 b1 b2 b3 c1 c2 c3) :
    w.cell? ⟨A, 0, none⟩ = some (.int .i64 a1) ∧ w.cell? ⟨A, 1, none⟩ = some (.int .i64 a2) ∧ w.cell? ⟨A + 1, 0, none⟩ = some (.int .i64 b1) ∧ w.cell? ⟨A + 1, 1, none⟩ = some (.int .i64 b2) ∧
    w.cell? ⟨A + 1 + 1, 0, none⟩ = some (.int .i64 c1) ∧ w.cell? ⟨A + 1 + 1, 1, none⟩ = some (.int .i64 c2) ∧ w.cell? ⟨A + 1 + 1, 2, none⟩ = some (.int .i64 c3) :=
  ⟨h.1.cell.1, h.1.cell.2.1, h.2.1.cell.1, h.2.1.cell.2.1, h.2.2.cell.1, h.2.2.cell.2.1, h.2.2.cell.2.2⟩

theorem p3_new (w : World) (a1 a2 a3 b1 b2 b3 c1 c2 c3 : Int) : P3 (((w.alloc (.cells #[.int .i64 a1, .int .i64 a2, .int .i64 a3] 24)).alloc (.cells #[.int .i64 b1, .int .i64 b2, .int .i64 b3] 24)).alloc (.cells #[.int .i64 c1, .int .i64 c2, .int .i64 c3] 24)) w.heap.size a1 a2 a3 b1 b2 b3 c1 c2 c3 := by
  have e1 : ∀ (w : World) (o : Obj), (w.alloc o).heap = w.heap.push o := fun _ _ => rfl
  refine ⟨?_, ?_, ?_⟩ <;> (unfold ActAt; simp only [e1, Array.getElem?_push, Array.size_push])
  · rw [if_neg (by omega), if_neg (by omega), if_pos trivial]
  · rw [if_neg (by omega), if_pos trivial]
  · rw [if_pos trivial]

section
variable {R : Ending → World → Prop}

set_option maxRecDepth 20000 in
set_option maxHeartbeats 2000000 in
theorem wins_same (w : World) (v : Value) (a1 a2 a3 b1 b2 b3 c1 c2 c3 : Int) (ha : I64 a1 ∧ I64 a2) (hb : I64 b1 ∧ I64 b2) (hk : keyN b1 = keyN a1)
    (H : ∀ w0, Kp (fun _ => False) w w0 → P3 w0 w.heap.size a1 a2 a3 b1 b2 b3 c1 c2 c3 → Calls Tryd.prog 6 #[v] w0 fun r w1 => ∃ p, r = .returned (.pointer (some ⟨p, 0, none⟩)) ∧
      Calls Tryd.prog 7 #[.pointer (some ⟨p, 0, none⟩)] w1 fun r w2 => ∃ now : Int, r = .returned (.int .i64 now) ∧ 0 ≤ now ∧ now < 1000000 ∧
      Calls Tryd.prog 8 #[.pointer (some ⟨p, 0, none⟩)] w2 fun r w3 => ∃ one : Int, r = .returned (.tuple #[.int .i64 one, .int .i64 0]) ∧
      Calls Tryd.prog 8 #[.pointer (some ⟨p, 0, none⟩)] w3 fun r w4 => ∃ two : Int, r = .returned (.tuple #[.int .i64 two, .int .i64 0]) ∧ P3 w4 w.heap.size a1 a2 a3 b1 b2 b3 c1 c2 c3 ∧
      ∀ w5, Kp (fun _ => False) w4 w5 → Calls Tryd.prog 9 #[.pointer (some ⟨p, 0, none⟩), .int .i64 one, .string (keyN a1), .string (valN a2)] w5 fun r w6 => r = .returned (.int .i64 0) ∧ P3 w6 w.heap.size a1 a2 a3 b1 b2 b3 c1 c2 c3 ∧
      ∀ w7, Kp (fun _ => False) w6 w7 → Calls Tryd.prog 9 #[.pointer (some ⟨p, 0, none⟩), .int .i64 two, .string (keyN a1), .string (valN b2)] w7 fun r w8 => r = .returned (.int .i64 0) ∧ P3 w8 w.heap.size a1 a2 a3 b1 b2 b3 c1 c2 c3 ∧
      Calls Tryd.prog 18 #[.pointer (some ⟨p, 0, none⟩), .int .i64 one] w8 fun r w9 => r = .returned (.tuple #[.int .i64 (now + 1), .int .i64 0]) ∧
      Calls Tryd.prog 18 #[.pointer (some ⟨p, 0, none⟩), .int .i64 two] w9 fun r w10 => r = .returned (.tuple #[.int .i64 0, .int .i64 4]) ∧ P3 w10 w.heap.size a1 a2 a3 b1 b2 b3 c1 c2 c3 ∧
      ∀ w11, Kp (fun _ => False) w10 w11 → Calls Tryd.prog 19 #[.pointer (some ⟨p, 0, none⟩), .int .i64 (now + 1), .string (keyN a1)] w11 fun r w12 => ∃ k : Int, r = .returned (.tuple #[.string (valN a2), .int .i64 k]) ∧ (k == 5) = (valN a2).toList.isEmpty ∧ P3 w12 w.heap.size a1 a2 a3 b1 b2 b3 c1 c2 c3 ∧
      Calls Tryd.prog 7 #[.pointer (some ⟨p, 0, none⟩)] w12 fun r w13 => r = .returned (.int .i64 (now + 1)) ∧ P3 w13 w.heap.size a1 a2 a3 b1 b2 b3 c1 c2 c3 ∧
      Calls Tryd.prog 18 #[.pointer (some ⟨p, 0, none⟩), .int .i64 two] w13 fun r w14 => r = .returned (.tuple #[.int .i64 0, .int .i64 2]) ∧ P3 w14 w.heap.size a1 a2 a3 b1 b2 b3 c1 c2 c3 ∧
      Calls Tryd.prog 13 #[.pointer (some ⟨p, 0, none⟩), actV c1 c2 c3] w14 fun r w15 => r = .returned (.bool true) ∧ R (.returned (.bool true)) w15) :
    Calls Tryd.prog 4 #[v, actV a1 a2 a3, actV b1 b2 b3, actV c1 c2 c3] w R := by
  have HH := hid_of H
  have B1 := hid_of ha.1
  have B2 := hid_of ha.2
  have D1 := hid_of hb.1
  have D2 := hid_of hb.2
  have HKE := hid_of hk
  clear H ha hb hk
  unfold actV at HH ⊢
  go_enter Tryd.func4, Tryd.ntmps4
  go_wp2_with (first
    | (go_at_call 6; refine Calls.mono (HH.out _ (((Kp.alloc _ _ _).trans (Kp.alloc (fun _ => False) _ _) (fun _ _ h => h)).trans (Kp.alloc (fun _ => False) _ _) (fun _ _ h => h)) (p3_new _ _ _ _ _ _ _ _ _ _)) ?_; rintro r w1 ⟨p, rfl, hn⟩; have HA := hid_of hn; clear hn HH)
    | (go_at_call 7; refine Calls.mono HA.out ?_; rintro r w2 ⟨now, rfl, n0, n1, hn⟩; have HB := hid_of hn; clear hn HA)
    | (go_at_call 8; refine Calls.mono HB.out ?_; rintro r w3 ⟨one, rfl, hn⟩; have HC := hid_of hn; clear hn HB)
    | (go_at_call 8; refine Calls.mono HC.out ?_; rintro r w4 ⟨two, rfl, ha, hn⟩; have HD := hid_of hn; have HP4 := hid_of ha; obtain ⟨q0, q1, q2, q3, q4, q5, q6⟩ := ha.cell; clear hn ha HC)
    | go_in)
  go_region_held3 (fun w' => w'.cell? ⟨w.heap.size, 0, none⟩ = some (.int .i64 a1) ∧ w'.cell? ⟨w.heap.size, 1, none⟩ = some (.int .i64 a2)) (go_keep) (first
    | (go_at_call 10; refine key_any _ _ B1.out (fun w5 k5 => ?_); have k45 := Kp.trans (kp_draws (w := w4) (by simp)) k5 (fun _ _ h => h); obtain ⟨z0, z1, _⟩ := (HP4.out.kp k45).cell; have HK5 := hid_of k45; clear k5 k45)
    | (go_at_call 11; refine value_any _ _ B2.out ?_)
    | (go_at_call 9; refine Calls.mono (HD.out _ (Kp.trans HK5.out (kp_draws (by simp)) (fun _ _ h => h))) ?_; rintro r w6 ⟨rfl, ha, hn⟩; have HE := hid_of hn; have HP6 := hid_of ha; obtain ⟨y0, y1, y2, y3, y4, y5, y6⟩ := ha.cell; clear hn ha HD))
  all_goals
    go_wp2_with fail
    go_region_held3 (fun w' => w'.cell? ⟨w.heap.size + 1, 0, none⟩ = some (.int .i64 b1) ∧ w'.cell? ⟨w.heap.size + 1, 1, none⟩ = some (.int .i64 b2)) (go_keep) (first
      | (go_at_call 10; refine key_any _ _ D1.out (fun w7 k7 => ?_); have k67 := Kp.trans (kp_draws (w := w6) (by simp)) k7 (fun _ _ h => h); obtain ⟨_, _, x2, x3, _⟩ := (HP6.out.kp k67).cell; have HK7 := hid_of k67; clear k7 k67; rw [HKE.out])
      | (go_at_call 11; refine value_any _ _ D2.out ?_)
      | (go_at_call 9; refine Calls.mono (HE.out _ (Kp.trans HK7.out (kp_draws (by simp)) (fun _ _ h => h))) ?_; rintro r w8 ⟨rfl, ha, hn⟩; have HF := hid_of hn; have HP8 := hid_of ha; obtain ⟨u0, u1, u2, u3, u4, u5, u6⟩ := ha.cell; clear hn ha HE))
    all_goals
      go_wp2_with (first
        | (go_at_call 18; refine Calls.mono HF.out ?_; rintro r w9 ⟨rfl, hn⟩; have HG := hid_of hn; clear hn HF)
        | (go_at_call 18; refine Calls.mono HG.out ?_; rintro r w10 ⟨rfl, ha, hn⟩; have HI := hid_of hn; have HP10 := hid_of ha; obtain ⟨o0, o1, o2, o3, o4, o5, o6⟩ := ha.cell; clear hn ha HG)
        | go_in)
      go_region_held3 (fun w' => w'.cell? ⟨w.heap.size, 0, none⟩ = some (.int .i64 a1) ∧ w'.cell? ⟨w.heap.size + 1, 0, none⟩ = some (.int .i64 b1)) (go_keep) (first
        | (go_at_call 10; refine key_any _ _ B1.out (fun w11 k11 => ?_); have k0 := Kp.trans (kp_draws (w := w10) (by simp)) k11 (fun _ _ h => h); obtain ⟨g0, _, g2, _⟩ := (HP10.out.kp k0).cell; have HK11 := hid_of k0; clear k11 k0)
        | (go_at_call 10; refine key_any _ _ D1.out (fun w12 k12 => ?_); have k0 := Kp.trans HK11.out (Kp.trans (kp_draws (w := w11) (by simp)) k12 (fun _ _ h => h)) (fun _ _ h => h); obtain ⟨h0, h1, h2, h3, h4, h5, h6⟩ := (HP10.out.kp k0).cell; have HK12 := hid_of k0; clear k12 k0; rw [HKE.out]))
      all_goals
        go_wp2_with (first
          | (go_at_call 10; refine key_any _ _ B1.out (fun w13 k13 => ?_); have k0 := Kp.trans HK12.out k13 (fun _ _ h => h); obtain ⟨j0, j1, j2, j3, j4, j5, j6⟩ := (HP10.out.kp k0).cell; have HK13 := hid_of k0; clear k13 k0 HK12)
          | (go_at_call 19; refine Calls.mono (HI.out _ HK13.out) ?_; rintro r w14 ⟨k, rfl, hk5, ha, hn⟩; have HJ := hid_of hn; obtain ⟨i0, i1, i2, i3, i4, i5, i6⟩ := ha.cell; clear hn ha HI)
          | (go_at_call 11; refine value_any _ _ B2.out ?_)
          | (go_at_call 7; refine Calls.mono HJ.out ?_; rintro r w15 ⟨rfl, ha, hn⟩; have HL := hid_of hn; obtain ⟨l0, l1, l2, l3, l4, l5, l6⟩ := ha.cell; clear hn ha HJ)
          | (go_at_call 18; refine Calls.mono HL.out ?_; rintro r w16 ⟨rfl, ha, hn⟩; have HM := hid_of hn; obtain ⟨m0, m1, m2, m3, m4, m5, m6⟩ := ha.cell; clear hn ha HL)
          | (go_at_call 13; refine Calls.mono HM.out ?_; rintro r w17 ⟨rfl, hn⟩; have HQ := hid_of hn; clear hn HM)
          | go_in)
        exact HQ.out

set_option maxRecDepth 20000 in
set_option maxHeartbeats 2000000 in
theorem wins_other (w : World) (v : Value) (a1 a2 a3 b1 b2 b3 c1 c2 c3 : Int) (ha : I64 a1 ∧ I64 a2) (hb : I64 b1 ∧ I64 b2) (hk : keyN a1 ≠ keyN b1)
    (H : ∀ w0, Kp (fun _ => False) w w0 → P3 w0 w.heap.size a1 a2 a3 b1 b2 b3 c1 c2 c3 → Calls Tryd.prog 6 #[v] w0 fun r w1 => ∃ p, r = .returned (.pointer (some ⟨p, 0, none⟩)) ∧
      Calls Tryd.prog 7 #[.pointer (some ⟨p, 0, none⟩)] w1 fun r w2 => ∃ now : Int, r = .returned (.int .i64 now) ∧ 0 ≤ now ∧ now < 1000000 ∧
      Calls Tryd.prog 8 #[.pointer (some ⟨p, 0, none⟩)] w2 fun r w3 => ∃ one : Int, r = .returned (.tuple #[.int .i64 one, .int .i64 0]) ∧
      Calls Tryd.prog 8 #[.pointer (some ⟨p, 0, none⟩)] w3 fun r w4 => ∃ two : Int, r = .returned (.tuple #[.int .i64 two, .int .i64 0]) ∧ P3 w4 w.heap.size a1 a2 a3 b1 b2 b3 c1 c2 c3 ∧
      ∀ w5, Kp (fun _ => False) w4 w5 → Calls Tryd.prog 9 #[.pointer (some ⟨p, 0, none⟩), .int .i64 one, .string (keyN a1), .string (valN a2)] w5 fun r w6 => r = .returned (.int .i64 0) ∧ P3 w6 w.heap.size a1 a2 a3 b1 b2 b3 c1 c2 c3 ∧
      ∀ w7, Kp (fun _ => False) w6 w7 → Calls Tryd.prog 9 #[.pointer (some ⟨p, 0, none⟩), .int .i64 two, .string (keyN b1), .string (valN b2)] w7 fun r w8 => r = .returned (.int .i64 0) ∧ P3 w8 w.heap.size a1 a2 a3 b1 b2 b3 c1 c2 c3 ∧
      Calls Tryd.prog 18 #[.pointer (some ⟨p, 0, none⟩), .int .i64 one] w8 fun r w9 => r = .returned (.tuple #[.int .i64 (now + 1), .int .i64 0]) ∧
      Calls Tryd.prog 18 #[.pointer (some ⟨p, 0, none⟩), .int .i64 two] w9 fun r w10 => r = .returned (.tuple #[.int .i64 (now + 2), .int .i64 0]) ∧ P3 w10 w.heap.size a1 a2 a3 b1 b2 b3 c1 c2 c3 ∧
      ∀ w13, Kp (fun _ => False) w10 w13 → Calls Tryd.prog 18 #[.pointer (some ⟨p, 0, none⟩), .int .i64 two] w13 fun r w14 => r = .returned (.tuple #[.int .i64 0, .int .i64 2]) ∧ P3 w14 w.heap.size a1 a2 a3 b1 b2 b3 c1 c2 c3 ∧
      Calls Tryd.prog 13 #[.pointer (some ⟨p, 0, none⟩), actV c1 c2 c3] w14 fun r w15 => r = .returned (.bool true) ∧ R (.returned (.bool true)) w15) :
    Calls Tryd.prog 4 #[v, actV a1 a2 a3, actV b1 b2 b3, actV c1 c2 c3] w R := by
  have HH := hid_of H
  have B1 := hid_of ha.1
  have B2 := hid_of ha.2
  have D1 := hid_of hb.1
  have D2 := hid_of hb.2
  have dk : ((keyN a1).toList == (keyN b1).toList) = false := by
    rw [Lib.toList_data, Lib.toList_data]
    have : (keyN a1).data.toList ≠ (keyN b1).data.toList := fun e => hk (WideShapes.bytes_inj e)
    simpa using this
  clear H ha hb hk
  unfold actV at HH ⊢
  go_enter Tryd.func4, Tryd.ntmps4
  go_wp2_with (first
    | (go_at_call 6; refine Calls.mono (HH.out _ (((Kp.alloc _ _ _).trans (Kp.alloc (fun _ => False) _ _) (fun _ _ h => h)).trans (Kp.alloc (fun _ => False) _ _) (fun _ _ h => h)) (p3_new _ _ _ _ _ _ _ _ _ _)) ?_; rintro r w1 ⟨p, rfl, hn⟩; have HA := hid_of hn; clear hn HH)
    | (go_at_call 7; refine Calls.mono HA.out ?_; rintro r w2 ⟨now, rfl, n0, n1, hn⟩; have HB := hid_of hn; clear hn HA)
    | (go_at_call 8; refine Calls.mono HB.out ?_; rintro r w3 ⟨one, rfl, hn⟩; have HC := hid_of hn; clear hn HB)
    | (go_at_call 8; refine Calls.mono HC.out ?_; rintro r w4 ⟨two, rfl, ha, hn⟩; have HD := hid_of hn; have HP4 := hid_of ha; obtain ⟨q0, q1, q2, q3, q4, q5, q6⟩ := ha.cell; clear hn ha HC)
    | go_in)
  go_region_held3 (fun w' => w'.cell? ⟨w.heap.size, 0, none⟩ = some (.int .i64 a1) ∧ w'.cell? ⟨w.heap.size, 1, none⟩ = some (.int .i64 a2)) (go_keep) (first
    | (go_at_call 10; refine key_any _ _ B1.out (fun w5 k5 => ?_); have k45 := Kp.trans (kp_draws (w := w4) (by simp)) k5 (fun _ _ h => h); obtain ⟨z0, z1, _⟩ := (HP4.out.kp k45).cell; have HK5 := hid_of k45; clear k5 k45)
    | (go_at_call 11; refine value_any _ _ B2.out ?_)
    | (go_at_call 9; refine Calls.mono (HD.out _ (Kp.trans HK5.out (kp_draws (by simp)) (fun _ _ h => h))) ?_; rintro r w6 ⟨rfl, ha, hn⟩; have HE := hid_of hn; have HP6 := hid_of ha; obtain ⟨y0, y1, y2, y3, y4, y5, y6⟩ := ha.cell; clear hn ha HD))
  all_goals
    go_wp2_with fail
    go_region_held3 (fun w' => w'.cell? ⟨w.heap.size + 1, 0, none⟩ = some (.int .i64 b1) ∧ w'.cell? ⟨w.heap.size + 1, 1, none⟩ = some (.int .i64 b2)) (go_keep) (first
      | (go_at_call 10; refine key_any _ _ D1.out (fun w7 k7 => ?_); have k67 := Kp.trans (kp_draws (w := w6) (by simp)) k7 (fun _ _ h => h); obtain ⟨_, _, x2, x3, _⟩ := (HP6.out.kp k67).cell; have HK7 := hid_of k67; clear k7 k67)
      | (go_at_call 11; refine value_any _ _ D2.out ?_)
      | (go_at_call 9; refine Calls.mono (HE.out _ (Kp.trans HK7.out (kp_draws (by simp)) (fun _ _ h => h))) ?_; rintro r w8 ⟨rfl, ha, hn⟩; have HF := hid_of hn; have HP8 := hid_of ha; obtain ⟨u0, u1, u2, u3, u4, u5, u6⟩ := ha.cell; clear hn ha HE))
    all_goals
      go_wp2_with (first
        | (go_at_call 18; refine Calls.mono HF.out ?_; rintro r w9 ⟨rfl, hn⟩; have HG := hid_of hn; clear hn HF)
        | (go_at_call 18; refine Calls.mono HG.out ?_; rintro r w10 ⟨rfl, ha, hn⟩; have HI := hid_of hn; have HP10 := hid_of ha; obtain ⟨o0, o1, o2, o3, o4, o5, o6⟩ := ha.cell; clear hn ha HG)
        | go_in)
      go_region_held3 (fun w' => w'.cell? ⟨w.heap.size, 0, none⟩ = some (.int .i64 a1) ∧ w'.cell? ⟨w.heap.size + 1, 0, none⟩ = some (.int .i64 b1)) (go_keep) (first
        | (go_at_call 10; refine key_any _ _ B1.out (fun w11 k11 => ?_); have k0 := Kp.trans (kp_draws (w := w10) (by simp)) k11 (fun _ _ h => h); obtain ⟨g0, _, g2, _⟩ := (HP10.out.kp k0).cell; have HK11 := hid_of k0; clear k11 k0)
        | (go_at_call 10; refine key_any _ _ D1.out (fun w12 k12 => ?_); have k0 := Kp.trans HK11.out (Kp.trans (kp_draws (w := w11) (by simp)) k12 (fun _ _ h => h)) (fun _ _ h => h); obtain ⟨h0, h1, h2, h3, h4, h5, h6⟩ := (HP10.out.kp k0).cell; have HK12 := hid_of k0; clear k12 k0))
      all_goals
        go_wp2_with (first
          | (go_at_call 18; refine Calls.mono (HI.out _ HK12.out) ?_; rintro r w16 ⟨rfl, ha, hn⟩; have HM := hid_of hn; obtain ⟨m0, m1, m2, m3, m4, m5, m6⟩ := ha.cell; clear hn ha HI)
          | (go_at_call 13; refine Calls.mono HM.out ?_; rintro r w17 ⟨rfl, hn⟩; have HQ := hid_of hn; clear hn HM)
          | go_in)
        exact HQ.out

end

end Go.Proofs.YthbdpfccfcceiaaDoor
