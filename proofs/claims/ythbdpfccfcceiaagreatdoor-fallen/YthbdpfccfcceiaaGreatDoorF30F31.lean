/-
  What was synced outlives a crash: the walk of the law.
  What was synced outlives a crash, told of the stores.
-/
import Derived.Test.YthbdpfccfcceiaaGreatDoorU2F29
namespace Go.Proofs.YthbdpfccfcceiaaGreatDoor
open Go.RowKit

section
variable {R : Ending → World → Prop}

theorem ToldAt.get {lo hi n cap : Nat} {w : World} {a : Option Addr} {L : Nat → List (ByteArray × ByteArray)} (h : ToldAt lo hi w (.slice a n cap) n L) {j : Nat} (hj : j < n) : ∃ g v', a = some ⟨g, 0, none⟩ ∧ w.cell? ⟨g, j, none⟩ = some v' ∧ PairsAt lo hi w v' (L j) := by
  obtain ⟨a', cap', e, _, h⟩ := h
  cases e
  obtain ⟨g, rfl, _, _, h⟩ := h (by omega)
  obtain ⟨v', h1, h2⟩ := h j hj
  exact ⟨g, v', rfl, h1, h2⟩

/-- Does the law sync behind the i-th act? -/
def syncsAt (n : Nat) (m : Nat → Int) (i : Nat) : Bool := decide (i < n) && decide (pk (m i) 3 = 0)

set_option maxRecDepth 20000 in
set_option maxHeartbeats 8000000 in
theorem fallen_walk (w : World) (a0 : Option Addr) (NN cap0 : Nat) (f : Nat → A3) (hn0 : NN ≤ maxLen) (hv0 : 0 < NN → ∃ g off, a0 = some ⟨g, off, none⟩ ∧ Acts w g off NN f)
    (a : Option Addr) (n cap : Nat) (m : Nat → Int) (hn : n ≤ 140737488355328) (hv : 0 < n → ∃ g off, a = some ⟨g, off, none⟩ ∧ g < w.heap.size ∧ ∀ i, i < n → w.cell? ⟨g, off + i, none⟩ = some (.int .i64 (m i)) ∧ I64 (m i))
    (kp : Int) (hkp : I64 kp)
    (I : Nat → Nat → Int → World → Prop) (J : Nat → Nat → Int → Int → Value → Value → Nat → World → Prop)
    (hkI : ∀ i p safe w', I i p safe w' → Kp (fun _ => False) w w' ∧ 0 ≤ safe ∧ safe ≤ 1000)
    (H : Calls Tryz.prog 11 #[.slice none 0 0] w fun r w1 => ∃ p, r = .returned (.pointer (some ⟨p, 0, none⟩)) ∧ I 0 p 0 w1)
    (hS : ∀ i p safe w', I i p safe w' → i < NN → i < 60 → Calls Tryz.prog 12 #[.pointer (some ⟨p, 0, none⟩), actV (f i).1 (f i).2.1 (f i).2.2] w' fun r w2 => r = .returned (.bool true) ∧ Kp (fun _ => False) w w2 ∧
      (syncsAt n m i = false → I (i + 1) p safe w2) ∧ (syncsAt n m i = true → Calls Tryz.prog 14 #[.pointer (some ⟨p, 0, none⟩)] w2 fun r w3 => r = .returned (.tuple #[]) ∧
        Calls Tryz.prog 15 #[.pointer (some ⟨p, 0, none⟩)] w3 fun r w4 => ∃ t : Int, r = .returned (.int .i64 t) ∧ I (i + 1) p t w4))
    (hF : ∀ p safe w', I (min NN 60) p safe w' → Calls Tryz.prog 15 #[.pointer (some ⟨p, 0, none⟩)] w' fun r w2 => ∃ now : Int, r = .returned (.int .i64 now) ∧
      Calls Tryz.prog 17 #[.pointer (some ⟨p, 0, none⟩), .int .i64 (pk kp 200)] w2 fun r w3 => ∃ a3 n3 c3, r = .returned (.slice a3 n3 c3) ∧
      Calls Tryz.prog 16 #[.slice a3 n3 c3] w3 fun r w4 => ∃ q, r = .returned (.tuple #[.pointer (some ⟨q, 0, none⟩), .int .i64 0]) ∧
      Calls Tryz.prog 15 #[.pointer (some ⟨q, 0, none⟩)] w4 fun r w5 => ∃ t : Int, r = .returned (.int .i64 t) ∧ safe ≤ t ∧ t ≤ now ∧ 0 ≤ t ∧ t ≤ 2000 ∧
      Calls Tryz.prog 18 #[.pointer (some ⟨p, 0, none⟩), .int .i64 0, .int .i64 t] w5 fun r w6 => ∃ a6 n6 c6, r = .returned (.tuple #[.slice a6 n6 c6, .bool true]) ∧ n6 < 1000000 ∧
      Calls Tryz.prog 18 #[.pointer (some ⟨q, 0, none⟩), .int .i64 0, .int .i64 t] w6 fun r w7 => ∃ a7 c7, r = .returned (.tuple #[.slice a7 n6 c7, .bool true]) ∧ J p q t now (.slice a6 n6 c6) (.slice a7 n6 c7) n6 w7)
    (hJ : ∀ p q t now va vb nt w', J p q t now va vb nt w' → ∃ lo hi lo' hi' L, ToldAt lo hi w' va nt L ∧ ToldAt lo' hi' w' vb nt L ∧ ∀ j, (L j).length ≤ 6)
    (hJk : ∀ p q t now va vb nt w' w'', J p q t now va vb nt w' → Kp (fun _ => False) w' w'' → J p q t now va vb nt w'')
    (hG : ∀ p q t now va vb nt w', J p q t now va vb nt w' → Calls Tryz.prog 20 #[.pointer (some ⟨p, 0, none⟩)] w' fun r w2 => ∃ a3 n3 c3, r = .returned (.slice a3 n3 c3) ∧
      Calls Tryz.prog 16 #[.slice a3 n3 c3] w2 fun r w3 => ∃ q2, r = .returned (.tuple #[.pointer (some ⟨q2, 0, none⟩), .int .i64 0]) ∧
      Calls Tryz.prog 15 #[.pointer (some ⟨q2, 0, none⟩)] w3 fun r w4 => r = .returned (.int .i64 now) ∧
      Calls Tryz.prog 12 #[.pointer (some ⟨q, 0, none⟩), actV 1 7 0] w4 fun r w5 => r = .returned (.bool true) ∧
      Calls Tryz.prog 20 #[.pointer (some ⟨q, 0, none⟩)] w5 fun r w6 => ∃ a3 n3 c3, r = .returned (.slice a3 n3 c3) ∧
      Calls Tryz.prog 16 #[.slice a3 n3 c3] w6 fun r w7 => ∃ q2, r = .returned (.tuple #[.pointer (some ⟨q2, 0, none⟩), .int .i64 0]) ∧
      Calls Tryz.prog 15 #[.pointer (some ⟨q2, 0, none⟩)] w7 fun r w8 => r = .returned (.int .i64 (t + 1)) ∧ Kp (fun _ => False) w w8)
    (hR : ∀ w', Kp (fun _ => False) w w' → R (.returned (.bool true)) w') :
    Calls Tryz.prog 6 #[.slice a0 NN cap0, .slice a n cap, .int .i64 kp] w R := by
  have HH := hid_of H
  have HKI := hid_of hkI
  have HS := hid_of hS
  have HJ := hid_of hJ
  have HJK := hid_of hJk
  have HF := hid_of hF
  have HG := hid_of hG
  have HR := hid_of hR
  have HV0 := hid_of hv0
  have HV := hid_of hv
  have HZ := hid_of hkp
  have HNB := hid_of (And.intro hn0 hn)
  clear H hkI hS hJ hJk hF hG hR hv0 hv hkp hn0 hn
  go_enter Tryz.func6, Tryz.ntmps6
  go_wp2_with (first
    | (go_at_call 11; refine Calls.mono HH.out ?_; rintro r w1 ⟨p, rfl, hn⟩; have HI0 := hid_of hn; clear hn HH)
    | go_in)
  have hnb0 : (NN : Int) ≤ 9223372036854775807 := by have := HNB.out.1; unfold maxLen at this; omega
  have hnb : (n : Int) ≤ 140737488355328 := by have := HNB.out.2; omega
  go_loopw [8, 9, 10] (fun v8 v9 _ wr => ∃ (i : Nat) (safe : Int), i ≤ NN ∧ i ≤ 60 ∧ v9 = .int .i64 i ∧ v8 = .int .i64 safe ∧ I i p safe wr) (fun _ v9 _ _ => 60 - (intOf v9).toNat)
  case atStart => exact ⟨0, 0, Nat.zero_le _, Nat.zero_le _, rfl, rfl, HI0.out⟩
  case round =>
    obtain ⟨i, safe, hi1, hi2, rfl, rfl, hI⟩ := hrel
    obtain ⟨hk, hs0, hs1⟩ := HKI.out _ _ _ _ hI
    have HI := hid_of hI
    have HK := hid_of hk
    clear hI hk HI0
    by_cases h12 : i < NN ∧ i < 60
    · obtain ⟨h1, h2⟩ := h12
      have d1 : (i : Int) < NN := by omega
      have d2 : (i : Int) < 60 := by omega
      obtain ⟨g1, off, rfl, hA⟩ := HV0.out (by omega)
      have hA' := hA.kept HK.out
      have q0 := hA'.c0 i h1
      have q1 := hA'.c1 i h1
      have q2 := hA'.c2 i h1
      have HS1 := hid_of (HS.out i p safe wr HI.out h1 h2)
      unfold actV at HS1
      generalize (f i).1 = b1 at q0 HS1
      generalize (f i).2.1 = b2 at q1 HS1
      generalize (f i).2.2 = b3 at q2 HS1
      clear hA hA'
      by_cases hin2 : i < n
      · have d3 : (i : Int) < n := by omega
        obtain ⟨g2, off2, rfl, hg2, hA2⟩ := HV.out (by omega)
        have HM1 := hid_of (hA2 i hin2).1
        have HM2 := hid_of (hA2 i hin2).2
        have HG2 := hid_of hg2
        clear hA2 hg2
        by_cases hp3 : pk (m i) 3 = 0
        · have hsy : syncsAt n m i = true := by simp [syncsAt, hin2, hp3]
          have HSY := hid_of hsy
          have HP3 := hid_of hp3
          clear hsy hp3
          go_wp2_with (first
            | (go_at_call 12; refine Calls.mono HS1.out ?_; rintro r w2 ⟨rfl, hk2, _, hn2⟩; have HB := hid_of (hn2 HSY.out); have z0 := (hk2.cell (a := ⟨g2, off2 + i, none⟩) HG2.out (fun h => h)).trans HM1.out; clear hn2 hk2 HS1)
            | (go_at_call 13; refine pick_any _ _ _ HM2.out (by decide) ?_; rw [HP3.out])
            | (go_at_call 14; refine Calls.mono HB.out ?_; rintro r w3 ⟨rfl, hn3⟩; have HC := hid_of hn3; clear hn3 HB)
            | (go_at_call 15; refine Calls.mono HC.out ?_; rintro r w4 ⟨t, rfl, hn4⟩; have HD := hid_of hn4; clear hn4 HC)
            | go_in)
          go_roundw
          case rel => exact ⟨i + 1, t, by omega, by omega, by go_num, rfl, HD.out⟩
          case measure => simp [intOf]; omega
        · have hsy : syncsAt n m i = false := by simp [syncsAt, hp3]
          have HSY := hid_of hsy
          have hp3' : (pk (m i) 3 == 0) = false := by simpa using hp3
          generalize hP : pk (m i) 3 = P at hp3'
          have HP3 := hid_of hP
          clear hsy hp3 hP
          go_wp2_with (first
            | (go_at_call 12; refine Calls.mono HS1.out ?_; rintro r w2 ⟨rfl, hk2, hn2, _⟩; have HB := hid_of (hn2 HSY.out); have z0 := (hk2.cell (a := ⟨g2, off2 + i, none⟩) HG2.out (fun h => h)).trans HM1.out; clear hn2 hk2 HS1)
            | (go_at_call 13; refine pick_any _ _ _ HM2.out (by decide) ?_; rw [HP3.out])
            | go_in)
          go_roundw
          case rel => exact ⟨i + 1, safe, by omega, by omega, by go_num, rfl, HB.out⟩
          case measure => simp [intOf]; omega
      · have d3 : decide ((i : Int) < n) = false := by simp; omega
        have hsy : syncsAt n m i = false := by simp [syncsAt, hin2]
        have HSY := hid_of hsy
        clear hsy
        go_wp2_with (first
          | (go_at_call 12; refine Calls.mono HS1.out ?_; rintro r w2 ⟨rfl, hk2, hn2, _⟩; have HB := hid_of (hn2 HSY.out); clear hn2 hk2 HS1)
          | go_in)
        go_roundw
        case rel => exact ⟨i + 1, safe, by omega, by omega, by go_num, rfl, HB.out⟩
        case measure => simp [intOf]; omega
    · have hmin : min NN 60 = i := by omega
      have HF1 := hid_of (HF.out p safe wr (by rw [hmin]; exact HI.out))
      have hor : (¬ i < NN ∧ decide ((i : Int) < NN) = false ∧ True) ∨ (i < NN ∧ (i : Int) < NN ∧ decide ((i : Int) < 60) = false) := by
        by_cases h1 : i < NN
        · right; refine ⟨h1, by omega, ?_⟩; simp; omega
        · left; refine ⟨h1, ?_, trivial⟩; simp; omega
      clear h12 hmin
      rcases hor with ⟨d0, d1, d2⟩ | ⟨d0, d1, d2⟩
      all_goals
        go_wp2_with (first
          | (go_at_call 15; refine Calls.mono HF1.out ?_; rintro r w2 ⟨now, rfl, hn⟩; have HA := hid_of hn; clear hn HF1)
          | (go_at_call 13; refine pick_any _ _ _ HZ.out (by decide) ?_)
          | (go_at_call 17; refine Calls.mono HA.out ?_; rintro r w3 ⟨a3, n3, c3, rfl, hn⟩; have HB := hid_of hn; clear hn HA)
          | (go_at_call 16; refine Calls.mono HB.out ?_; rintro r w4 ⟨q, rfl, hn⟩; have HC := hid_of hn; clear hn HB)
          | (go_at_call 15; refine Calls.mono HC.out ?_; rintro r w5 ⟨t, rfl, t1, t2, t3, t4, hn⟩; have e1 : decide (t < safe) = false := (by simp; omega); have e2 : decide (now < t) = false := (by simp; omega); have HD := hid_of hn; clear hn HC)
          | (go_at_call 18; refine Calls.mono HD.out ?_; rintro r w6 ⟨a6, n6, c6, rfl, hn6, hn⟩; have HE := hid_of hn; clear hn HD)
          | (go_at_call 18; refine Calls.mono HE.out ?_; rintro r w7 ⟨a7, c7, rfl, hn⟩; have HJ7 := hid_of hn; clear hn HE)
          | go_in)
        have hn6' : (n6 : Int) < 1000000 := by omega
        go_loopw [19, 20] (fun v19 _ wr => ∃ j : Nat, j ≤ n6 ∧ v19 = .int .i64 j ∧ J p q t now (.slice a6 n6 c6) (.slice a7 n6 c7) n6 wr) (fun v19 _ _ => n6 - (intOf v19).toNat)
        case atStart => exact ⟨0, Nat.zero_le _, rfl, HJ7.out⟩
        case round =>
          obtain ⟨j, hjn, rfl, hj⟩ := hrel
          have HJ5 := hid_of hj
          clear hj HJ7
          by_cases hjl : j < n6
          · have d5 : (j : Int) < n6 := by omega
            obtain ⟨lo2, hi2, lo3, hi3, L2, t2', t3', hL⟩ := HJ.out _ _ _ _ _ _ _ _ HJ5.out
            obtain ⟨gv, v1, rfl, x1, p1⟩ := t2'.get hjl
            obtain ⟨gt, v2, rfl, x2, p2⟩ := t3'.get hjl
            have HSA := hid_of (fun (q : Nat) => same_draws (w := wr.drewN q) v1 v2 _ (p1.kp (Kp.drewN (fun _ => False) wr q) (fun _ _ _ h => h)) (p2.kp (Kp.drewN (fun _ => False) wr q) (fun _ _ _ h => h)) (by have := hL j; omega))
            clear t2' t3' hL p1 p2
            go_wp2
            go_quiet (first | (go_at_call 19; exact Calls.quiet_of (HSA.out _)))
            go_wp2
            go_roundw
            case rel => exact ⟨j + 1, by omega, by go_num, HJK.out _ _ _ _ _ _ _ _ _ HJ5.out (Kp.drewN _ _ _)⟩
            case measure => simp [intOf]; omega
          · have d6 : decide ((j : Int) < n6) = false := by simp; omega
            have HG1 := hid_of (HG.out _ _ _ _ _ _ _ _ HJ5.out)
            have htw : IntKind.i64.wrap (t + 1) = t + 1 := IntWalk.i64_in _ (by omega)
            unfold actV at HG1
            clear HJ5
            go_wp2_with (first
              | (go_at_call 20; refine Calls.mono HG1.out ?_; rintro r w8 ⟨a8, n8, c8, rfl, hn⟩; have HG2 := hid_of hn; clear hn HG1)
              | (go_at_call 16; refine Calls.mono HG2.out ?_; rintro r w9 ⟨q9, rfl, hn⟩; have HG3 := hid_of hn; clear hn HG2)
              | (go_at_call 15; refine Calls.mono HG3.out ?_; rintro r w10 ⟨rfl, hn⟩; have HG4 := hid_of hn; clear hn HG3)
              | (go_at_call 12; refine Calls.mono HG4.out ?_; rintro r w11 ⟨rfl, hn⟩; have HG5 := hid_of hn; clear hn HG4)
              | (go_at_call 20; refine Calls.mono HG5.out ?_; rintro r w12 ⟨a12, n12, c12, rfl, hn⟩; have HG6 := hid_of hn; clear hn HG5)
              | (go_at_call 16; refine Calls.mono HG6.out ?_; rintro r w13 ⟨q13, rfl, hn⟩; have HG7 := hid_of hn; clear hn HG6)
              | (go_at_call 15; refine Calls.mono HG7.out ?_; rintro r w14 ⟨rfl, hk14⟩; have HRF := hid_of (HR.out _ hk14); clear hk14 HG7)
              | go_in)
            exact HRF.out

end

end Go.Proofs.YthbdpfccfcceiaaGreatDoor

namespace Go.Proofs.YthbdpfccfcceiaaGreatDoor
open Go.RowKit

theorem comOk_of {wr : ByteArray → Option (ByteArray × Bool)} {ws : List W3} (h : WsOf wr ws) (hl : ws.length ≤ 10) (hne : ∃ k, (wr k).isSome = true) (hok : ∀ k v, wr k = some v → isKey k = true ∧ v.1.size ≤ 20 ∧ (v.2 = true → v.1 = eb)) : ComOk ws := by
  refine ⟨h.up, ?_, hl, fun x hx => hok x.1 x.2 (h.at_ x hx)⟩
  obtain ⟨k, hk⟩ := hne
  obtain ⟨x, hx, _⟩ := List.mem_map.1 (h.all k hk)
  exact List.length_pos_of_mem hx

theorem vOf_ok (n : Int) : (vOf (valN n)).1.size ≤ 20 ∧ ((vOf (valN n)).2 = true → (vOf (valN n)).1 = eb) := by
  have h := valN_size n
  unfold vOf
  split
  · exact ⟨by show eb.size ≤ 20; decide, fun _ => rfl⟩
  · exact ⟨h, fun e => by cases e⟩

theorem actWr_ok (a1 a2 a3 : Int) (k : ByteArray) (v : ByteArray × Bool) (h : actWr a1 a2 a3 k = some v) : isKey k = true ∧ v.1.size ≤ 20 ∧ (v.2 = true → v.1 = eb) := by
  have one : ∀ {g : ByteArray → Option (ByteArray × Bool)} {x y : Int}, (∀ v, g k = some v → isKey k = true ∧ v.1.size ≤ 20 ∧ (v.2 = true → v.1 = eb)) → updS g (keyN x) (some (vOf (valN y))) k = some v → isKey k = true ∧ v.1.size ≤ 20 ∧ (v.2 = true → v.1 = eb) := fun {g x y} hg h => by
    by_cases e : k = keyN x
    · subst e
      rw [updS_same] at h
      injection h with h
      subst h
      exact ⟨keyN_key x, vOf_ok y⟩
    · rw [updS_other _ e] at h
      exact hg v h
  unfold actWr at h
  split at h
  · exact one (fun v h => by
      by_cases e : k = keyN a1
      · subst e
        rw [updS_same] at h
        injection h with h
        subst h
        exact ⟨keyN_key a1, vOf_ok a2⟩
      · rw [updS_other _ e] at h; cases h) h
  · exact one (fun v h => by cases h) h

theorem actWr_one (a1 a2 a3 : Int) : ∃ k, (actWr a1 a2 a3 k).isSome = true := by
  unfold actWr
  split
  · exact ⟨keyN (a3.tdiv 3), by rw [updS_same]; rfl⟩
  · exact ⟨keyN a1, by rw [updS_same]; rfl⟩

theorem momE_ne {es : List (List W3)} {k : ByteArray} : ∀ {a b : Nat}, a ≤ b → momE es a k ≠ [] → momE es b k ≠ [] := by
  intro a b hab h
  induction b with
  | zero => have : a = 0 := by omega
            subst this; exact h
  | succ b ih =>
    by_cases e : a = b + 1
    · subst e; exact h
    · have h1 := ih (by omega)
      simp only [momE]
      split
      · simp
      · exact h1

theorem HistE.cut {es : List (List W3)} {n : Nat} {s : XS} (h : HistE es n s) : HistE (es.take n) n s := by
  have hl : (es.take n).length = n := by rw [List.length_take]; have := h.le; omega
  refine ⟨h.now, h.hor, fun k => ?_, fun k m => ?_, by rw [h.lg, List.take_take, Nat.min_self], by omega⟩
  · rw [h.mom, ← momE_app (es := es.take n) k (es.drop n) (by omega), List.take_append_drop]
  · rw [h.ver, ← verE_app (es := es.take n) k m (es.drop n) (by omega), List.take_append_drop]

theorem sizeB_app {es : List (List W3)} {a : Nat} (h : a ≤ es.length) (x : List (List W3)) : sizeB (lgF 1 (es ++ x)) a = sizeB (lgF 1 es) a := by
  unfold sizeB
  rw [lgF_take, lgF_take, List.take_append_of_le_length h]

theorem HistE.size {es : List (List W3)} {s : XS} (h : HistE es es.length s) : bytesOf (filesB s.log.lg) = sizeB (lgF 1 es) es.length := by
  unfold sizeB
  rw [h.lg, lgF_take]

/-- A store that the law has filled. -/
structure Full (w : World) (p : Nat) (s : XS) (es : List (List W3)) (w' : World) : Prop where
  st : St (fun b => b < w.heap.size) w' p s
  ok : XOk s
  six : Six s
  hist : HistE es es.length s
  good : ∀ ws ∈ es, ComOk ws
  txs : ∀ n, s.txs n = none
  nopen : s.nopen = 0
  beg : s.begun ≤ (es.length : Int)
  kp : Kp (fun _ => False) w w'

def FalI (w : World) (i p : Nat) (safe : Int) (w' : World) : Prop :=
  ∃ s es, Full w p s es w' ∧ es.length = i + 1 ∧ i ≤ 60 ∧ ∃ a : Nat, safe = a ∧ a ≤ i + 1 ∧ s.log.sy = sizeB (lgF 1 es) a

def FalJ (w : World) (p q : Nat) (t now : Int) (va vb : Value) (nt : Nat) (w' : World) : Prop :=
  ∃ s es r k, Full w p s es w' ∧ es.length ≤ 61 ∧ now = (es.length : Int) ∧ t = (k : Nat) ∧ k ≤ es.length ∧ Full w q r (es.take k) w' ∧
    ∃ lo hi lo' hi' L, ToldAt lo hi w' va nt L ∧ ToldAt lo' hi' w' vb nt L ∧ ∀ j, (L j).length ≤ 6

section
variable {R : Ending → World → Prop}

theorem Full.kept {w w' w'' : World} {p : Nat} {s : XS} {es : List (List W3)} (h : Full w p s es w') (k : Kp (fun _ => False) w' w'') : Full w p s es w'' :=
  ⟨h.st.kept k, h.ok, h.six, h.hist, h.good, h.txs, h.nopen, h.beg, h.kp.trans k (fun _ _ h => h)⟩

theorem e_toldTo {N : Nat → Prop} {w : World} {p : Nat} {s : XS} (h : St N w p s) (ok : XOk s) (six : Six s) (t1 : Int) (h0 : s.hor = 0) (h1 : 0 ≤ t1 ∧ t1 ≤ s.now)
    (hR : ∀ w' v, Kp (fun _ => False) w w' → ToldAt w.heap.size w'.heap.size w' v (t1 + 1).toNat (fun j => pairs6 fun k => valAt s k j) → R (.returned (.tuple #[v, .bool true])) w') :
    Calls Tryz.prog 18 #[.pointer (some ⟨p, 0, none⟩), .int .i64 0, .int .i64 t1] w R := by
  have hn := ok.now
  refine told_walk w p 0 t1 (by omega) (fun t => pairs6 fun k => valAt s k t) (fun t wr k h2 h3 => ?_) (fun w' v k ht => hR w' v k ?_)
  · refine e_range (h.kept k) ok six t (by omega) (by omega) (fun w' v k' hp => ?_)
    obtain ⟨a, cap, rfl, r⟩ := hp
    exact ⟨a, cap, rfl, k', a, cap, rfl, r⟩
  · have e1 : (t1 - 0 + 1).toNat = (t1 + 1).toNat := by simp
    rw [e1] at ht
    simpa using ht

/-- A commit more. -/
theorem Full.commits {w w' : World} {p : Nat} {s : XS} {es : List (List W3)} (h : Full w p s es w') (hl : es.length ≤ 100) (a1 a2 a3 : Int) (h1 : I64 a1) (h2 : I64 a2) (h3 : I64 a3)
    (hR : ∀ w'' s' ws, Full w p s' (es ++ [ws]) w'' → s'.log.sy = s.log.sy → R (.returned (.bool true)) w'') :
    Calls Tryz.prog 12 #[.pointer (some ⟨p, 0, none⟩), actV a1 a2 a3] w' R := by
  have hn := h.hist.now
  have hb := h.beg
  refine e_commits h.st h.ok (by omega) (by rw [h.nopen]; omega) (by omega) a1 a2 a3 h1 h2 h3 (fun w'' nv nm l hl' S' ok' k => ?_)
  obtain ⟨ws, g1, g2, g3, g4⟩ := hl'
  refine hR w'' _ ws ⟨S', ok', six_mom h.six (fun k => rfl) (actWr_keys _ _ _), ?_, fun x hx => ?_, h.txs, h.nopen, ?_, h.kp.trans k (fun b hb e => e hb)⟩ g4
  · have := h.hist.acted rfl g1 g3 nv nm
    rw [show es.length + 1 = (es ++ [ws]).length by simp] at this
    exact this
  · rcases List.mem_append.1 hx with hx | hx
    · exact h.good x hx
    · rw [List.mem_singleton] at hx
      subst hx
      exact comOk_of g1 g2 (actWr_one _ _ _) (actWr_ok _ _ _)
  · show s.begun + 1 ≤ _
    simp; omega

/-- Its log, whole, recovered. -/
theorem Full.again {w w' : World} {p : Nat} {s : XS} {es : List (List W3)} (h : Full w p s es w') (hl : es.length ≤ 2000)
    (hR : ∀ w'' a n c, Kp (fun _ => False) w' w'' → Calls Tryz.prog 16 #[.slice a n c] w'' (fun r w3 => ∃ q, r = .returned (.tuple #[.pointer (some ⟨q, 0, none⟩), .int .i64 0]) ∧ Kp (fun _ => False) w'' w3 ∧ ∃ s' N, St N w3 q s' ∧ s'.now = (es.length : Int)) → R (.returned (.slice a n c)) w'') :
    Calls Tryz.prog 20 #[.pointer (some ⟨p, 0, none⟩)] w' R := by
  refine e_files h.st h.ok (fun v lv w'' hf k => ?_)
  have hlg : s.log.lg = lgF 1 es := by rw [h.hist.lg, List.take_length]
  have hne := h.ok.files.1
  rw [hlg] at hf hne
  rw [← firstB_all (filesB (lgF 1 es)) hne (bytesOf (filesB (lgF 1 es))) (Nat.le_refl _)] at hf
  obtain ⟨a, c, rfl⟩ := ownsRow_slice hf.row
  obtain ⟨own, hx, hN⟩ := h.st
  refine hR w'' a _ c k (e_recover (hN.tab.kept k) h.good hl _ lv hf (fun w3 q j s' S3 k3 ok3 h3 _ _ _ _ hk => ⟨q, rfl, k3, s', _, S3, ?_⟩))
  have := hk es.length (Nat.le_refl _) (by have := h.hist.size; rw [hlg] at this; omega)
  have := h3.le
  rw [h3.now]
  omega

end

end Go.Proofs.YthbdpfccfcceiaaGreatDoor
