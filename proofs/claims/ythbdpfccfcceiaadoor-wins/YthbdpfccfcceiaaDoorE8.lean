/-
  Who is faster wins, told of the store.
-/
import Derived.Test.YthbdpfccfcceiaaDoorE6
import Derived.Test.YthbdpfccfcceiaaDoorE7
import Derived.Test.YthbdpfccfcceiaaDoorE9
namespace Go.Proofs.YthbdpfccfcceiaaDoor
open Go.RowKit

section
variable {R : Ending → World → Prop}

theorem valAt_congr {s s' : XS} (h1 : s'.mom = s.mom) (h2 : s'.ver = s.ver) (k : ByteArray) (t : Int) : valAt s' k t = valAt s k t := by
  unfold valAt
  rw [h1, h2]

theorem e_wins (w : World) (hT : Tab w) (v : Value) (n : Nat) (f : Nat → A3) (hv : ActsIn w v n f) (a1 a2 a3 b1 b2 b3 c1 c2 c3 : Int) (ha : I64 a1 ∧ I64 a2) (hb : I64 b1 ∧ I64 b2) (hc : I64 c1 ∧ I64 c2 ∧ I64 c3)
    (hR : ∀ w', Kp (fun _ => False) w w' → R (.returned (.bool true)) w') :
    Calls Tryd.prog 4 #[v, actV a1 a2 a3, actV b1 b2 b3, actV c1 c2 c3] w R := by
  have lA : ∀ {w' : World} {A : Nat} {x y z : Int}, ActAt w' A x y z → A < w'.heap.size := fun h => block_lt h
  have hl : ((List.range (min n 200)).map f).length ≤ 200 := by simp; omega
  by_cases hk : keyN b1 = keyN a1
  · refine wins_same w v a1 a2 a3 b1 b2 b3 c1 c2 c3 ha hb hk (fun w0 k0 hp0 => ?_)
    have keepP : ∀ {w1 w2 : World}, P3 w1 w.heap.size a1 a2 a3 b1 b2 b3 c1 c2 c3 → Kp (fun b => ¬ b < w0.heap.size) w1 w2 → P3 w2 w.heap.size a1 a2 a3 b1 b2 b3 c1 c2 c3 := fun h k =>
      ⟨(k.block _ (lA h.1) (fun e => e (lA hp0.1))).trans h.1, (k.block _ (lA h.2.1) (fun e => e (lA hp0.2.1))).trans h.2.1, (k.block _ (lA h.2.2) (fun e => e (lA hp0.2.2))).trans h.2.2⟩
    have low : ∀ {w1 w2 : World}, Kp (fun _ => False) w0 w1 → Kp (fun b => ¬ b < w0.heap.size) w1 w2 → Kp (fun _ => False) w0 w2 := fun k1 k2 => k1.trans k2 (fun b hb h => absurd hb h)
    refine e_filled w0 (hT.kept k0) v n f (hv.kept k0) (fun w1 p s hr ok S1 k1 => ⟨p, rfl, ?_⟩)
    obtain ⟨f1, f2, f3, f4, f5⟩ := hr.facts
    have hp1 := hp0.kp k1
    refine e_now S1 ⟨s.now, rfl, by omega, by omega, ?_⟩
    refine f_begin S1 ok (by omega) (by omega) (fun w3 s3 g3 S3 k3 => ⟨s.begun + 1, rfl, ?_⟩)
    have e31 := g3.now; have e32 := g3.begun; have e33 := g3.nopen; have e34 := g3.hor
    refine f_begin S3 g3.ok (by omega) (by omega) (fun w4 s4 g4 S4 k4 => ⟨s3.begun + 1, rfl, keepP (keepP hp1 k3) k4, fun w5 k5 => ?_⟩)
    have e41 := g4.now; have e42 := g4.begun; have e43 := g4.nopen; have e44 := g4.hor
    have hp4 := keepP (keepP hp1 k3) k4
    have K4 := low (low k1 k3) k4
    have ne1 : s.begun + 1 ≠ s3.begun + 1 := by omega
    have hw1 : (Lit.int .i64 (s.begun + 1)).wf = true := wfI (by omega)
    have hw2 : (Lit.int .i64 (s3.begun + 1)).wf = true := wfI (by omega)
    refine f_writes (S4.kept k5) g4.ok hw1 ((g4.txs _ ne1).trans g3.mine) (by simp) (keyN a1) (valN a2) (keyN_key _) (valN_size _) (fun w6 s6 n6 g6 S6 k6 => ⟨rfl, keepP (hp4.kp k5) k6, fun w7 k7 => ?_⟩)
    have e61 := g6.now; have e62 := g6.begun; have e63 := g6.nopen; have e64 := g6.hor
    have hp6 := keepP (hp4.kp k5) k6
    have K6 := low (K4.trans k5 (fun _ _ h => h)) k6
    refine f_writes (S6.kept k7) g6.ok hw2 ((g6.txs _ ne1.symm).trans g4.mine) (by simp) (keyN a1) (valN b2) (keyN_key _) (valN_size _) (fun w8 s8 n8 g8 S8 k8 => ⟨rfl, keepP (hp6.kp k7) k8, ?_⟩)
    have e81 := g8.now; have e82 := g8.begun; have e83 := g8.nopen; have e84 := g8.hor
    have hp8 := keepP (hp6.kp k7) k8
    have K8 := low (K6.trans k7 (fun _ _ h => h)) k8
    refine f_commit_good S8 g8.ok hw1 ((g8.txs _ ne1).trans g6.mine) (k0 := keyN a1) (by simp [updS]) (not_overt g8.ok (by show s.now = s8.now; omega)) (by omega) (fun w9 s9 g9 S9 k9 => ⟨by rw [show s8.now = s.now by omega], ?_⟩)
    have e91 := g9.now; have e92 := g9.begun; have e93 := g9.nopen; have e94 := g9.hor
    have hp9 := keepP hp8 k9
    have K9 := low K8 k9
    refine f_commit_over S9 g9.ok hw2 ((g9.txs _ ne1.symm).trans g8.mine) ⟨keyN a1, by simp [updS], ?_⟩ (fun w10 s10 g10 S10 k10 => ⟨rfl, keepP hp9 k10, fun w11 k11 => ?_⟩)
    · have := g9.late (k := keyN a1) (by simp [updS])
      show changed (s9.mom (keyN a1)) s3.now = true
      rw [show s3.now = s8.now by omega]; exact this
    have ea1 := g10.now; have ea2 := g10.begun; have ea3 := g10.nopen; have ea4 := g10.hor
    have hp10 := keepP hp9 k10
    have K10 := low K9 k10
    have hval : valAt s10 (keyN a1) (s.now + 1) = ((vOf (valN a2)).1, !(vOf (valN a2)).2) := by
      rw [valAt_congr g10.mom g10.ver, show s.now + 1 = s8.now + 1 by omega]
      exact g9.val (by simp [updS])
    have fin : ∀ {w12 : World}, Kp (fun _ => False) w11 w12 → Calls Tryd.prog 7 #[.pointer (some ⟨p, 0, none⟩)] w12 fun r w13 => r = .returned (.int .i64 (s.now + 1)) ∧ P3 w13 w.heap.size a1 a2 a3 b1 b2 b3 c1 c2 c3 ∧
        Calls Tryd.prog 18 #[.pointer (some ⟨p, 0, none⟩), .int .i64 (s3.begun + 1)] w13 fun r w14 => r = .returned (.tuple #[.int .i64 0, .int .i64 2]) ∧ P3 w14 w.heap.size a1 a2 a3 b1 b2 b3 c1 c2 c3 ∧
        Calls Tryd.prog 13 #[.pointer (some ⟨p, 0, none⟩), actV c1 c2 c3] w14 fun r w15 => r = .returned (.bool true) ∧ R (.returned (.bool true)) w15 := fun {w12} k12 => by
      have S12 := (S10.kept k11).kept k12
      have hp12 := (hp10.kp k11).kp k12
      refine e_now S12 ⟨by rw [show s10.now = s.now + 1 by omega], hp12, e_commit_none S12 hw2 g10.mine ⟨rfl, hp12, ?_⟩⟩
      refine f_commits S12 g10.ok (by omega) (by omega) (by omega) c1 c2 c3 hc.1 hc.2.1 hc.2.2 (fun w15 _ _ _ k15 => ⟨rfl, hR w15 ?_⟩)
      exact k0.trans (low ((K10.trans k11 (fun _ _ h => h)).trans k12 (fun _ _ h => h)) k15) (fun _ _ h => h)
    refine e_asof (S10.kept k11) g10.ok (s.now + 1) (keyN a1) (keyN_key _) (by omega) (by omega) (fun hx w12 k12 => ?_) (fun hx w12 k12 => ?_)
    · rw [hval] at hx
      have hx2 : (vOf (valN a2)).2 = true := by simpa using hx
      have h0 : (valN a2).size = 0 := by
        unfold vOf at hx2
        split at hx2
        · assumption
        · cases hx2
      have hd : (valN a2).data.toList = [] := List.eq_nil_of_length_eq_zero (by simpa using h0)
      have he : valN a2 = eb := WideShapes.bytes_inj (by simpa [eb] using hd)
      refine ⟨5, by rw [he], ?_, (hp10.kp k11).kp k12, fin k12⟩
      rw [Lib.toList_data, hd]; rfl
    · have hx0 := hx
      rw [hval] at hx0
      have hx2 : (vOf (valN a2)).2 = false := by simpa using hx0
      have h0 : (valN a2).size ≠ 0 := by
        unfold vOf at hx2
        split at hx2
        · cases hx2
        · assumption
      have hv1 : (vOf (valN a2)).1 = valN a2 := by simp [vOf, h0]
      refine ⟨0, by rw [hval, hv1], ?_, (hp10.kp k11).kp k12, fin k12⟩
      rw [Lib.toList_data]
      cases hd : (valN a2).data.toList with
      | nil => exact absurd (by have := congrArg List.length hd; simpa using this) h0
      | cons _ _ => rfl
  · refine wins_other w v a1 a2 a3 b1 b2 b3 c1 c2 c3 ha hb (fun e => hk e.symm) (fun w0 k0 hp0 => ?_)
    have keepP : ∀ {w1 w2 : World}, P3 w1 w.heap.size a1 a2 a3 b1 b2 b3 c1 c2 c3 → Kp (fun b => ¬ b < w0.heap.size) w1 w2 → P3 w2 w.heap.size a1 a2 a3 b1 b2 b3 c1 c2 c3 := fun h k =>
      ⟨(k.block _ (lA h.1) (fun e => e (lA hp0.1))).trans h.1, (k.block _ (lA h.2.1) (fun e => e (lA hp0.2.1))).trans h.2.1, (k.block _ (lA h.2.2) (fun e => e (lA hp0.2.2))).trans h.2.2⟩
    have low : ∀ {w1 w2 : World}, Kp (fun _ => False) w0 w1 → Kp (fun b => ¬ b < w0.heap.size) w1 w2 → Kp (fun _ => False) w0 w2 := fun k1 k2 => k1.trans k2 (fun b hb h => absurd hb h)
    refine e_filled w0 (hT.kept k0) v n f (hv.kept k0) (fun w1 p s hr ok S1 k1 => ⟨p, rfl, ?_⟩)
    obtain ⟨f1, f2, f3, f4, f5⟩ := hr.facts
    have hp1 := hp0.kp k1
    refine e_now S1 ⟨s.now, rfl, by omega, by omega, ?_⟩
    refine f_begin S1 ok (by omega) (by omega) (fun w3 s3 g3 S3 k3 => ⟨s.begun + 1, rfl, ?_⟩)
    have e31 := g3.now; have e32 := g3.begun; have e33 := g3.nopen; have e34 := g3.hor
    refine f_begin S3 g3.ok (by omega) (by omega) (fun w4 s4 g4 S4 k4 => ⟨s3.begun + 1, rfl, keepP (keepP hp1 k3) k4, fun w5 k5 => ?_⟩)
    have e41 := g4.now; have e42 := g4.begun; have e43 := g4.nopen; have e44 := g4.hor
    have hp4 := keepP (keepP hp1 k3) k4
    have K4 := low (low k1 k3) k4
    have ne1 : s.begun + 1 ≠ s3.begun + 1 := by omega
    have hw1 : (Lit.int .i64 (s.begun + 1)).wf = true := wfI (by omega)
    have hw2 : (Lit.int .i64 (s3.begun + 1)).wf = true := wfI (by omega)
    refine f_writes (S4.kept k5) g4.ok hw1 ((g4.txs _ ne1).trans g3.mine) (by simp) (keyN a1) (valN a2) (keyN_key _) (valN_size _) (fun w6 s6 n6 g6 S6 k6 => ⟨rfl, keepP (hp4.kp k5) k6, fun w7 k7 => ?_⟩)
    have e61 := g6.now; have e62 := g6.begun; have e63 := g6.nopen; have e64 := g6.hor
    have hp6 := keepP (hp4.kp k5) k6
    have K6 := low (K4.trans k5 (fun _ _ h => h)) k6
    refine f_writes (S6.kept k7) g6.ok hw2 ((g6.txs _ ne1.symm).trans g4.mine) (by simp) (keyN b1) (valN b2) (keyN_key _) (valN_size _) (fun w8 s8 n8 g8 S8 k8 => ⟨rfl, keepP (hp6.kp k7) k8, ?_⟩)
    have e81 := g8.now; have e82 := g8.begun; have e83 := g8.nopen; have e84 := g8.hor
    have hp8 := keepP (hp6.kp k7) k8
    have K8 := low (K6.trans k7 (fun _ _ h => h)) k8
    refine f_commit_good S8 g8.ok hw1 ((g8.txs _ ne1).trans g6.mine) (k0 := keyN a1) (by simp [updS]) (not_overt g8.ok (by show s.now = s8.now; omega)) (by omega) (fun w9 s9 g9 S9 k9 => ⟨by rw [show s8.now = s.now by omega], ?_⟩)
    have e91 := g9.now; have e92 := g9.begun; have e93 := g9.nopen; have e94 := g9.hor
    have hp9 := keepP hp8 k9
    have K9 := low K8 k9
    refine f_commit_good S9 g9.ok hw2 ((g9.txs _ ne1.symm).trans g8.mine) (k0 := keyN b1) (by simp [updS]) ?_ (by omega) (fun w10 s10 g10 S10 k10 => ⟨by rw [show s9.now + 1 = s.now + 2 by omega], keepP hp9 k10, fun w11 k11 => ?_⟩)
    · rintro ⟨k, hw, hch⟩
      have ek : k = keyN b1 := by
        by_cases e : k = keyN b1
        · exact e
        · simp [updS, e] at hw
      subst ek
      have hno : s9.mom (keyN b1) = s8.mom (keyN b1) := by
        rw [g9.mom, if_neg]
        simp [updS, hk]
      have := g8.ok.fresh (keyN b1)
      have h3 : changed (s9.mom (keyN b1)) s3.now = true := hch
      rw [hno, show s3.now = s8.now by omega, this] at h3
      cases h3
    have ea1 := g10.now; have ea2 := g10.begun; have ea3 := g10.nopen; have ea4 := g10.hor
    have hp10 := keepP hp9 k10
    have K10 := low K9 k10
    have S11 := S10.kept k11
    have hp11 := hp10.kp k11
    refine e_commit_none S11 hw2 g10.mine ⟨rfl, hp11, ?_⟩
    refine f_commits S11 g10.ok (by omega) (by omega) (by omega) c1 c2 c3 hc.1 hc.2.1 hc.2.2 (fun w15 _ _ _ k15 => ⟨rfl, hR w15 ?_⟩)
    exact k0.trans (low (K10.trans k11 (fun _ _ h => h)) k15) (fun _ _ h => h)

end

end Go.Proofs.YthbdpfccfcceiaaDoor
