/-
  A transaction sees one moment, told of the store.
-/
import Derived.Test.YthbdpfccfcceiaaDoorI2
namespace Go.Proofs.YthbdpfccfcceiaaDoor
open Go.RowKit

section
variable {R : Ending → World → Prop}

theorem valAt_same {s s' : XS} (h1 : s'.mom = s.mom) (h2 : s'.ver = s.ver) (k : ByteArray) (t : Int) : valAt s' k t = valAt s k t := by
  unfold valAt
  rw [h1, h2]

theorem Actd.valAt {s s' : XS} {wr : ByteArray → Option (ByteArray × Bool)} (a : Actd s s' wr) (ok : XOk s) (k : ByteArray) {t : Int} (ht : t ≤ s.now) : valAt s' k t = valAt s k t := by
  have hf : (s'.mom k).filter (fun m => decide (m ≤ t)) = (s.mom k).filter (fun m => decide (m ≤ t)) := by
    rw [a.mom]
    split
    · rw [List.filter_append, List.filter_cons_of_neg (by simp; omega)]; simp
    · rfl
  unfold Go.Proofs.YthbdpfccfcceiaaDoor.valAt
  rw [hf]
  cases e : ((s.mom k).filter (fun m => decide (m ≤ t))).getLast? with
  | none => rfl
  | some m =>
    have hm := List.mem_of_getLast? e
    have hm2 := ok.mom k m (List.mem_filter.1 hm).1
    have hv : s'.ver k m = s.ver k m := by rw [a.ver, if_neg (fun h => by have := h.1; omega)]
    simp only [hv]

theorem actWr_keys (a1 a2 a3 : Int) (k : ByteArray) (h : (actWr a1 a2 a3 k).isSome = true) : k ∈ keys6 := by
  unfold actWr at h
  split at h
  · by_cases e : k = keyN (a3.tdiv 3)
    · rw [e]; exact keyN_mem _
    · rw [updS_other _ e] at h
      by_cases e' : k = keyN a1
      · rw [e']; exact keyN_mem _
      · rw [updS_other _ e'] at h; cases h
  · by_cases e' : k = keyN a1
    · rw [e']; exact keyN_mem _
    · rw [updS_other _ e'] at h; cases h

theorem six_mom {s s' : XS} {wr : ByteArray → Option (ByteArray × Bool)} (h : Six s) (hm : ∀ k, s'.mom k = if (wr k).isSome = true then s.mom k ++ [s.now + 1] else s.mom k) (hw : ∀ k, (wr k).isSome = true → k ∈ keys6) : Six s' := fun k hk => by
  rw [hm] at hk
  split at hk
  · exact hw k (by assumption)
  · exact h k hk

theorem Ran.six {l : List A3} {s : XS} (h : Ran l s) : Six s := by
  refine Ran.ind (P := fun _ s => Six s) (fun s h => ?_) (fun l s a nv nm _ _ _ ih => ?_) h
  · intro k hk
    rw [h.mom] at hk
    by_cases e : k = ka
    · rw [e]; exact keyN_mem 0
    · rw [if_neg e] at hk; exact absurd rfl hk
  · exact six_mom ih (fun k => rfl) (actWr_keys _ _ _)

theorem vOf_eq (v : ByteArray) : ((vOf v).1, !(vOf v).2) = (v, decide (v ≠ ⟨#[]⟩)) := by
  unfold vOf
  by_cases h : v.size = 0
  · have ev0 : v.data.toList = [] := List.eq_nil_of_length_eq_zero (by simpa using h)
    have ev : v = ⟨#[]⟩ := WideShapes.bytes_inj (by simpa using ev0)
    subst ev
    rfl
  · have hne : v ≠ ⟨#[]⟩ := fun e => h (by rw [e]; rfl)
    simp [h, hne]

/-- The transaction of the law. -/
def myTx (now m1 m2 : Int) (nw : Nat) : XT := ⟨now, updS (fun _ => none) (keyN m1) (some (vOf (valN m2))), nw⟩

theorem myTx_sees (s : XS) (now m1 m2 : Int) (nw : Nat) (k : ByteArray) : seesX s (myTx now m1 m2 nw) k = if k = keyN m1 then (valN m2, decide (valN m2 ≠ ⟨#[]⟩)) else valAt s k now := by
  unfold seesX myTx
  by_cases e : k = keyN m1
  · subst e
    simp only [updS_same, if_true]
    exact vOf_eq _
  · simp only [updS_other _ e, if_neg e]

/-- While others commit. -/
def IsoI (w : World) (m1 m2 m3 : Int) (i p : Nat) (tx now : Int) (va : Value) (f0 : ByteArray → ByteArray × Bool) (w' : World) : Prop :=
  ∃ s B lo hi nw, St (fun b => b < B ∨ (lo ≤ b ∧ b < hi)) w' p s ∧ XOk s ∧ Six s ∧ f0 = (fun k => valAt s k now) ∧ s.hor = 0 ∧ s.now = now + i ∧ s.begun ≤ 1000 + i ∧ s.nopen = 1 ∧ s.txs tx = some (myTx now m1 m2 nw) ∧ PairsAt lo hi w' va (pairs6 f0) ∧ Kp (fun _ => False) w w' ∧ ActAt w' w.heap.size m1 m2 m3 ∧ w.heap.size < B ∧ 0 ≤ now ∧ now ≤ 1000 ∧ 0 ≤ tx ∧ tx ≤ 100000

/-- Behind them. -/
def IsoJ (w : World) (m1 m2 m3 : Int) (g : (ByteArray → ByteArray × Bool) → ByteArray → ByteArray × Bool) (p : Nat) (tx now : Int) (va vl : Value) (f0 : ByteArray → ByteArray × Bool) (w' : World) : Prop :=
  ∃ s B lo hi lo' hi' nw, St (fun b => b < B ∨ (lo ≤ b ∧ b < hi)) w' p s ∧ XOk s ∧ Six s ∧ f0 = (fun k => valAt s k now) ∧ s.hor = 0 ∧ now ≤ s.now ∧ s.txs tx = some (myTx now m1 m2 nw) ∧ PairsAt lo hi w' va (pairs6 f0) ∧ PairsAt lo' hi' w' vl (pairs6 (g f0)) ∧ Kp (fun _ => False) w w' ∧ ActAt w' w.heap.size m1 m2 m3 ∧ w.heap.size < B ∧ 0 ≤ now ∧ 0 ≤ tx ∧ tx ≤ 100000

theorem ActAt.kpN {w w' : World} {A : Nat} {a1 a2 a3 : Int} {S : Nat → Prop} (h : ActAt w A a1 a2 a3) (k : Kp S w w') (hs : ¬ S A) : ActAt w' A a1 a2 a3 := (k.block A (block_lt h) hs).trans h

theorem e_isolated (w : World) (hT : Tab w) (v0 v2 : Value) (n0 n : Nat) (f0 f : Nat → A3) (hv0 : ActsIn w v0 n0 f0) (hv2 : ActsIn w v2 n f) (m1 m2 m3 : Int) (hm : I64 m1 ∧ I64 m2 ∧ I64 m3)
    (hR : ∀ w', Kp (fun _ => False) w w' → R (.returned (.bool true)) w') :
    Calls Tryd.prog 3 #[v0, actV m1 m2 m3, v2] w R := by
  obtain ⟨a, cap, rfl, hn, hv⟩ := hv2
  have hl : ((List.range (min n0 200)).map f0).length ≤ 200 := by simp; omega
  refine isolated_walk w v0 m1 m2 m3 ⟨hm.1, hm.2.1⟩ a n cap f hn hv (IsoI w m1 m2 m3) (IsoJ w m1 m2 m3 (fun f0 k => if k = keyN m1 then (valN m2, decide (valN m2 ≠ ⟨#[]⟩)) else f0 k)) ?_ (fun f0 k => if k = keyN m1 then (valN m2, decide (valN m2 ≠ ⟨#[]⟩)) else f0 k) (fun _ _ => rfl) ?_ ?_ ?_ ?_ ?_ ?_ ?_
  · rintro i p tx now va f0 w' ⟨s, B, lo, hi, nw, _, _, _, _, _, _, _, _, _, _, h, _⟩
    exact h
  · intro w0 k0 ha0
    have low : ∀ {w1 w2 : World}, Kp (fun _ => False) w0 w1 → Kp (fun b => ¬ b < w0.heap.size) w1 w2 → Kp (fun _ => False) w0 w2 := fun k1 k2 => k1.trans k2 (fun b hb h => absurd hb h)
    have lB : w.heap.size < w0.heap.size := block_lt ha0
    refine e_filled w0 (hT.kept k0) v0 n0 f0 (hv0.kept k0) (fun w1 p s hr ok S1 k1 => ⟨p, rfl, ?_⟩)
    obtain ⟨f1, f2, f3, f4, f5⟩ := hr.facts
    refine e_now S1 ⟨s.now, rfl, by omega, by omega, ?_⟩
    refine f_begin S1 ok (by omega) (by omega) (fun w3 s3 g3 S3 k3 => ⟨s.begun + 1, rfl, (ha0.kp k1).kpN k3 (fun e => e lB), fun w4 k4 => ?_⟩)
    have e31 := g3.now; have e32 := g3.begun; have e33 := g3.nopen; have e34 := g3.hor
    have ha3 := (ha0.kp k1).kpN k3 (fun e => e lB)
    have hw1 : (Lit.int .i64 (s.begun + 1)).wf = true := wfI (by omega)
    refine f_writes (S3.kept k4) g3.ok hw1 g3.mine (by simp) (keyN m1) (valN m2) (keyN_key _) (valN_size _) (fun w5 s5 nw g5 S5 k5 => ⟨rfl, (ha3.kp k4).kpN k5 (fun e => e lB), ?_⟩)
    have ha5 := (ha3.kp k4).kpN k5 (fun e => e lB)
    have e51 := g5.now; have e52 := g5.begun; have e53 := g5.nopen; have e54 := g5.hor
    have six5 : Six s5 := fun k hk => hr.six k (by rw [g5.mom, g3.mom] at hk; exact hk)
    refine e_range S5 g5.ok six5 s.now (by omega) (by omega) (fun w6 va k6 hp => ⟨va, _, rfl, s5, w0.heap.size, w5.heap.size, w6.heap.size, nw, S5.read k6 (fun b hb => hb), g5.ok, six5, rfl, by omega, by omega, by omega, by omega, ?_, hp, ?_, ha5.kp k6, lB, by omega, by omega, by omega, by omega⟩)
    · rw [g5.mine]; rfl
    · exact k0.trans (((low ((low k1 k3).trans k4 (fun _ _ h => h)) k5)).trans k6 (fun _ _ h => h)) (fun _ _ h => h)
  · rintro i p tx now va f0 w' ⟨s, B, lo, hi, nw, S, ok, six, rfl, e1, e2, e3, e4, et, hp, hk, ha, lB, b1, b2, b3, b4⟩ h1 h2
    obtain ⟨g1, off, _, hA⟩ := hv (by omega)
    have hok := hA.ok i h1
    refine f_commits S ok (by omega) (by omega) (by omega) _ _ _ hok.1 hok.2.1 hok.2.2 (fun w'' s' g S' k => ⟨rfl, s', B, lo, hi, nw, S', g.ok, six_mom six g.mom (actWr_keys _ _ _), ?_, by rw [g.hor]; exact e1, by rw [g.now, e2]; omega, by rw [g.begun]; omega, by rw [g.nopen]; exact e4, by rw [g.txs]; exact et, ?_, hk.trans k (fun b hb h => h (Or.inl (by omega))), ha.kpN k (fun h => h (Or.inl lB)), lB, b1, b2, b3, b4⟩)
    · funext k
      exact (g.valAt ok k (by omega)).symm
    · exact hp.kp k (fun b h1 h2 h => h (Or.inr ⟨h1, h2⟩))
  · rintro p tx now va f0 w' ⟨s, B, lo, hi, nw, S, ok, six, rfl, e1, e2, e3, e4, et, hp, hk, ha, lB, b1, b2, b3, b4⟩
    refine e_scan S ok six (wfI (by omega)) et (fun k hk => ?_) (fun w7 vl k7 hpl => ⟨vl, rfl, s, B, lo, hi, w'.heap.size, w7.heap.size, nw, S.kept k7, ok, six, rfl, e1, by omega, et, hp.kp k7 (fun _ _ _ h => h), ?_, hk.trans k7 (fun _ _ h => h), ha.kp k7, lB, b1, b3, b4⟩)
    · by_cases e : k = keyN m1
      · rw [e]; exact keyN_mem _
      · simp only [myTx, updS_other _ e] at hk; cases hk
    · have : seesX s (myTx now m1 m2 nw) = fun k => if k = keyN m1 then (valN m2, decide (valN m2 ≠ ⟨#[]⟩)) else valAt s k now := by
        funext k; exact myTx_sees s now m1 m2 nw k
      rw [this] at hpl
      exact hpl
  · rintro p tx now va vl f0 w' ⟨s, B, lo, hi, lo', hi', nw, S, ok, six, rfl, e1, e2, et, hp, hpl, hk, ha, lB, b1, b3, b4⟩
    exact ⟨ha, ⟨lo, hi, hp⟩, lo', hi', hpl⟩
  · rintro p tx now va vl f0 w' w'' ⟨s, B, lo, hi, lo', hi', nw, S, ok, six, rfl, e1, e2, et, hp, hpl, hk, ha, lB, b1, b3, b4⟩ k
    exact ⟨s, B, lo, hi, lo', hi', nw, S.kept k, ok, six, rfl, e1, e2, et, hp.kp k (fun _ _ _ h => h), hpl.kp k (fun _ _ _ h => h), hk.trans k (fun _ _ h => h), ha.kp k, lB, b1, b3, b4⟩
  · rintro p tx now va vl f0 w' i ⟨s, B, lo, hi, lo', hi', nw, S, ok, six, rfl, e1, e2, et, hp, hpl, hk, ha, lB, b1, b3, b4⟩ hi6
    have hs := myTx_sees s now m1 m2 nw (keyN i)
    have nx : ∀ {w''}, Kp (fun _ => False) w' w'' → IsoJ w m1 m2 m3 (fun f0 k => if k = keyN m1 then (valN m2, decide (valN m2 ≠ ⟨#[]⟩)) else f0 k) p tx now va vl (fun k => valAt s k now) w'' := fun k => ⟨s, B, lo, hi, lo', hi', nw, S.kept k, ok, six, rfl, e1, e2, et, hp.kp k (fun _ _ _ h => h), hpl.kp k (fun _ _ _ h => h), hk.trans k (fun _ _ h => h), ha.kp k, lB, b1, b3, b4⟩
    refine e_get S ok (wfI (by omega)) et (keyN i) (keyN_key _) (fun hv w'' k => ?_) (fun hv w'' k => ?_)
    · refine ⟨?_, nx k⟩
      rw [hs] at hv
      simp only [hv, Bool.false_eq_true, if_false]
      rfl
    · refine ⟨?_, nx k⟩
      rw [hs] at hv ⊢
      simp only [hv, if_true]
  · rintro p tx now va vl f0 w' ⟨s, B, lo, hi, lo', hi', nw, S, ok, six, rfl, e1, e2, et, hp, hpl, hk, ha, lB, b1, b3, b4⟩
    refine e_now S ⟨s.now, rfl, ?_⟩
    refine e_abort S ok (wfI (by omega)) et (fun w9 s9 g9 S9 k9 => ⟨rfl, ?_⟩)
    refine e_get_none S9 g9.ok (wfI (by omega)) g9.mine ⟨#[97]⟩ (by decide) ⟨rfl, ?_⟩
    have six9 : Six s9 := fun k hk => six k (by rw [g9.mom] at hk; exact hk)
    refine e_range S9 g9.ok six9 now (by rw [g9.hor]; omega) (by rw [g9.now]; omega) (fun w11 vb k11 hpb => ⟨vb, rfl, ?_⟩)
    have hp11 := (hp.kp k9 (fun b h1 h2 h => h (Or.inr ⟨h1, h2⟩))).kp k11 (fun _ _ _ h => h)
    have e9 : (fun k => valAt s9 k now) = fun k => valAt s k now := by funext k; exact valAt_same g9.mom g9.ver k now
    rw [e9] at hpb
    refine same_any va vb _ hp11 hpb (by have := pairs6_len (fun k => valAt s k now); omega) (fun w12 k12 => ⟨rfl, ?_⟩)
    refine e_now ((S9.kept k11).kept k12) ⟨by rw [g9.now], hR _ ?_⟩
    exact ((hk.trans k9 (fun b hb h => h (Or.inl (by omega)))).trans k11 (fun _ _ h => h)).trans k12 (fun _ _ h => h)

end

end Go.Proofs.YthbdpfccfcceiaaDoor
