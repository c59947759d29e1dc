/-
  The law's commits, told of the store: one more moment.
-/
import Derived.Test.YthbdpfccfcceiaaDoorE2
import Derived.Test.YthbdpfccfcceiaaDoorE4
namespace Go.Proofs.YthbdpfccfcceiaaDoor
open Go.RowKit

theorem St.mono {N M : Nat → Prop} {w : World} {p : Nat} {s : XS} (h : St M w p s) (hs : ∀ b, N b → M b) : St N w p s := by
  obtain ⟨own, hx, hN⟩ := h
  exact ⟨own, hx, fun b hb => hN.out b (hs b hb), hN.tab, hN.tabN⟩

theorem XOk.fresh {s : XS} (ok : XOk s) (k : ByteArray) : changed (s.mom k) s.now = false := by
  unfold changed
  cases e : (s.mom k).getLast? with
  | none => rfl
  | some m =>
    have hm := ok.mom k m (List.mem_of_getLast? e)
    simp
    omega

theorem wrote_one (sees : Int) (k : ByteArray) (v : ByteArray × Bool) : wrote ⟨sees, fun _ => none, 0⟩ k v = some ⟨sees, updS (fun _ => none) k (some v), 1⟩ := by simp [wrote]
theorem wrote_two (t : XT) (k : ByteArray) (v : ByteArray × Bool) (h : t.nw < 10) : ∃ n, wrote t k v = some ⟨t.sees, updS t.wr k (some v), n⟩ := by
  unfold wrote
  split
  · exact ⟨t.nw, rfl⟩
  · exact ⟨t.nw + 1, rfl⟩

/-- What an act writes. -/
def actWr (a1 a2 a3 : Int) : ByteArray → Option (ByteArray × Bool) :=
  if pk a3 3 = 0 then updS (updS (fun _ => none) (keyN a1) (some (vOf (valN a2)))) (keyN (a3.tdiv 3)) (some (vOf (valN (a3.tdiv 18))))
  else updS (fun _ => none) (keyN a1) (some (vOf (valN a2)))

/-- A store behind an act. -/
def acted (s : XS) (wr : ByteArray → Option (ByteArray × Bool)) (nv nm : Nat) : XS := { commd s wr s.txs s.nopen nv nm with begun := s.begun + 1 }

theorem acted_eq {s : XS} (h : s.txs (s.begun + 1) = none) (t0 t1 : XT) (wr : ByteArray → Option (ByteArray × Bool)) (nv nm : Nat) :
    commd { s with begun := s.begun + 1, txs := updI (updI s.txs (s.begun + 1) (some t0)) (s.begun + 1) (some t1), nopen := s.nopen + 1 } wr (updI (updI (updI s.txs (s.begun + 1) (some t0)) (s.begun + 1) (some t1)) (s.begun + 1) none) (s.nopen + 1 - 1) nv nm = acted s wr nv nm := by
  have e : updI (updI (updI s.txs (s.begun + 1) (some t0)) (s.begun + 1) (some t1)) (s.begun + 1) none = s.txs := by
    funext n
    by_cases en : n = s.begun + 1
    · subst en; rw [updI_same, h]
    · simp [updI, en]
  rw [e]
  simp [acted, commd]

theorem acted_eq2 {s : XS} (h : s.txs (s.begun + 1) = none) (t0 t1 t2 : XT) (wr : ByteArray → Option (ByteArray × Bool)) (nv nm : Nat) :
    commd { s with begun := s.begun + 1, txs := updI (updI (updI s.txs (s.begun + 1) (some t0)) (s.begun + 1) (some t1)) (s.begun + 1) (some t2), nopen := s.nopen + 1 } wr (updI (updI (updI (updI s.txs (s.begun + 1) (some t0)) (s.begun + 1) (some t1)) (s.begun + 1) (some t2)) (s.begun + 1) none) (s.nopen + 1 - 1) nv nm = acted s wr nv nm := by
  have e : updI (updI (updI (updI s.txs (s.begun + 1) (some t0)) (s.begun + 1) (some t1)) (s.begun + 1) (some t2)) (s.begun + 1) none = s.txs := by
    funext n
    by_cases en : n = s.begun + 1
    · subst en; rw [updI_same, h]
    · simp [updI, en]
  rw [e]
  simp [acted, commd]

theorem vOf_size {v : ByteArray} (h : v.size ≤ 20) : (vOf v).1.size ≤ 20 := by
  unfold vOf
  split
  · decide
  · exact h

section
variable {N : Nat → Prop} {w : World} {p : Nat} {s : XS}
variable {R : Ending → World → Prop}

theorem e_commits (h : St N w p s) (ok : XOk s) (hb : s.begun < 1000000) (h8 : s.nopen < 8) (hn : s.now < 2000) (a1 a2 a3 : Int) (h1 : I64 a1) (h2 : I64 a2) (h3 : I64 a3)
    (hR : ∀ w' nv nm l, LogC s (actWr a1 a2 a3) l → St N w' p (acted { s with log := l } (actWr a1 a2 a3) nv nm) → XOk (acted { s with log := l } (actWr a1 a2 a3) nv nm) → Kp (fun b => ¬ N b) w w' → R (.returned (.bool true)) w') :
    Calls Tryd.prog 13 #[.pointer (some ⟨p, 0, none⟩), actV a1 a2 a3] w R := by
  have hb0 := ok.begun
  have hnw := ok.now
  have hwx : (Lit.int .i64 (s.begun + 1)).wf = true := wfI (by omega)
  have keep : ∀ {w1 w2 : World}, ActAt w1 w.heap.size a1 a2 a3 → Kp (fun b => ¬ (N b ∨ b = w.heap.size)) w1 w2 → ActAt w2 w.heap.size a1 a2 a3 := fun ha k => (k.block _ (block_lt ha) (fun e => e (Or.inr rfl))).trans ha
  have ok1 := ok.begin (s.nopen + 1)
  have fin : ∀ {w1 : World} {nv nm : Nat} {l : XL}, LogC s (actWr a1 a2 a3) l → St (fun b => N b ∨ b = w.heap.size) w1 p (acted { s with log := l } (actWr a1 a2 a3) nv nm) → XOk (acted { s with log := l } (actWr a1 a2 a3) nv nm) → Kp (fun b => ¬ (N b ∨ b = w.heap.size)) w w1 → Calls Tryd.prog 7 #[.pointer (some ⟨p, 0, none⟩)] w1 fun r w6 => r = .returned (.int .i64 (s.now + 1)) ∧ R (.returned (.bool true)) w6 := fun hL hS hO hK =>
    e_now hS ⟨rfl, hR _ _ _ _ hL (hS.mono (fun _ h => Or.inl h)) hO (hK.mono (fun _ _ h hn => h (Or.inl hn)))⟩
  by_cases ho : pk a3 3 = 0
  · refine commits_two w p a1 a2 a3 h1 h2 h3 ho (fun w0 k0 ha0 => ?_)
    have S0 : St (fun b => N b ∨ b = w.heap.size) w0 p s := h.read k0 (fun b hb => hb.imp id (fun e => ⟨by omega, by rw [e]; exact block_lt ha0⟩))
    have K0 : Kp (fun b => ¬ (N b ∨ b = w.heap.size)) w w0 := k0.mono (fun _ _ h => h.elim)
    refine e_now S0 ⟨s.now, rfl, hnw.1, by omega, e_begin S0 ok (by omega) h8 (fun w2 S2 k2 => ⟨s.begun + 1, rfl, keep ha0 k2, fun w3 k3 => ?_⟩)⟩
    have ha2 := keep ha0 k2
    have S3 := S2.kept k3
    have K3 := (K0.trans k2 (fun _ _ h => h)).trans k3 (fun _ _ h => h.elim)
    refine e_writes S3 ok1 hwx (updI_same _ _ _) (keyN a1) (valN a2) (keyN_key _) (valN_size _) (wrote_one _ _ _) (fun w4 S4 k4 => ?_)
    have ok4 := ok1.write (updI_same _ _ _) (keyN_key a1) (vOf_size (valN_size a2)) (wrote_one _ _ (vOf (valN a2)))
    have ha4 := keep (ha2.kp k3) k4
    refine ⟨rfl, ha4, fun w5 k5 => ?_⟩
    obtain ⟨n2, hw2⟩ := wrote_two ⟨s.now, updS (fun _ => none) (keyN a1) (some (vOf (valN a2))), 1⟩ (keyN (a3.tdiv 3)) (vOf (valN (a3.tdiv 18))) (by simp)
    refine e_writes (S4.kept k5) ok4 hwx (updI_same _ _ _) (keyN (a3.tdiv 3)) (valN (a3.tdiv 18)) (keyN_key _) (valN_size _) hw2 (fun w6 S6 k6 => ?_)
    have ok6 := ok4.write (updI_same _ _ _) (keyN_key (a3.tdiv 3)) (vOf_size (valN_size _)) hw2
    refine ⟨rfl, keep (ha4.kp k5) k6, ?_⟩
    refine e_commit_good S6 ok6 hwx (updI_same _ _ _) ((ok6.tx _ _ (updI_same _ _ _)).pos (keyN (a3.tdiv 3)) (by simp [updS])) (fun ⟨k, _, hk⟩ => ?_) hn (fun w7 nv nm l L7 S7 O7 k7 => ?_)
    · have := ok.fresh k
      rw [show changed (s.mom k) s.now = true from hk] at this
      cases this
    · have ew : actWr a1 a2 a3 = updS (updS (fun _ => none) (keyN a1) (some (vOf (valN a2)))) (keyN (a3.tdiv 3)) (some (vOf (valN (a3.tdiv 18)))) := by rw [actWr, if_pos ho]
      have e := acted_eq2 (s := { s with log := l }) ok.newTx ⟨s.now, fun _ => none, 0⟩ ⟨s.now, updS (fun _ => none) (keyN a1) (some (vOf (valN a2))), 1⟩ ⟨s.now, updS (updS (fun _ => none) (keyN a1) (some (vOf (valN a2)))) (keyN (a3.tdiv 3)) (some (vOf (valN (a3.tdiv 18)))), n2⟩ (updS (updS (fun _ => none) (keyN a1) (some (vOf (valN a2)))) (keyN (a3.tdiv 3)) (some (vOf (valN (a3.tdiv 18))))) nv nm
      rw [← ew] at e
      refine ⟨rfl, fin (nv := nv) (nm := nm) (l := l) (by rw [ew]; exact L7) ?_ ?_ ?_⟩
      · rw [← e, ew]; exact S7
      · rw [← e, ew]; exact O7
      · exact (((K3.trans k4 (fun _ _ h => h)).trans k5 (fun _ _ h => h.elim)).trans k6 (fun _ _ h => h)).trans k7 (fun _ _ h => h)
  · refine commits_one w p a1 a2 a3 h1 h2 h3 ho (fun w0 k0 ha0 => ?_)
    have S0 : St (fun b => N b ∨ b = w.heap.size) w0 p s := h.read k0 (fun b hb => hb.imp id (fun e => ⟨by omega, by rw [e]; exact block_lt ha0⟩))
    have K0 : Kp (fun b => ¬ (N b ∨ b = w.heap.size)) w w0 := k0.mono (fun _ _ h => h.elim)
    refine e_now S0 ⟨s.now, rfl, hnw.1, by omega, e_begin S0 ok (by omega) h8 (fun w2 S2 k2 => ⟨s.begun + 1, rfl, keep ha0 k2, fun w3 k3 => ?_⟩)⟩
    have ha2 := keep ha0 k2
    have S3 := S2.kept k3
    have K3 := (K0.trans k2 (fun _ _ h => h)).trans k3 (fun _ _ h => h.elim)
    refine e_writes S3 ok1 hwx (updI_same _ _ _) (keyN a1) (valN a2) (keyN_key _) (valN_size _) (wrote_one _ _ _) (fun w4 S4 k4 => ?_)
    have ok4 := ok1.write (updI_same _ _ _) (keyN_key a1) (vOf_size (valN_size a2)) (wrote_one _ _ (vOf (valN a2)))
    refine ⟨rfl, keep (ha2.kp k3) k4, ?_⟩
    refine e_commit_good S4 ok4 hwx (updI_same _ _ _) (by simp) (fun ⟨k, _, hk⟩ => ?_) hn (fun w7 nv nm l L7 S7 O7 k7 => ?_)
    · have := ok.fresh k
      rw [show changed (s.mom k) s.now = true from hk] at this
      cases this
    · have ew : actWr a1 a2 a3 = updS (fun _ => none) (keyN a1) (some (vOf (valN a2))) := by rw [actWr, if_neg ho]
      have e := acted_eq (s := { s with log := l }) ok.newTx ⟨s.now, fun _ => none, 0⟩ ⟨s.now, updS (fun _ => none) (keyN a1) (some (vOf (valN a2))), 1⟩ (updS (fun _ => none) (keyN a1) (some (vOf (valN a2)))) nv nm
      rw [← ew] at e
      refine ⟨rfl, fin (nv := nv) (nm := nm) (l := l) (by rw [ew]; exact L7) ?_ ?_ ?_⟩
      · rw [← e, ew]; exact S7
      · rw [← e, ew]; exact O7
      · exact (K3.trans k4 (fun _ _ h => h)).trans k7 (fun _ _ h => h)

end

end Go.Proofs.YthbdpfccfcceiaaDoor
