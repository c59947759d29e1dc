/-
  The law's commits, told of the store: one more moment.
  The law's filled: a store with acts, one behind the other, behind a first one.
-/
import Derived.Test.YthbdpfccfcceiaaGreatDoorE2E4
import Derived.Test.YthbdpfccfcceiaaGreatDoorZ1Z2F19C3
namespace Go.Proofs.YthbdpfccfcceiaaGreatDoor
open Go.RowKit

theorem St.mono {N M : Nat → Prop} {w : World} {p : Nat} {s : XS} (h : St M w p s) (hs : ∀ b, N b → M b) : St N w p s := by
  obtain ⟨own, hx, hN⟩ := h
  exact ⟨own, hx, fun b hb => hN.out b (hs b hb), hN.tab, hN.tabN⟩

theorem XOk.fresh {s : XS} (ok : XOk s) (k : ByteArray) : changed (s.mom k) s.now = false := by
  unfold changed
  cases e : (s.mom k).getLast? with
  | none => rfl
  | some m =>
    have hm := ok.mom k m (List.mem_of_getLast? e)
    simp
    omega

theorem wrote_one (sees : Int) (k : ByteArray) (v : ByteArray × Bool) : wrote ⟨sees, fun _ => none, 0⟩ k v = some ⟨sees, updS (fun _ => none) k (some v), 1⟩ := by simp [wrote]
theorem wrote_two (t : XT) (k : ByteArray) (v : ByteArray × Bool) (h : t.nw < 10) : ∃ n, wrote t k v = some ⟨t.sees, updS t.wr k (some v), n⟩ := by
  unfold wrote
  split
  · exact ⟨t.nw, rfl⟩
  · exact ⟨t.nw + 1, rfl⟩

/-- What an act writes. -/
def actWr (a1 a2 a3 : Int) : ByteArray → Option (ByteArray × Bool) :=
  if pk a3 3 = 0 then updS (updS (fun _ => none) (keyN a1) (some (vOf (valN a2)))) (keyN (a3.tdiv 3)) (some (vOf (valN (a3.tdiv 18))))
  else updS (fun _ => none) (keyN a1) (some (vOf (valN a2)))

/-- A store behind an act. -/
def acted (s : XS) (wr : ByteArray → Option (ByteArray × Bool)) (nv nm : Nat) : XS := { commd s wr s.txs s.nopen nv nm with begun := s.begun + 1 }

theorem acted_eq {s : XS} (h : s.txs (s.begun + 1) = none) (t0 t1 : XT) (wr : ByteArray → Option (ByteArray × Bool)) (nv nm : Nat) :
    commd { s with begun := s.begun + 1, txs := updI (updI s.txs (s.begun + 1) (some t0)) (s.begun + 1) (some t1), nopen := s.nopen + 1 } wr (updI (updI (updI s.txs (s.begun + 1) (some t0)) (s.begun + 1) (some t1)) (s.begun + 1) none) (s.nopen + 1 - 1) nv nm = acted s wr nv nm := by
  have e : updI (updI (updI s.txs (s.begun + 1) (some t0)) (s.begun + 1) (some t1)) (s.begun + 1) none = s.txs := by
    funext n
    by_cases en : n = s.begun + 1
    · subst en; rw [updI_same, h]
    · simp [updI, en]
  rw [e]
  simp [acted, commd]

theorem acted_eq2 {s : XS} (h : s.txs (s.begun + 1) = none) (t0 t1 t2 : XT) (wr : ByteArray → Option (ByteArray × Bool)) (nv nm : Nat) :
    commd { s with begun := s.begun + 1, txs := updI (updI (updI s.txs (s.begun + 1) (some t0)) (s.begun + 1) (some t1)) (s.begun + 1) (some t2), nopen := s.nopen + 1 } wr (updI (updI (updI (updI s.txs (s.begun + 1) (some t0)) (s.begun + 1) (some t1)) (s.begun + 1) (some t2)) (s.begun + 1) none) (s.nopen + 1 - 1) nv nm = acted s wr nv nm := by
  have e : updI (updI (updI (updI s.txs (s.begun + 1) (some t0)) (s.begun + 1) (some t1)) (s.begun + 1) (some t2)) (s.begun + 1) none = s.txs := by
    funext n
    by_cases en : n = s.begun + 1
    · subst en; rw [updI_same, h]
    · simp [updI, en]
  rw [e]
  simp [acted, commd]

theorem vOf_size {v : ByteArray} (h : v.size ≤ 20) : (vOf v).1.size ≤ 20 := by
  unfold vOf
  split
  · decide
  · exact h

section
variable {N : Nat → Prop} {w : World} {p : Nat} {s : XS}
variable {R : Ending → World → Prop}

theorem e_commits (h : St N w p s) (ok : XOk s) (hb : s.begun < 1000000) (h8 : s.nopen < 8) (hn : s.now < 2000) (a1 a2 a3 : Int) (h1 : I64 a1) (h2 : I64 a2) (h3 : I64 a3)
    (hR : ∀ w' nv nm l, LogC s (actWr a1 a2 a3) l → St N w' p (acted { s with log := l } (actWr a1 a2 a3) nv nm) → XOk (acted { s with log := l } (actWr a1 a2 a3) nv nm) → Kp (fun b => ¬ N b) w w' → R (.returned (.bool true)) w') :
    Calls Tryz.prog 12 #[.pointer (some ⟨p, 0, none⟩), actV a1 a2 a3] w R := by
  have hb0 := ok.begun
  have hnw := ok.now
  have hwx : (Lit.int .i64 (s.begun + 1)).wf = true := wfI (by omega)
  have keep : ∀ {w1 w2 : World}, ActAt w1 w.heap.size a1 a2 a3 → Kp (fun b => ¬ (N b ∨ b = w.heap.size)) w1 w2 → ActAt w2 w.heap.size a1 a2 a3 := fun ha k => (k.block _ (block_lt ha) (fun e => e (Or.inr rfl))).trans ha
  have ok1 := ok.begin (s.nopen + 1)
  have fin : ∀ {w1 : World} {nv nm : Nat} {l : XL}, LogC s (actWr a1 a2 a3) l → St (fun b => N b ∨ b = w.heap.size) w1 p (acted { s with log := l } (actWr a1 a2 a3) nv nm) → XOk (acted { s with log := l } (actWr a1 a2 a3) nv nm) → Kp (fun b => ¬ (N b ∨ b = w.heap.size)) w w1 → Calls Tryz.prog 15 #[.pointer (some ⟨p, 0, none⟩)] w1 fun r w6 => r = .returned (.int .i64 (s.now + 1)) ∧ R (.returned (.bool true)) w6 := fun hL hS hO hK =>
    e_now hS ⟨rfl, hR _ _ _ _ hL (hS.mono (fun _ h => Or.inl h)) hO (hK.mono (fun _ _ h hn => h (Or.inl hn)))⟩
  by_cases ho : pk a3 3 = 0
  · refine commits_two w p a1 a2 a3 h1 h2 h3 ho (fun w0 k0 ha0 => ?_)
    have S0 : St (fun b => N b ∨ b = w.heap.size) w0 p s := h.read k0 (fun b hb => hb.imp id (fun e => ⟨by omega, by rw [e]; exact block_lt ha0⟩))
    have K0 : Kp (fun b => ¬ (N b ∨ b = w.heap.size)) w w0 := k0.mono (fun _ _ h => h.elim)
    refine e_now S0 ⟨s.now, rfl, hnw.1, by omega, e_begin S0 ok (by omega) h8 (fun w2 S2 k2 => ⟨s.begun + 1, rfl, keep ha0 k2, fun w3 k3 => ?_⟩)⟩
    have ha2 := keep ha0 k2
    have S3 := S2.kept k3
    have K3 := (K0.trans k2 (fun _ _ h => h)).trans k3 (fun _ _ h => h.elim)
    refine e_writes S3 ok1 hwx (updI_same _ _ _) (keyN a1) (valN a2) (keyN_key _) (valN_size _) (wrote_one _ _ _) (fun w4 S4 k4 => ?_)
    have ok4 := ok1.write (updI_same _ _ _) (keyN_key a1) (vOf_size (valN_size a2)) (wrote_one _ _ (vOf (valN a2)))
    have ha4 := keep (ha2.kp k3) k4
    refine ⟨rfl, ha4, fun w5 k5 => ?_⟩
    obtain ⟨n2, hw2⟩ := wrote_two ⟨s.now, updS (fun _ => none) (keyN a1) (some (vOf (valN a2))), 1⟩ (keyN (a3.tdiv 3)) (vOf (valN (a3.tdiv 18))) (by simp)
    refine e_writes (S4.kept k5) ok4 hwx (updI_same _ _ _) (keyN (a3.tdiv 3)) (valN (a3.tdiv 18)) (keyN_key _) (valN_size _) hw2 (fun w6 S6 k6 => ?_)
    have ok6 := ok4.write (updI_same _ _ _) (keyN_key (a3.tdiv 3)) (vOf_size (valN_size _)) hw2
    refine ⟨rfl, keep (ha4.kp k5) k6, ?_⟩
    refine e_commit_good S6 ok6 hwx (updI_same _ _ _) ((ok6.tx _ _ (updI_same _ _ _)).pos (keyN (a3.tdiv 3)) (by simp [updS])) (fun ⟨k, _, hk⟩ => ?_) hn (fun w7 nv nm l L7 S7 O7 k7 => ?_)
    · have := ok.fresh k
      rw [show changed (s.mom k) s.now = true from hk] at this
      cases this
    · have ew : actWr a1 a2 a3 = updS (updS (fun _ => none) (keyN a1) (some (vOf (valN a2)))) (keyN (a3.tdiv 3)) (some (vOf (valN (a3.tdiv 18)))) := by rw [actWr, if_pos ho]
      have e := acted_eq2 (s := { s with log := l }) ok.newTx ⟨s.now, fun _ => none, 0⟩ ⟨s.now, updS (fun _ => none) (keyN a1) (some (vOf (valN a2))), 1⟩ ⟨s.now, updS (updS (fun _ => none) (keyN a1) (some (vOf (valN a2)))) (keyN (a3.tdiv 3)) (some (vOf (valN (a3.tdiv 18)))), n2⟩ (updS (updS (fun _ => none) (keyN a1) (some (vOf (valN a2)))) (keyN (a3.tdiv 3)) (some (vOf (valN (a3.tdiv 18))))) nv nm
      rw [← ew] at e
      refine ⟨rfl, fin (nv := nv) (nm := nm) (l := l) (by rw [ew]; exact L7) ?_ ?_ ?_⟩
      · rw [← e, ew]; exact S7
      · rw [← e, ew]; exact O7
      · exact (((K3.trans k4 (fun _ _ h => h)).trans k5 (fun _ _ h => h.elim)).trans k6 (fun _ _ h => h)).trans k7 (fun _ _ h => h)
  · refine commits_one w p a1 a2 a3 h1 h2 h3 ho (fun w0 k0 ha0 => ?_)
    have S0 : St (fun b => N b ∨ b = w.heap.size) w0 p s := h.read k0 (fun b hb => hb.imp id (fun e => ⟨by omega, by rw [e]; exact block_lt ha0⟩))
    have K0 : Kp (fun b => ¬ (N b ∨ b = w.heap.size)) w w0 := k0.mono (fun _ _ h => h.elim)
    refine e_now S0 ⟨s.now, rfl, hnw.1, by omega, e_begin S0 ok (by omega) h8 (fun w2 S2 k2 => ⟨s.begun + 1, rfl, keep ha0 k2, fun w3 k3 => ?_⟩)⟩
    have ha2 := keep ha0 k2
    have S3 := S2.kept k3
    have K3 := (K0.trans k2 (fun _ _ h => h)).trans k3 (fun _ _ h => h.elim)
    refine e_writes S3 ok1 hwx (updI_same _ _ _) (keyN a1) (valN a2) (keyN_key _) (valN_size _) (wrote_one _ _ _) (fun w4 S4 k4 => ?_)
    have ok4 := ok1.write (updI_same _ _ _) (keyN_key a1) (vOf_size (valN_size a2)) (wrote_one _ _ (vOf (valN a2)))
    refine ⟨rfl, keep (ha2.kp k3) k4, ?_⟩
    refine e_commit_good S4 ok4 hwx (updI_same _ _ _) (by simp) (fun ⟨k, _, hk⟩ => ?_) hn (fun w7 nv nm l L7 S7 O7 k7 => ?_)
    · have := ok.fresh k
      rw [show changed (s.mom k) s.now = true from hk] at this
      cases this
    · have ew : actWr a1 a2 a3 = updS (fun _ => none) (keyN a1) (some (vOf (valN a2))) := by rw [actWr, if_neg ho]
      have e := acted_eq (s := { s with log := l }) ok.newTx ⟨s.now, fun _ => none, 0⟩ ⟨s.now, updS (fun _ => none) (keyN a1) (some (vOf (valN a2))), 1⟩ (updS (fun _ => none) (keyN a1) (some (vOf (valN a2)))) nv nm
      rw [← ew] at e
      refine ⟨rfl, fin (nv := nv) (nm := nm) (l := l) (by rw [ew]; exact L7) ?_ ?_ ?_⟩
      · rw [← e, ew]; exact S7
      · rw [← e, ew]; exact O7
      · exact (K3.trans k4 (fun _ _ h => h)).trans k7 (fun _ _ h => h)

end

end Go.Proofs.YthbdpfccfcceiaaGreatDoor

namespace Go.Proofs.YthbdpfccfcceiaaGreatDoor
open Go.RowKit

abbrev A3 := Int × Int × Int

/-- Acts in memory. -/
structure Acts (w : World) (g off n : Nat) (f : Nat → A3) : Prop where
  c0 : ∀ i, i < n → w.cell? ⟨g, off + i * 3, none⟩ = some (.int .i64 (f i).1)
  c1 : ∀ i, i < n → w.cell? ⟨g, off + i * 3 + 1, none⟩ = some (.int .i64 (f i).2.1)
  c2 : ∀ i, i < n → w.cell? ⟨g, off + i * 3 + 2, none⟩ = some (.int .i64 (f i).2.2)
  lt : g < w.heap.size
  ok : ∀ i, i < n → I64 (f i).1 ∧ I64 (f i).2.1 ∧ I64 (f i).2.2

/-- Acts that came in. -/
def ActsIn (w : World) (v : Value) (n : Nat) (f : Nat → A3) : Prop := ∃ a cap, v = .slice a n cap ∧ n ≤ maxLen ∧ (0 < n → ∃ g off, a = some ⟨g, off, none⟩ ∧ Acts w g off n f)

theorem Acts.kept {w w' : World} {g off n : Nat} {f : Nat → A3} (h : Acts w g off n f) (k : Kp (fun _ => False) w w') : Acts w' g off n f :=
  ⟨fun i hi => (k.cell (a := ⟨g, off + i * 3, none⟩) h.lt (fun e => e)).trans (h.c0 i hi), fun i hi => (k.cell (a := ⟨g, off + i * 3 + 1, none⟩) h.lt (fun e => e)).trans (h.c1 i hi), fun i hi => (k.cell (a := ⟨g, off + i * 3 + 2, none⟩) h.lt (fun e => e)).trans (h.c2 i hi), Nat.lt_of_lt_of_le h.lt k.size, h.ok⟩

theorem ActsIn.kept {w w' : World} {v : Value} {n : Nat} {f : Nat → A3} (h : ActsIn w v n f) (k : Kp (fun _ => False) w w') : ActsIn w' v n f := by
  obtain ⟨a, cap, rfl, hm, h⟩ := h
  exact ⟨a, cap, rfl, hm, fun h0 => by
    obtain ⟨g, off, e, h2⟩ := h h0
    exact ⟨g, off, e, h2.kept k⟩⟩

def ka : ByteArray := ⟨#[97]⟩
def va : ByteArray := ⟨#[118]⟩

/-- The store behind its first commit. -/
structure First (s : XS) : Prop where
  now : s.now = 1
  hor : s.hor = 0
  begun : s.begun = 1
  txs : ∀ n, s.txs n = none
  nopen : s.nopen = 0
  nob : ∀ n, s.bk.un n = none
  lgc : ∃ ws, WsOf (updS (fun _ => none) ka (some (va, false))) ws ∧ ws.length ≤ 10 ∧ s.log.lg = [bodyC 1 ws] ∧ s.log.sy = 0
  mom : ∀ k, s.mom k = if k = ka then [1] else []
  ver : ∀ k m, s.ver k m = if m = 1 ∧ k = ka then some (va, false) else none

/-- The store behind acts. -/
def RanR : List A3 → XS → Prop
  | [], s => First s
  | a :: r, s => ∃ s0 nv nm l, RanR r s0 ∧ LogC s0 (actWr a.1 a.2.1 a.2.2) l ∧ s = acted { s0 with log := l } (actWr a.1 a.2.1 a.2.2) nv nm
def Ran (l : List A3) (s : XS) : Prop := RanR l.reverse s

theorem Ran.nil {s : XS} (h : First s) : Ran [] s := h
theorem Ran.snoc {l : List A3} {s : XS} (h : Ran l s) (a : A3) (nv nm : Nat) {g : XL} (hg : LogC s (actWr a.1 a.2.1 a.2.2) g) : Ran (l ++ [a]) (acted { s with log := g } (actWr a.1 a.2.1 a.2.2) nv nm) := by
  unfold Ran
  rw [List.reverse_append]
  exact ⟨s, nv, nm, g, h, hg, rfl⟩
theorem Ran.ind {P : List A3 → XS → Prop} (h0 : ∀ s, First s → P [] s) (h1 : ∀ l s a nv nm g, Ran l s → LogC s (actWr a.1 a.2.1 a.2.2) g → P l s → P (l ++ [a]) (acted { s with log := g } (actWr a.1 a.2.1 a.2.2) nv nm)) : ∀ {l : List A3} {s : XS}, Ran l s → P l s := by
  have key : ∀ (r : List A3) (s : XS), RanR r s → P r.reverse s := by
    intro r
    induction r with
    | nil => exact fun s h => h0 s h
    | cons a r ih =>
      rintro s ⟨s0, nv, nm, g, h, hg, rfl⟩
      rw [List.reverse_cons]
      exact h1 _ _ _ _ _ _ (by unfold Ran; rw [List.reverse_reverse]; exact h) hg (ih s0 h)
  intro l s h
  have := key l.reverse s h
  rw [List.reverse_reverse] at this
  exact this

theorem Ran.facts {l : List A3} {s : XS} (h : Ran l s) : s.now = 1 + l.length ∧ s.begun = 1 + l.length ∧ (∀ n, s.txs n = none) ∧ s.nopen = 0 ∧ s.hor = 0 := by
  refine Ran.ind (P := fun l s => s.now = 1 + l.length ∧ s.begun = 1 + l.length ∧ (∀ n, s.txs n = none) ∧ s.nopen = 0 ∧ s.hor = 0) (fun s h => ?_) (fun l s a nv nm g _ _ ih => ?_) h
  · exact ⟨by rw [h.now]; simp, by rw [h.begun]; simp, h.txs, h.nopen, h.hor⟩
  · obtain ⟨h1, h2, h3, h4, h5⟩ := ih
    refine ⟨?_, ?_, h3, h4, h5⟩
    · show _ + 1 = _
      rw [h1]; simp; omega
    · show _ + 1 = _
      rw [h2]; simp; omega

theorem Ran.nob {l : List A3} {s : XS} (h : Ran l s) : ∀ n, s.bk.un n = none :=
  Ran.ind (P := fun _ s => ∀ n, s.bk.un n = none) (fun _ h => h.nob) (fun _ _ _ _ _ _ _ _ ih => ih) h

theorem xok_new (mu : Nat) : XOk (newXS mu) := by
  refine ⟨by simp [newXS], by simp [newXS], by simp [newXS], fun k => by simp [newXS], fun k m h => by simp [newXS] at h, fun k m => by simp [newXS], fun k h => by simp [newXS] at h, fun n t e => by simp [newXS] at e, by simp [newXS], by simp [newXS], by simp [newXS], by simp [newXS], by simp [newXS]⟩

section
variable {R : Ending → World → Prop}

set_option maxRecDepth 20000 in
set_option maxHeartbeats 1000000 in
theorem filled_walk (w : World) (a : Option Addr) (n cap : Nat) (f : Nat → A3) (hn : n ≤ maxLen) (hv : 0 < n → ∃ g off, a = some ⟨g, off, none⟩ ∧ Acts w g off n f)
    (I : Nat → Nat → World → Prop) (hkI : ∀ i p w', I i p w' → Kp (fun _ => False) w w')
    (H : Calls Tryz.prog 33 #[] w fun r w1 => ∃ p, r = .returned (.pointer (some ⟨p, 0, none⟩)) ∧
      Calls Tryz.prog 34 #[.pointer (some ⟨p, 0, none⟩)] w1 fun r w2 => ∃ tx : Int, r = .returned (.tuple #[.int .i64 tx, .int .i64 0]) ∧
      Calls Tryz.prog 35 #[.pointer (some ⟨p, 0, none⟩), .int .i64 tx, .string ⟨#[97]⟩, .string ⟨#[118]⟩] w2 fun r w3 => r = .returned (.int .i64 0) ∧
      Calls Tryz.prog 36 #[.pointer (some ⟨p, 0, none⟩), .int .i64 tx] w3 fun r w4 => r = .returned (.tuple #[.int .i64 1, .int .i64 0]) ∧
      Calls Tryz.prog 29 #[.pointer (some ⟨p, 0, none⟩), .int .i64 1, .string ⟨#[97]⟩] w4 fun r w5 => r = .returned (.tuple #[.string ⟨#[118]⟩, .int .i64 0]) ∧ I 0 p w5)
    (hS : ∀ i p w', I i p w' → i < n → i < 200 → Calls Tryz.prog 12 #[.pointer (some ⟨p, 0, none⟩), actV (f i).1 (f i).2.1 (f i).2.2] w' fun r w'' => r = .returned (.bool true) ∧ I (i + 1) p w'')
    (hR : ∀ p w', I (min n 200) p w' → R (.returned (.pointer (some ⟨p, 0, none⟩))) w') :
    Calls Tryz.prog 11 #[.slice a n cap] w R := by
  have HH := hid_of H
  have HK := hid_of hkI
  have HS := hid_of hS
  have HR := hid_of hR
  have HV := hid_of hv
  have HN := hid_of hn
  clear H hkI hS hR hv hn
  go_enter Tryz.func11, Tryz.ntmps11
  go_wp2_with (first
    | (go_at_call 33; refine Calls.mono HH.out ?_; rintro r w1 ⟨p, rfl, hn⟩; have HA := hid_of hn; clear hn)
    | (go_at_call 34; refine Calls.mono HA.out ?_; rintro r w2 ⟨tx, rfl, hn⟩; have HB := hid_of hn; clear hn)
    | (go_at_call 35; refine Calls.mono HB.out ?_; rintro r w3 ⟨rfl, hn⟩; have HC := hid_of hn; clear hn)
    | (go_at_call 36; refine Calls.mono HC.out ?_; rintro r w4 ⟨rfl, hn⟩; have HD := hid_of hn; clear hn)
    | (go_at_call 29; refine Calls.mono HD.out ?_; rintro r w5 ⟨rfl, hn⟩; have HE := hid_of hn; clear hn)
    | go_in)
  have HNB : Hid (n ≤ maxLen) := HN.out
  go_loopw [11] (fun v11 wr => ∃ i : Nat, i ≤ n ∧ i ≤ 200 ∧ v11 = .int .i64 i ∧ I i p wr) (fun v11 _ => 200 - (intOf v11).toNat)
  case atStart => exact ⟨0, Nat.zero_le _, Nat.zero_le _, rfl, HE.out⟩
  case round =>
    obtain ⟨i, hin, hi2, rfl, hI⟩ := hrel
    have HI := hid_of hI
    clear hI
    by_cases h1 : i < n
    · have d1 : (i : Int) < n := by omega
      by_cases h2 : i < 200
      · have d2 : (i : Int) < 200 := by omega
        obtain ⟨g, off, rfl, hA⟩ := HV.out (by omega)
        have hA' := hA.kept (HK.out i p wr HI.out)
        have q0 := hA'.c0 i h1
        have q1 := hA'.c1 i h1
        have q2 := hA'.c2 i h1
        have HC1 := hid_of (HS.out i p wr HI.out h1 h2)
        have hnb : (n : Int) ≤ 9223372036854775807 := by have := HNB.out; unfold maxLen at this; omega
        unfold actV at HC1
        clear hA hA'
        go_wp2_with (first
          | (go_at_call 12; refine Calls.mono HC1.out ?_; rintro r w6 ⟨rfl, hn⟩; have HI6 := hid_of hn; clear hn)
          | go_in)
        go_roundw
        case rel => exact ⟨i + 1, by omega, by omega, by go_num, HI6.out⟩
        case measure => simp [intOf]; omega
      · have d2 : ¬ (i : Int) < 200 := by omega
        have e2 : decide ((i : Int) < 200) = false := by simpa using d2
        have e3 : i = 200 := by omega
        have hF := HR.out p wr (by have := HI.out; rw [Nat.min_eq_right (by omega), ← e3]; exact this)
        have HF := hid_of hF
        clear hF
        go_wp2
        exact HF.out
    · have d1 : ¬ (i : Int) < n := by omega
      have e1 : decide ((i : Int) < n) = false := by simpa using d1
      have hF := HR.out p wr (by have := HI.out; rw [show min n 200 = i by omega]; exact this)
      have HF := hid_of hF
      clear hF
      go_wp2
      exact HF.out

theorem first_of {s0 : XS} {mu : Nat} (h0 : s0 = newXS mu) {nv nm : Nat} {g : XL} (hg : LogC s0 (updS (fun _ => none) ka (some (va, false))) g) : First (commd { s0 with log := g, begun := s0.begun + 1, txs := updI (updI s0.txs (s0.begun + 1) (some ⟨s0.now, fun _ => none, 0⟩)) (s0.begun + 1) (some ⟨s0.now, updS (fun _ => none) ka (some (va, false)), 1⟩), nopen := s0.nopen + 1 } (updS (fun _ => none) ka (some (va, false)))
    (updI (updI (updI s0.txs (s0.begun + 1) (some ⟨s0.now, fun _ => none, 0⟩)) (s0.begun + 1) (some ⟨s0.now, updS (fun _ => none) ka (some (va, false)), 1⟩)) (s0.begun + 1) none) (s0.nopen + 1 - 1) nv nm) := by
  subst h0
  refine ⟨rfl, rfl, rfl, fun n => ?_, rfl, fun _ => rfl, ?_, fun k => ?_, fun k m => ?_⟩
  · simp only [commd]
    by_cases en : n = (newXS mu).begun + 1
    · subst en; rw [updI_same]
    · have en' : ¬ n = 1 := by simpa [newXS] using en
      simp [updI, en', newXS]
  · obtain ⟨ws, h1, h2, h3, h4⟩ := hg
    exact ⟨ws, h1, h2, h3, h4⟩
  · simp only [commd]
    by_cases ek : k = ka
    · subst ek; simp [updS, newXS]
    · simp [updS, ek, newXS]
  · simp only [commd]
    by_cases ek : k = ka
    · subst ek
      by_cases em : m = 1
      · subst em; simp [updS, newXS]
      · have : ¬ m = (newXS mu).now + 1 := by simpa [newXS] using em
        simp [updS, em, newXS]
    · simp [updS, ek, newXS]

theorem isKey_a : isKey ka = true := by decide

theorem e_filled (w : World) (hT : Tab w) (v : Value) (n : Nat) (f : Nat → A3) (hv : ActsIn w v n f)
    (hR : ∀ w' p s, Ran ((List.range (min n 200)).map f) s → XOk s → St (fun b => b < w.heap.size) w' p s → Kp (fun _ => False) w w' → R (.returned (.pointer (some ⟨p, 0, none⟩))) w') :
    Calls Tryz.prog 11 #[v] w R := by
  obtain ⟨a, cap, rfl, hm, hv⟩ := hv
  have low : ∀ {w1 w2 : World}, Kp (fun _ => False) w w1 → Kp (fun b => ¬ b < w.heap.size) w1 w2 → Kp (fun _ => False) w w2 := fun k1 k2 => k1.trans k2 (fun b hb h => absurd hb h)
  refine filled_walk w a n cap f hm hv (fun i p w' => ∃ s, Ran ((List.range i).map f) s ∧ XOk s ∧ St (fun b => b < w.heap.size) w' p s ∧ Kp (fun _ => False) w w') (fun i p w' h => by obtain ⟨s, _, _, _, h⟩ := h; exact h) ?_ ?_ ?_
  · refine e_new w hT (fun w1 p mu S1 k1 => ⟨p, rfl, ?_⟩)
    obtain ⟨s0, hs0⟩ : ∃ s, s = newXS mu := ⟨_, rfl⟩
    have ok1 : XOk s0 := hs0 ▸ xok_new mu
    have z1 : s0.begun = 0 := by rw [hs0]; rfl
    have z2 : s0.nopen = 0 := by rw [hs0]; rfl
    have z3 : s0.now = 0 := by rw [hs0]; rfl
    rw [← hs0] at S1
    refine e_begin S1 ok1 (by omega) (by omega) (fun w2 S2 k2 => ⟨_, rfl, ?_⟩)
    have ok2 := ok1.begin (s0.nopen + 1)
    have hwx : (Lit.int .i64 (s0.begun + 1)).wf = true := wfI (by omega)
    refine e_put S2 ok2 hwx (updI_same _ _ _) ka va isKey_a (by decide) (wrote_one _ _ _) (fun w3 S3 k3 => ⟨rfl, ?_⟩)
    have ok3 := ok2.write (updI_same _ _ _) isKey_a (by decide) (wrote_one _ _ (va, false))
    have F := fun nv nm g hg => first_of hs0 (nv := nv) (nm := nm) (g := g) hg
    refine e_commit_good S3 ok3 hwx (updI_same _ _ _) (by simp) (fun ⟨k, _, hk⟩ => ?_) (by show s0.now < 2000; omega) (fun w4 nv nm g L4 S4 O4 k4 => ⟨?_, ?_⟩)
    · have := ok1.fresh k
      rw [show changed (s0.mom k) s0.now = true from hk] at this
      cases this
    · show Ending.returned (.tuple #[.int .i64 (s0.now + 1), .int .i64 0]) = _
      rw [z3]; rfl
    · have F1 := F nv nm g L4
      generalize commd { s0 with log := g, begun := s0.begun + 1, txs := updI (updI s0.txs (s0.begun + 1) (some ⟨s0.now, fun _ => none, 0⟩)) (s0.begun + 1) (some ⟨s0.now, updS (fun _ => none) ka (some (va, false)), 1⟩), nopen := s0.nopen + 1 } (updS (fun _ => none) ka (some (va, false)))
        (updI (updI (updI s0.txs (s0.begun + 1) (some ⟨s0.now, fun _ => none, 0⟩)) (s0.begun + 1) (some ⟨s0.now, updS (fun _ => none) ka (some (va, false)), 1⟩)) (s0.begun + 1) none) (s0.nopen + 1 - 1) nv nm = s4 at F1 S4 O4
      refine e_asof S4 O4 1 ka isKey_a (by rw [F1.hor]; decide) (by rw [F1.now]; decide) (fun hx => ?_) (fun hx w5 k5 => ⟨?_, s4, Ran.nil F1, O4, S4.kept k5, (low (low (low k1 k2) k3) k4).trans k5 (fun _ _ h => h)⟩)
      · exfalso
        have : (valAt s4 ka 1).2 = true := by simp [valAt, F1.mom, F1.ver]
        rw [this] at hx; cases hx
      · have : (valAt s4 ka 1).1 = va := by simp [valAt, F1.mom, F1.ver]
        rw [this]; rfl
  · rintro i p w' ⟨s, hr, hO, hS, hK⟩ h1 h2
    obtain ⟨f1, f2, f3, f4, f5⟩ := hr.facts
    have hl : ((List.range i).map f).length = i := by simp
    rw [hl] at f1 f2
    obtain ⟨g, off, _, hA⟩ := hv (by omega)
    have hok := hA.ok i h1
    refine e_commits hS hO (by omega) (by omega) (by omega) (f i).1 (f i).2.1 (f i).2.2 hok.1 hok.2.1 hok.2.2 (fun w'' nv nm g L1 S1 O1 k1 => ⟨rfl, _, ?_, O1, S1, low hK k1⟩)
    rw [List.range_succ, List.map_append]
    exact Ran.snoc hr (f i) nv nm L1
  · rintro p w' ⟨s, hr, hO, hS, hK⟩
    exact hR w' p s hr hO hS hK

end

end Go.Proofs.YthbdpfccfcceiaaGreatDoor
