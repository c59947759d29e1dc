/-
  The law's filled: a store with acts, one behind the other, behind a first one.
-/
import Derived.Test.YthbdpfccfcceiaaDoorE5
import Derived.Test.YthbdpfccfcceiaaDoorZ2
namespace Go.Proofs.YthbdpfccfcceiaaDoor
open Go.RowKit

abbrev A3 := Int × Int × Int

/-- Acts in memory. -/
structure Acts (w : World) (g off n : Nat) (f : Nat → A3) : Prop where
  c0 : ∀ i, i < n → w.cell? ⟨g, off + i * 3, none⟩ = some (.int .i64 (f i).1)
  c1 : ∀ i, i < n → w.cell? ⟨g, off + i * 3 + 1, none⟩ = some (.int .i64 (f i).2.1)
  c2 : ∀ i, i < n → w.cell? ⟨g, off + i * 3 + 2, none⟩ = some (.int .i64 (f i).2.2)
  lt : g < w.heap.size
  ok : ∀ i, i < n → I64 (f i).1 ∧ I64 (f i).2.1 ∧ I64 (f i).2.2

/-- Acts that came in. -/
def ActsIn (w : World) (v : Value) (n : Nat) (f : Nat → A3) : Prop := ∃ a cap, v = .slice a n cap ∧ n ≤ maxLen ∧ (0 < n → ∃ g off, a = some ⟨g, off, none⟩ ∧ Acts w g off n f)

theorem Acts.kept {w w' : World} {g off n : Nat} {f : Nat → A3} (h : Acts w g off n f) (k : Kp (fun _ => False) w w') : Acts w' g off n f :=
  ⟨fun i hi => (k.cell (a := ⟨g, off + i * 3, none⟩) h.lt (fun e => e)).trans (h.c0 i hi), fun i hi => (k.cell (a := ⟨g, off + i * 3 + 1, none⟩) h.lt (fun e => e)).trans (h.c1 i hi), fun i hi => (k.cell (a := ⟨g, off + i * 3 + 2, none⟩) h.lt (fun e => e)).trans (h.c2 i hi), Nat.lt_of_lt_of_le h.lt k.size, h.ok⟩

theorem ActsIn.kept {w w' : World} {v : Value} {n : Nat} {f : Nat → A3} (h : ActsIn w v n f) (k : Kp (fun _ => False) w w') : ActsIn w' v n f := by
  obtain ⟨a, cap, rfl, hm, h⟩ := h
  exact ⟨a, cap, rfl, hm, fun h0 => by
    obtain ⟨g, off, e, h2⟩ := h h0
    exact ⟨g, off, e, h2.kept k⟩⟩

def ka : ByteArray := ⟨#[97]⟩
def va : ByteArray := ⟨#[118]⟩

/-- The store behind its first commit. -/
structure First (s : XS) : Prop where
  now : s.now = 1
  hor : s.hor = 0
  begun : s.begun = 1
  txs : ∀ n, s.txs n = none
  nopen : s.nopen = 0
  nob : ∀ n, s.bk.un n = none
  mom : ∀ k, s.mom k = if k = ka then [1] else []
  ver : ∀ k m, s.ver k m = if m = 1 ∧ k = ka then some (va, false) else none

/-- The store behind acts. -/
def RanR : List A3 → XS → Prop
  | [], s => First s
  | a :: r, s => ∃ s0 nv nm l, RanR r s0 ∧ LogC s0 (actWr a.1 a.2.1 a.2.2) l ∧ s = acted { s0 with log := l } (actWr a.1 a.2.1 a.2.2) nv nm
def Ran (l : List A3) (s : XS) : Prop := RanR l.reverse s

theorem Ran.nil {s : XS} (h : First s) : Ran [] s := h
theorem Ran.snoc {l : List A3} {s : XS} (h : Ran l s) (a : A3) (nv nm : Nat) {g : XL} (hg : LogC s (actWr a.1 a.2.1 a.2.2) g) : Ran (l ++ [a]) (acted { s with log := g } (actWr a.1 a.2.1 a.2.2) nv nm) := by
  unfold Ran
  rw [List.reverse_append]
  exact ⟨s, nv, nm, g, h, hg, rfl⟩
theorem Ran.ind {P : List A3 → XS → Prop} (h0 : ∀ s, First s → P [] s) (h1 : ∀ l s a nv nm g, Ran l s → LogC s (actWr a.1 a.2.1 a.2.2) g → P l s → P (l ++ [a]) (acted { s with log := g } (actWr a.1 a.2.1 a.2.2) nv nm)) : ∀ {l : List A3} {s : XS}, Ran l s → P l s := by
  have key : ∀ (r : List A3) (s : XS), RanR r s → P r.reverse s := by
    intro r
    induction r with
    | nil => exact fun s h => h0 s h
    | cons a r ih =>
      rintro s ⟨s0, nv, nm, g, h, hg, rfl⟩
      rw [List.reverse_cons]
      exact h1 _ _ _ _ _ _ (by unfold Ran; rw [List.reverse_reverse]; exact h) hg (ih s0 h)
  intro l s h
  have := key l.reverse s h
  rw [List.reverse_reverse] at this
  exact this

theorem Ran.facts {l : List A3} {s : XS} (h : Ran l s) : s.now = 1 + l.length ∧ s.begun = 1 + l.length ∧ (∀ n, s.txs n = none) ∧ s.nopen = 0 ∧ s.hor = 0 := by
  refine Ran.ind (P := fun l s => s.now = 1 + l.length ∧ s.begun = 1 + l.length ∧ (∀ n, s.txs n = none) ∧ s.nopen = 0 ∧ s.hor = 0) (fun s h => ?_) (fun l s a nv nm g _ _ ih => ?_) h
  · exact ⟨by rw [h.now]; simp, by rw [h.begun]; simp, h.txs, h.nopen, h.hor⟩
  · obtain ⟨h1, h2, h3, h4, h5⟩ := ih
    refine ⟨?_, ?_, h3, h4, h5⟩
    · show _ + 1 = _
      rw [h1]; simp; omega
    · show _ + 1 = _
      rw [h2]; simp; omega

theorem Ran.nob {l : List A3} {s : XS} (h : Ran l s) : ∀ n, s.bk.un n = none :=
  Ran.ind (P := fun _ s => ∀ n, s.bk.un n = none) (fun _ h => h.nob) (fun _ _ _ _ _ _ _ _ ih => ih) h

theorem xok_new (mu : Nat) : XOk (newXS mu) := by
  refine ⟨by simp [newXS], by simp [newXS], by simp [newXS], fun k => by simp [newXS], fun k m h => by simp [newXS] at h, fun k m => by simp [newXS], fun k h => by simp [newXS] at h, fun n t e => by simp [newXS] at e, by simp [newXS], by simp [newXS], by simp [newXS], by simp [newXS], by simp [newXS]⟩

section
variable {R : Ending → World → Prop}

set_option maxRecDepth 20000 in
set_option maxHeartbeats 1000000 in
theorem filled_walk (w : World) (a : Option Addr) (n cap : Nat) (f : Nat → A3) (hn : n ≤ maxLen) (hv : 0 < n → ∃ g off, a = some ⟨g, off, none⟩ ∧ Acts w g off n f)
    (I : Nat → Nat → World → Prop) (hkI : ∀ i p w', I i p w' → Kp (fun _ => False) w w')
    (H : Calls Tryd.prog 25 #[] w fun r w1 => ∃ p, r = .returned (.pointer (some ⟨p, 0, none⟩)) ∧
      Calls Tryd.prog 8 #[.pointer (some ⟨p, 0, none⟩)] w1 fun r w2 => ∃ tx : Int, r = .returned (.tuple #[.int .i64 tx, .int .i64 0]) ∧
      Calls Tryd.prog 26 #[.pointer (some ⟨p, 0, none⟩), .int .i64 tx, .string ⟨#[97]⟩, .string ⟨#[118]⟩] w2 fun r w3 => r = .returned (.int .i64 0) ∧
      Calls Tryd.prog 18 #[.pointer (some ⟨p, 0, none⟩), .int .i64 tx] w3 fun r w4 => r = .returned (.tuple #[.int .i64 1, .int .i64 0]) ∧
      Calls Tryd.prog 19 #[.pointer (some ⟨p, 0, none⟩), .int .i64 1, .string ⟨#[97]⟩] w4 fun r w5 => r = .returned (.tuple #[.string ⟨#[118]⟩, .int .i64 0]) ∧ I 0 p w5)
    (hS : ∀ i p w', I i p w' → i < n → i < 200 → Calls Tryd.prog 13 #[.pointer (some ⟨p, 0, none⟩), actV (f i).1 (f i).2.1 (f i).2.2] w' fun r w'' => r = .returned (.bool true) ∧ I (i + 1) p w'')
    (hR : ∀ p w', I (min n 200) p w' → R (.returned (.pointer (some ⟨p, 0, none⟩))) w') :
    Calls Tryd.prog 6 #[.slice a n cap] w R := by
  have HH := hid_of H
  have HK := hid_of hkI
  have HS := hid_of hS
  have HR := hid_of hR
  have HV := hid_of hv
  have HN := hid_of hn
  clear H hkI hS hR hv hn
  go_enter Tryd.func6, Tryd.ntmps6
  go_wp2_with (first
    | (go_at_call 25; refine Calls.mono HH.out ?_; rintro r w1 ⟨p, rfl, hn⟩; have HA := hid_of hn; clear hn)
    | (go_at_call 8; refine Calls.mono HA.out ?_; rintro r w2 ⟨tx, rfl, hn⟩; have HB := hid_of hn; clear hn)
    | (go_at_call 26; refine Calls.mono HB.out ?_; rintro r w3 ⟨rfl, hn⟩; have HC := hid_of hn; clear hn)
    | (go_at_call 18; refine Calls.mono HC.out ?_; rintro r w4 ⟨rfl, hn⟩; have HD := hid_of hn; clear hn)
    | (go_at_call 19; refine Calls.mono HD.out ?_; rintro r w5 ⟨rfl, hn⟩; have HE := hid_of hn; clear hn)
    | go_in)
  have HNB : Hid (n ≤ maxLen) := HN.out
  go_loopw [11] (fun v11 wr => ∃ i : Nat, i ≤ n ∧ i ≤ 200 ∧ v11 = .int .i64 i ∧ I i p wr) (fun v11 _ => 200 - (intOf v11).toNat)
  case atStart => exact ⟨0, Nat.zero_le _, Nat.zero_le _, rfl, HE.out⟩
  case round =>
    obtain ⟨i, hin, hi2, rfl, hI⟩ := hrel
    have HI := hid_of hI
    clear hI
    by_cases h1 : i < n
    · have d1 : (i : Int) < n := by omega
      by_cases h2 : i < 200
      · have d2 : (i : Int) < 200 := by omega
        obtain ⟨g, off, rfl, hA⟩ := HV.out (by omega)
        have hA' := hA.kept (HK.out i p wr HI.out)
        have q0 := hA'.c0 i h1
        have q1 := hA'.c1 i h1
        have q2 := hA'.c2 i h1
        have HC1 := hid_of (HS.out i p wr HI.out h1 h2)
        have hnb : (n : Int) ≤ 9223372036854775807 := by have := HNB.out; unfold maxLen at this; omega
        unfold actV at HC1
        clear hA hA'
        go_wp2_with (first
          | (go_at_call 13; refine Calls.mono HC1.out ?_; rintro r w6 ⟨rfl, hn⟩; have HI6 := hid_of hn; clear hn)
          | go_in)
        go_roundw
        case rel => exact ⟨i + 1, by omega, by omega, by go_num, HI6.out⟩
        case measure => simp [intOf]; omega
      · have d2 : ¬ (i : Int) < 200 := by omega
        have e2 : decide ((i : Int) < 200) = false := by simpa using d2
        have e3 : i = 200 := by omega
        have hF := HR.out p wr (by have := HI.out; rw [Nat.min_eq_right (by omega), ← e3]; exact this)
        have HF := hid_of hF
        clear hF
        go_wp2
        exact HF.out
    · have d1 : ¬ (i : Int) < n := by omega
      have e1 : decide ((i : Int) < n) = false := by simpa using d1
      have hF := HR.out p wr (by have := HI.out; rw [show min n 200 = i by omega]; exact this)
      have HF := hid_of hF
      clear hF
      go_wp2
      exact HF.out

theorem first_of {s0 : XS} {mu : Nat} (h0 : s0 = newXS mu) {nv nm : Nat} {g : XL} : First (commd { s0 with log := g, begun := s0.begun + 1, txs := updI (updI s0.txs (s0.begun + 1) (some ⟨s0.now, fun _ => none, 0⟩)) (s0.begun + 1) (some ⟨s0.now, updS (fun _ => none) ka (some (va, false)), 1⟩), nopen := s0.nopen + 1 } (updS (fun _ => none) ka (some (va, false)))
    (updI (updI (updI s0.txs (s0.begun + 1) (some ⟨s0.now, fun _ => none, 0⟩)) (s0.begun + 1) (some ⟨s0.now, updS (fun _ => none) ka (some (va, false)), 1⟩)) (s0.begun + 1) none) (s0.nopen + 1 - 1) nv nm) := by
  subst h0
  refine ⟨rfl, rfl, rfl, fun n => ?_, rfl, fun _ => rfl, fun k => ?_, fun k m => ?_⟩
  · simp only [commd]
    by_cases en : n = (newXS mu).begun + 1
    · subst en; rw [updI_same]
    · have en' : ¬ n = 1 := by simpa [newXS] using en
      simp [updI, en', newXS]
  · simp only [commd]
    by_cases ek : k = ka
    · subst ek; simp [updS, newXS]
    · simp [updS, ek, newXS]
  · simp only [commd]
    by_cases ek : k = ka
    · subst ek
      by_cases em : m = 1
      · subst em; simp [updS, newXS]
      · have : ¬ m = (newXS mu).now + 1 := by simpa [newXS] using em
        simp [updS, em, newXS]
    · simp [updS, ek, newXS]

theorem isKey_a : isKey ka = true := by decide

theorem e_filled (w : World) (hT : Tab w) (v : Value) (n : Nat) (f : Nat → A3) (hv : ActsIn w v n f)
    (hR : ∀ w' p s, Ran ((List.range (min n 200)).map f) s → XOk s → St (fun b => b < w.heap.size) w' p s → Kp (fun _ => False) w w' → R (.returned (.pointer (some ⟨p, 0, none⟩))) w') :
    Calls Tryd.prog 6 #[v] w R := by
  obtain ⟨a, cap, rfl, hm, hv⟩ := hv
  have low : ∀ {w1 w2 : World}, Kp (fun _ => False) w w1 → Kp (fun b => ¬ b < w.heap.size) w1 w2 → Kp (fun _ => False) w w2 := fun k1 k2 => k1.trans k2 (fun b hb h => absurd hb h)
  refine filled_walk w a n cap f hm hv (fun i p w' => ∃ s, Ran ((List.range i).map f) s ∧ XOk s ∧ St (fun b => b < w.heap.size) w' p s ∧ Kp (fun _ => False) w w') (fun i p w' h => by obtain ⟨s, _, _, _, h⟩ := h; exact h) ?_ ?_ ?_
  · refine e_new w hT (fun w1 p mu S1 k1 => ⟨p, rfl, ?_⟩)
    obtain ⟨s0, hs0⟩ : ∃ s, s = newXS mu := ⟨_, rfl⟩
    have ok1 : XOk s0 := hs0 ▸ xok_new mu
    have z1 : s0.begun = 0 := by rw [hs0]; rfl
    have z2 : s0.nopen = 0 := by rw [hs0]; rfl
    have z3 : s0.now = 0 := by rw [hs0]; rfl
    rw [← hs0] at S1
    refine e_begin S1 ok1 (by omega) (by omega) (fun w2 S2 k2 => ⟨_, rfl, ?_⟩)
    have ok2 := ok1.begin (s0.nopen + 1)
    have hwx : (Lit.int .i64 (s0.begun + 1)).wf = true := wfI (by omega)
    refine e_put S2 ok2 hwx (updI_same _ _ _) ka va isKey_a (by decide) (wrote_one _ _ _) (fun w3 S3 k3 => ⟨rfl, ?_⟩)
    have ok3 := ok2.write (updI_same _ _ _) isKey_a (by decide) (wrote_one _ _ (va, false))
    have F := fun nv nm g => first_of hs0 (nv := nv) (nm := nm) (g := g)
    refine e_commit_good S3 ok3 hwx (updI_same _ _ _) (by simp) (fun ⟨k, _, hk⟩ => ?_) (by show s0.now < 2000; omega) (fun w4 nv nm g L4 S4 O4 k4 => ⟨?_, ?_⟩)
    · have := ok1.fresh k
      rw [show changed (s0.mom k) s0.now = true from hk] at this
      cases this
    · show Ending.returned (.tuple #[.int .i64 (s0.now + 1), .int .i64 0]) = _
      rw [z3]; rfl
    · have F1 := F nv nm g
      generalize commd { s0 with log := g, begun := s0.begun + 1, txs := updI (updI s0.txs (s0.begun + 1) (some ⟨s0.now, fun _ => none, 0⟩)) (s0.begun + 1) (some ⟨s0.now, updS (fun _ => none) ka (some (va, false)), 1⟩), nopen := s0.nopen + 1 } (updS (fun _ => none) ka (some (va, false)))
        (updI (updI (updI s0.txs (s0.begun + 1) (some ⟨s0.now, fun _ => none, 0⟩)) (s0.begun + 1) (some ⟨s0.now, updS (fun _ => none) ka (some (va, false)), 1⟩)) (s0.begun + 1) none) (s0.nopen + 1 - 1) nv nm = s4 at F1 S4 O4
      refine e_asof S4 O4 1 ka isKey_a (by rw [F1.hor]; decide) (by rw [F1.now]; decide) (fun hx => ?_) (fun hx w5 k5 => ⟨?_, s4, Ran.nil F1, O4, S4.kept k5, (low (low (low k1 k2) k3) k4).trans k5 (fun _ _ h => h)⟩)
      · exfalso
        have : (valAt s4 ka 1).2 = true := by simp [valAt, F1.mom, F1.ver]
        rw [this] at hx; cases hx
      · have : (valAt s4 ka 1).1 = va := by simp [valAt, F1.mom, F1.ver]
        rw [this]; rfl
  · rintro i p w' ⟨s, hr, hO, hS, hK⟩ h1 h2
    obtain ⟨f1, f2, f3, f4, f5⟩ := hr.facts
    have hl : ((List.range i).map f).length = i := by simp
    rw [hl] at f1 f2
    obtain ⟨g, off, _, hA⟩ := hv (by omega)
    have hok := hA.ok i h1
    refine e_commits hS hO (by omega) (by omega) (by omega) (f i).1 (f i).2.1 (f i).2.2 hok.1 hok.2.1 hok.2.2 (fun w'' nv nm g L1 S1 O1 k1 => ⟨rfl, _, ?_, O1, S1, low hK k1⟩)
    rw [List.range_succ, List.map_append]
    exact Ran.snoc hr (f i) nv nm L1
  · rintro p w' ⟨s, hr, hO, hS, hK⟩
    exact hR w' p s hr hO hS hK

end

end Go.Proofs.YthbdpfccfcceiaaDoor
