/-
  The law's commits, told of the store: one more moment.
  A new store.
-/
import Derived.Test.YthbdpfccfcceiaaDoorE2E4
import Derived.Test.YthbdpfccfcceiaaDoorL1L2
import Derived.Test.YthbdpfccfcceiaaDoorZ1C3J2
namespace Go.Proofs.YthbdpfccfcceiaaDoor
open Go.RowKit

theorem St.mono {N M : Nat → Prop} {w : World} {p : Nat} {s : XS} (h : St M w p s) (hs : ∀ b, N b → M b) : St N w p s := by
  obtain ⟨own, hx, hN⟩ := h
  exact ⟨own, hx, fun b hb => hN.out b (hs b hb), hN.tab, hN.tabN⟩

theorem XOk.fresh {s : XS} (ok : XOk s) (k : ByteArray) : changed (s.mom k) s.now = false := by
  unfold changed
  cases e : (s.mom k).getLast? with
  | none => rfl
  | some m =>
    have hm := ok.mom k m (List.mem_of_getLast? e)
    simp
    omega

theorem wrote_one (sees : Int) (k : ByteArray) (v : ByteArray × Bool) : wrote ⟨sees, fun _ => none, 0⟩ k v = some ⟨sees, updS (fun _ => none) k (some v), 1⟩ := by simp [wrote]
theorem wrote_two (t : XT) (k : ByteArray) (v : ByteArray × Bool) (h : t.nw < 10) : ∃ n, wrote t k v = some ⟨t.sees, updS t.wr k (some v), n⟩ := by
  unfold wrote
  split
  · exact ⟨t.nw, rfl⟩
  · exact ⟨t.nw + 1, rfl⟩

/-- What an act writes. -/
def actWr (a1 a2 a3 : Int) : ByteArray → Option (ByteArray × Bool) :=
  if pk a3 3 = 0 then updS (updS (fun _ => none) (keyN a1) (some (vOf (valN a2)))) (keyN (a3.tdiv 3)) (some (vOf (valN (a3.tdiv 18))))
  else updS (fun _ => none) (keyN a1) (some (vOf (valN a2)))

/-- A store behind an act. -/
def acted (s : XS) (wr : ByteArray → Option (ByteArray × Bool)) (nv nm : Nat) : XS := { commd s wr s.txs s.nopen nv nm with begun := s.begun + 1 }

theorem acted_eq {s : XS} (h : s.txs (s.begun + 1) = none) (t0 t1 : XT) (wr : ByteArray → Option (ByteArray × Bool)) (nv nm : Nat) :
    commd { s with begun := s.begun + 1, txs := updI (updI s.txs (s.begun + 1) (some t0)) (s.begun + 1) (some t1), nopen := s.nopen + 1 } wr (updI (updI (updI s.txs (s.begun + 1) (some t0)) (s.begun + 1) (some t1)) (s.begun + 1) none) (s.nopen + 1 - 1) nv nm = acted s wr nv nm := by
  have e : updI (updI (updI s.txs (s.begun + 1) (some t0)) (s.begun + 1) (some t1)) (s.begun + 1) none = s.txs := by
    funext n
    by_cases en : n = s.begun + 1
    · subst en; rw [updI_same, h]
    · simp [updI, en]
  rw [e]
  simp [acted, commd]

theorem acted_eq2 {s : XS} (h : s.txs (s.begun + 1) = none) (t0 t1 t2 : XT) (wr : ByteArray → Option (ByteArray × Bool)) (nv nm : Nat) :
    commd { s with begun := s.begun + 1, txs := updI (updI (updI s.txs (s.begun + 1) (some t0)) (s.begun + 1) (some t1)) (s.begun + 1) (some t2), nopen := s.nopen + 1 } wr (updI (updI (updI (updI s.txs (s.begun + 1) (some t0)) (s.begun + 1) (some t1)) (s.begun + 1) (some t2)) (s.begun + 1) none) (s.nopen + 1 - 1) nv nm = acted s wr nv nm := by
  have e : updI (updI (updI (updI s.txs (s.begun + 1) (some t0)) (s.begun + 1) (some t1)) (s.begun + 1) (some t2)) (s.begun + 1) none = s.txs := by
    funext n
    by_cases en : n = s.begun + 1
    · subst en; rw [updI_same, h]
    · simp [updI, en]
  rw [e]
  simp [acted, commd]

theorem vOf_size {v : ByteArray} (h : v.size ≤ 20) : (vOf v).1.size ≤ 20 := by
  unfold vOf
  split
  · decide
  · exact h

section
variable {N : Nat → Prop} {w : World} {p : Nat} {s : XS}
variable {R : Ending → World → Prop}

theorem e_commits (h : St N w p s) (ok : XOk s) (hb : s.begun < 1000000) (h8 : s.nopen < 8) (hn : s.now < 2000) (a1 a2 a3 : Int) (h1 : I64 a1) (h2 : I64 a2) (h3 : I64 a3)
    (hR : ∀ w' nv nm l, LogC s (actWr a1 a2 a3) l → St N w' p (acted { s with log := l } (actWr a1 a2 a3) nv nm) → XOk (acted { s with log := l } (actWr a1 a2 a3) nv nm) → Kp (fun b => ¬ N b) w w' → R (.returned (.bool true)) w') :
    Calls Tryd.prog 13 #[.pointer (some ⟨p, 0, none⟩), actV a1 a2 a3] w R := by
  have hb0 := ok.begun
  have hnw := ok.now
  have hwx : (Lit.int .i64 (s.begun + 1)).wf = true := wfI (by omega)
  have keep : ∀ {w1 w2 : World}, ActAt w1 w.heap.size a1 a2 a3 → Kp (fun b => ¬ (N b ∨ b = w.heap.size)) w1 w2 → ActAt w2 w.heap.size a1 a2 a3 := fun ha k => (k.block _ (block_lt ha) (fun e => e (Or.inr rfl))).trans ha
  have ok1 := ok.begin (s.nopen + 1)
  have fin : ∀ {w1 : World} {nv nm : Nat} {l : XL}, LogC s (actWr a1 a2 a3) l → St (fun b => N b ∨ b = w.heap.size) w1 p (acted { s with log := l } (actWr a1 a2 a3) nv nm) → XOk (acted { s with log := l } (actWr a1 a2 a3) nv nm) → Kp (fun b => ¬ (N b ∨ b = w.heap.size)) w w1 → Calls Tryd.prog 7 #[.pointer (some ⟨p, 0, none⟩)] w1 fun r w6 => r = .returned (.int .i64 (s.now + 1)) ∧ R (.returned (.bool true)) w6 := fun hL hS hO hK =>
    e_now hS ⟨rfl, hR _ _ _ _ hL (hS.mono (fun _ h => Or.inl h)) hO (hK.mono (fun _ _ h hn => h (Or.inl hn)))⟩
  by_cases ho : pk a3 3 = 0
  · refine commits_two w p a1 a2 a3 h1 h2 h3 ho (fun w0 k0 ha0 => ?_)
    have S0 : St (fun b => N b ∨ b = w.heap.size) w0 p s := h.read k0 (fun b hb => hb.imp id (fun e => ⟨by omega, by rw [e]; exact block_lt ha0⟩))
    have K0 : Kp (fun b => ¬ (N b ∨ b = w.heap.size)) w w0 := k0.mono (fun _ _ h => h.elim)
    refine e_now S0 ⟨s.now, rfl, hnw.1, by omega, e_begin S0 ok (by omega) h8 (fun w2 S2 k2 => ⟨s.begun + 1, rfl, keep ha0 k2, fun w3 k3 => ?_⟩)⟩
    have ha2 := keep ha0 k2
    have S3 := S2.kept k3
    have K3 := (K0.trans k2 (fun _ _ h => h)).trans k3 (fun _ _ h => h.elim)
    refine e_writes S3 ok1 hwx (updI_same _ _ _) (keyN a1) (valN a2) (keyN_key _) (valN_size _) (wrote_one _ _ _) (fun w4 S4 k4 => ?_)
    have ok4 := ok1.write (updI_same _ _ _) (keyN_key a1) (vOf_size (valN_size a2)) (wrote_one _ _ (vOf (valN a2)))
    have ha4 := keep (ha2.kp k3) k4
    refine ⟨rfl, ha4, fun w5 k5 => ?_⟩
    obtain ⟨n2, hw2⟩ := wrote_two ⟨s.now, updS (fun _ => none) (keyN a1) (some (vOf (valN a2))), 1⟩ (keyN (a3.tdiv 3)) (vOf (valN (a3.tdiv 18))) (by simp)
    refine e_writes (S4.kept k5) ok4 hwx (updI_same _ _ _) (keyN (a3.tdiv 3)) (valN (a3.tdiv 18)) (keyN_key _) (valN_size _) hw2 (fun w6 S6 k6 => ?_)
    have ok6 := ok4.write (updI_same _ _ _) (keyN_key (a3.tdiv 3)) (vOf_size (valN_size _)) hw2
    refine ⟨rfl, keep (ha4.kp k5) k6, ?_⟩
    refine e_commit_good S6 ok6 hwx (updI_same _ _ _) ((ok6.tx _ _ (updI_same _ _ _)).pos (keyN (a3.tdiv 3)) (by simp [updS])) (fun ⟨k, _, hk⟩ => ?_) hn (fun w7 nv nm l L7 S7 O7 k7 => ?_)
    · have := ok.fresh k
      rw [show changed (s.mom k) s.now = true from hk] at this
      cases this
    · have ew : actWr a1 a2 a3 = updS (updS (fun _ => none) (keyN a1) (some (vOf (valN a2)))) (keyN (a3.tdiv 3)) (some (vOf (valN (a3.tdiv 18)))) := by rw [actWr, if_pos ho]
      have e := acted_eq2 (s := { s with log := l }) ok.newTx ⟨s.now, fun _ => none, 0⟩ ⟨s.now, updS (fun _ => none) (keyN a1) (some (vOf (valN a2))), 1⟩ ⟨s.now, updS (updS (fun _ => none) (keyN a1) (some (vOf (valN a2)))) (keyN (a3.tdiv 3)) (some (vOf (valN (a3.tdiv 18)))), n2⟩ (updS (updS (fun _ => none) (keyN a1) (some (vOf (valN a2)))) (keyN (a3.tdiv 3)) (some (vOf (valN (a3.tdiv 18))))) nv nm
      rw [← ew] at e
      refine ⟨rfl, fin (nv := nv) (nm := nm) (l := l) (by rw [ew]; exact L7) ?_ ?_ ?_⟩
      · rw [← e, ew]; exact S7
      · rw [← e, ew]; exact O7
      · exact (((K3.trans k4 (fun _ _ h => h)).trans k5 (fun _ _ h => h.elim)).trans k6 (fun _ _ h => h)).trans k7 (fun _ _ h => h)
  · refine commits_one w p a1 a2 a3 h1 h2 h3 ho (fun w0 k0 ha0 => ?_)
    have S0 : St (fun b => N b ∨ b = w.heap.size) w0 p s := h.read k0 (fun b hb => hb.imp id (fun e => ⟨by omega, by rw [e]; exact block_lt ha0⟩))
    have K0 : Kp (fun b => ¬ (N b ∨ b = w.heap.size)) w w0 := k0.mono (fun _ _ h => h.elim)
    refine e_now S0 ⟨s.now, rfl, hnw.1, by omega, e_begin S0 ok (by omega) h8 (fun w2 S2 k2 => ⟨s.begun + 1, rfl, keep ha0 k2, fun w3 k3 => ?_⟩)⟩
    have ha2 := keep ha0 k2
    have S3 := S2.kept k3
    have K3 := (K0.trans k2 (fun _ _ h => h)).trans k3 (fun _ _ h => h.elim)
    refine e_writes S3 ok1 hwx (updI_same _ _ _) (keyN a1) (valN a2) (keyN_key _) (valN_size _) (wrote_one _ _ _) (fun w4 S4 k4 => ?_)
    have ok4 := ok1.write (updI_same _ _ _) (keyN_key a1) (vOf_size (valN_size a2)) (wrote_one _ _ (vOf (valN a2)))
    refine ⟨rfl, keep (ha2.kp k3) k4, ?_⟩
    refine e_commit_good S4 ok4 hwx (updI_same _ _ _) (by simp) (fun ⟨k, _, hk⟩ => ?_) hn (fun w7 nv nm l L7 S7 O7 k7 => ?_)
    · have := ok.fresh k
      rw [show changed (s.mom k) s.now = true from hk] at this
      cases this
    · have ew : actWr a1 a2 a3 = updS (fun _ => none) (keyN a1) (some (vOf (valN a2))) := by rw [actWr, if_neg ho]
      have e := acted_eq (s := { s with log := l }) ok.newTx ⟨s.now, fun _ => none, 0⟩ ⟨s.now, updS (fun _ => none) (keyN a1) (some (vOf (valN a2))), 1⟩ (updS (fun _ => none) (keyN a1) (some (vOf (valN a2)))) nv nm
      rw [← ew] at e
      refine ⟨rfl, fin (nv := nv) (nm := nm) (l := l) (by rw [ew]; exact L7) ?_ ?_ ?_⟩
      · rw [← e, ew]; exact S7
      · rw [← e, ew]; exact O7
      · exact (K3.trans k4 (fun _ _ h => h)).trans k7 (fun _ _ h => h)

end

end Go.Proofs.YthbdpfccfcceiaaDoor

namespace Go.Proofs.YthbdpfccfcceiaaDoor
open Go.RowKit

section
variable {own : Nat → Lab} {c : Nat} {w w' : World}
variable {R : Ending → World → Prop}

/-- A store that New gave lies in its six blocks. -/
theorem x_new (s : Nat) (hm0 : w'.heap[s]? = some (.map #[] 0)) (hm1 : w'.heap[s + 1]? = some (.map #[] 0)) (hm2 : w'.heap[s + 3]? = some (.map #[] 0)) (hm3 : w'.heap[s + 4]? = some (.map #[] 0))
    (hh : w'.heap[s + 2]? = some (.cells #[.map (some s), .map (some (s + 1))] 111 (0, 0)))
    (hs : w'.heap[s + 5]? = some (.cells (newCells (s + 3) (s + 2) (s + 4)) 64 (0, 0)))
    (o0 : own s = ⟨c, 3, 0, eb⟩) (o1 : own (s + 1) = ⟨c, 4, 0, eb⟩) (o2 : own (s + 2) = ⟨c, 2, 0, eb⟩) (o3 : own (s + 3) = ⟨c, 1, 0, eb⟩) (o4 : own (s + 4) = ⟨c, 10, 0, eb⟩) (o5 : own (s + 5) = ⟨c, 0, 0, eb⟩) : XE own c w' (s + 5) (newXS (s + 4)) := by
  have f : ∀ (k : TypeId) (b : Nat), w'.heap[b]? = some (.map #[] 0) → fmap w' Tryd.prog k b 0 (fun _ => none) := fun k b hb => by
    have hlt := block_lt hb
    have hz : ({ w' with heap := w'.heap.extract 0 b } : World).heap.size = b := by simp; omega
    have h := fmap_made ({ w' with heap := w'.heap.extract 0 b } : World) Tryd.prog k
    have hn := heap_alloc_new ({ w' with heap := w'.heap.extract 0 b } : World) (.map #[] 0)
    rw [hz] at h hn
    exact h.of_block (hb.trans hn.symm)
  refine ⟨s + 3, s + 2, s, s + 1, fun _ => 0, fun _ => 0, fun _ => .slice none 0 0, o5, o3, o2, o0, o1, hs, hh, ?_, ?_, ?_, ?_, ?_, ?_, ?_, ?_, ⟨fun b e => by simp [newXS, Value.ownBlock] at e, World.ownsRow_nil _ _ _ _, fun i v hv => by simp [newXS] at hv, fun i v f hv => by simp [newXS] at hv⟩, ⟨o4, ?_, fun n b e => (by cases e), fun n b e => (by cases e)⟩⟩
  · refine (show (encI fun n => ((newXS (s + 4)).txs n).map fun _ => Value.pointer (some ⟨0, 0, none⟩)) = fun _ => none from ?_) ▸ f _ _ hm2
    funext v; unfold encI; split <;> rfl
  · intro n t e; cases e
  · intro n t e; cases e
  · intro n t e; cases e
  · refine (show (encP fun k m => ((newXS (s + 4)).ver k m).map encVer) = fun _ => none from ?_) ▸ f _ _ hm0
    funext v; unfold encP; split
    · split <;> rfl
    · rfl
  · refine (show (encS fun k => if (newXS (s + 4)).mom k = [] then none else some (Value.slice none 0 0)) = fun _ => none from ?_) ▸ f _ _ hm1
    funext v; cases v <;> rfl
  · intro k hk; exact absurd rfl hk
  · intro k hk; exact absurd rfl hk
  · refine (show (encI fun n => ((newXS (s + 4)).bk.un n).map fun b => Value.pointer (some ⟨b.pb, 0, none⟩)) = fun _ => none from ?_) ▸ f _ _ hm3
    funext v; unfold encI; split <;> rfl

theorem heap_push (w : World) (o : Obj) : (w.alloc o).heap = w.heap.push o := rfl

theorem new_any' (w : World) (s : Nat) (hs : w.heap.size = s)
    (hR : ∀ w3, Kp (fun _ => False) w w3 → w3.heap.size = s + 6 → w3.heap[s]? = some (.map #[] 0) → w3.heap[s + 1]? = some (.map #[] 0) → w3.heap[s + 3]? = some (.map #[] 0) → w3.heap[s + 4]? = some (.map #[] 0) →
      w3.heap[s + 2]? = some (.cells #[.map (some s), .map (some (s + 1))] 111 (0, 0)) →
      w3.heap[s + 5]? = some (.cells (newCells (s + 3) (s + 2) (s + 4)) 64 (0, 0)) → R (.returned (.pointer (some ⟨s + 5, 0, none⟩))) w3) :
    Calls Tryd.prog 25 #[] w R := by
  subst hs
  refine new_any w (hR _ ?_ (by simp) ?_ ?_ ?_ ?_ ?_ ?_)
  · exact (((((Kp.alloc _ _ _).trans (Kp.alloc (fun _ => False) _ _) (fun _ _ h => h)).trans (Kp.alloc (fun _ => False) _ _) (fun _ _ h => h)).trans (Kp.alloc (fun _ => False) _ _) (fun _ _ h => h)).trans (Kp.alloc (fun _ => False) _ _) (fun _ _ h => h)).trans (Kp.alloc (fun _ => False) _ _) (fun _ _ h => h)
  all_goals
    simp only [heap_push, Array.getElem?_push, Array.size_push]
    repeat (first | rw [if_pos (by omega)] | rw [if_neg (by omega)])
    exact if_pos trivial

/-- A new store, beside all that was there. -/
theorem e_new (w : World) (hT : Tab w) (hR : ∀ w' p, ∀ mu, St (fun b => b < w.heap.size) w' p (newXS mu) → Kp (fun _ => False) w w' → R (.returned (.pointer (some ⟨p, 0, none⟩))) w') :
    Calls Tryd.prog 25 #[] w R := by
  refine new_any' w _ rfl (fun w3 k3 s3 b0 b1 b2 b5 b3 b4 => hR w3 _ (w.heap.size + 4) ⟨fun b => if b = w.heap.size then ⟨2, 3, 0, eb⟩ else if b = w.heap.size + 1 then ⟨2, 4, 0, eb⟩ else if b = w.heap.size + 2 then ⟨2, 2, 0, eb⟩ else if b = w.heap.size + 3 then ⟨2, 1, 0, eb⟩ else if b = w.heap.size + 4 then ⟨2, 10, 0, eb⟩ else if b = w.heap.size + 5 then ⟨2, 0, 0, eb⟩ else ⟨0, 9, 0, eb⟩, x_new w.heap.size b0 b1 b2 b5 b3 b4 (by simp) (by simp) (by simp) (by simp) (by simp) (by simp), fun b hb => ⟨by omega, ?_⟩, hT.kept k3, ?_⟩ k3)
  · rw [if_neg (by omega), if_neg (by omega), if_neg (by omega), if_neg (by omega), if_neg (by omega), if_neg (by omega)]
    simp
  · have h0 := hT.lt
    unfold TabN
    simp only []
    rw [if_neg (by omega), if_neg (by omega), if_neg (by omega), if_neg (by omega), if_neg (by omega), if_neg (by omega), if_neg (by omega), if_neg (by omega), if_neg (by omega), if_neg (by omega), if_neg (by omega), if_neg (by omega)]
    simp

end

end Go.Proofs.YthbdpfccfcceiaaDoor
