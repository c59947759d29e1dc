/-
  A store in memory, the blocks that bear it left unsaid; and which blocks are not its own.
  A new store.
  Whether a store could write a record next: mayFollow.
  Commit of a store: overtaken; no more room.
-/
import Derived.Test.YthbdpfccfcceiaaGreatDoorJ1F4
import Derived.Test.YthbdpfccfcceiaaGreatDoorL1L2
import Derived.Test.YthbdpfccfcceiaaGreatDoorF18
import Derived.Test.YthbdpfccfcceiaaGreatDoorJ3
import Derived.Test.YthbdpfccfcceiaaGreatDoorC2J2
namespace Go.Proofs.YthbdpfccfcceiaaGreatDoor
open Go.RowKit

def XE (own : Nat → Lab) (c : Nat) (w : World) (p : Nat) (s : XS) : Prop := ∃ mo ph mv mm pt mw sl, XR own c w p s mo ph mv mm pt mw sl

section
variable {own own' : Nat → Lab} {c : Nat} {w w' : World} {p : Nat} {s s' : XS} {N M : Nat → Prop}

theorem XE.frame (h : XE own c w p s) (hb : ∀ b, b < w.heap.size → (own b).c = c → w'.heap[b]? = w.heap[b]?) (ho : ∀ b, b < w.heap.size → (own b).c = c → own' b = own b) : XE own' c w' p s := by
  obtain ⟨mo, ph, mv, mm, pt, mw, sl, h⟩ := h
  exact ⟨mo, ph, mv, mm, pt, mw, sl, h.frame hb ho⟩

/-- A store, and blocks that are not its own. -/
structure Ns (N : Nat → Prop) (own : Nat → Lab) (w : World) : Prop where
  out : ∀ b, N b → b < w.heap.size ∧ (own b).c ≠ 2
  tab : Tab w
  tabN : TabN own 2
def St (N : Nat → Prop) (w : World) (p : Nat) (s : XS) : Prop := ∃ own, XE own 2 w p s ∧ Ns N own w

theorem St.read (h : St N w p s) (k : Kp (fun _ => False) w w') (hM : ∀ b, M b → N b ∨ (w.heap.size ≤ b ∧ b < w'.heap.size)) : St M w' p s := by
  obtain ⟨own, hx, hN⟩ := h
  refine ⟨fun b => if b < w.heap.size then own b else ⟨0, 9, 0, eb⟩, hx.frame (fun b hb _ => k.block b hb (fun e => e)) (fun b hb _ => by simp [hb]), fun b hb => ?_, hN.tab.kept k, by unfold TabN; simp only [hN.tab.lt.1, hN.tab.lt.2, if_true]; exact hN.tabN⟩
  rcases hM b hb with h1 | ⟨h1, h2⟩
  · have h2 := hN.out b h1
    have := k.size
    refine ⟨by omega, ?_⟩
    simp only [h2.1, if_true]
    exact h2.2
  · refine ⟨h2, ?_⟩
    have : ¬ b < w.heap.size := by omega
    simp [this]

theorem St.kept (h : St N w p s) (k : Kp (fun _ => False) w w') : St N w' p s := h.read k (fun _ h => Or.inl h)

theorem St.up (_hx : XE own 2 w p s) (hN : Ns N own w) (k : Kp (fun b => (own b).c = 2) w w') (ho : ∀ b, b < w.heap.size → own' b = own b) (hx' : XE own' 2 w' p s') : St N w' p s' ∧ Kp (fun b => ¬ N b) w w' := by
  refine ⟨⟨own', hx', fun b hb => ?_, hN.tab.kp k hN.tabN.1 hN.tabN.2, by unfold TabN; rw [ho 0 hN.tab.lt.1, ho 1 hN.tab.lt.2]; exact hN.tabN⟩, k.mono (fun b _ e hn => (hN.out b hn).2 e)⟩
  have h1 := hN.out b hb
  have := k.size
  refine ⟨by omega, ?_⟩
  rw [ho b h1.1]; exact h1.2

end

end Go.Proofs.YthbdpfccfcceiaaGreatDoor

namespace Go.Proofs.YthbdpfccfcceiaaGreatDoor
open Go.RowKit

section
variable {own : Nat → Lab} {c : Nat} {w w' : World}
variable {R : Ending → World → Prop}

/-- A store that New gave lies in its six blocks. -/
theorem x_new (s : Nat) (hm0 : w'.heap[s]? = some (.map #[] 0)) (hm1 : w'.heap[s + 1]? = some (.map #[] 0)) (hm2 : w'.heap[s + 3]? = some (.map #[] 0)) (hm3 : w'.heap[s + 4]? = some (.map #[] 0))
    (hh : w'.heap[s + 2]? = some (.cells #[.map (some s), .map (some (s + 1))] 209 (0, 0)))
    (hs : w'.heap[s + 5]? = some (.cells (newCells (s + 3) (s + 2) (s + 4)) 102 (0, 0)))
    (o0 : own s = ⟨c, 3, 0, eb⟩) (o1 : own (s + 1) = ⟨c, 4, 0, eb⟩) (o2 : own (s + 2) = ⟨c, 2, 0, eb⟩) (o3 : own (s + 3) = ⟨c, 1, 0, eb⟩) (o4 : own (s + 4) = ⟨c, 10, 0, eb⟩) (o5 : own (s + 5) = ⟨c, 0, 0, eb⟩) : XE own c w' (s + 5) (newXS (s + 4)) := by
  have f : ∀ (k : TypeId) (b : Nat), w'.heap[b]? = some (.map #[] 0) → fmap w' Tryz.prog k b 0 (fun _ => none) := fun k b hb => by
    have hlt := block_lt hb
    have hz : ({ w' with heap := w'.heap.extract 0 b } : World).heap.size = b := by simp; omega
    have h := fmap_made ({ w' with heap := w'.heap.extract 0 b } : World) Tryz.prog k
    have hn := heap_alloc_new ({ w' with heap := w'.heap.extract 0 b } : World) (.map #[] 0)
    rw [hz] at h hn
    exact h.of_block (hb.trans hn.symm)
  refine ⟨s + 3, s + 2, s, s + 1, fun _ => 0, fun _ => 0, fun _ => .slice none 0 0, o5, o3, o2, o0, o1, hs, hh, ?_, ?_, ?_, ?_, ?_, ?_, ?_, ?_, ⟨fun b e => by simp [newXS, Value.ownBlock] at e, World.ownsRow_nil _ _ _ _, fun i v hv => by simp [newXS] at hv, fun i v f hv => by simp [newXS] at hv⟩, ⟨o4, ?_, fun n b e => (by cases e), fun n b e => (by cases e)⟩⟩
  · refine (show (encI fun n => ((newXS (s + 4)).txs n).map fun _ => Value.pointer (some ⟨0, 0, none⟩)) = fun _ => none from ?_) ▸ f _ _ hm2
    funext v; unfold encI; split <;> rfl
  · intro n t e; cases e
  · intro n t e; cases e
  · intro n t e; cases e
  · refine (show (encP fun k m => ((newXS (s + 4)).ver k m).map encVer) = fun _ => none from ?_) ▸ f _ _ hm0
    funext v; unfold encP; split
    · split <;> rfl
    · rfl
  · refine (show (encS fun k => if (newXS (s + 4)).mom k = [] then none else some (Value.slice none 0 0)) = fun _ => none from ?_) ▸ f _ _ hm1
    funext v; cases v <;> rfl
  · intro k hk; exact absurd rfl hk
  · intro k hk; exact absurd rfl hk
  · refine (show (encI fun n => ((newXS (s + 4)).bk.un n).map fun b => Value.pointer (some ⟨b.pb, 0, none⟩)) = fun _ => none from ?_) ▸ f _ _ hm3
    funext v; unfold encI; split <;> rfl

theorem heap_push (w : World) (o : Obj) : (w.alloc o).heap = w.heap.push o := rfl

theorem new_any' (w : World) (s : Nat) (hs : w.heap.size = s)
    (hR : ∀ w3, Kp (fun _ => False) w w3 → w3.heap.size = s + 6 → w3.heap[s]? = some (.map #[] 0) → w3.heap[s + 1]? = some (.map #[] 0) → w3.heap[s + 3]? = some (.map #[] 0) → w3.heap[s + 4]? = some (.map #[] 0) →
      w3.heap[s + 2]? = some (.cells #[.map (some s), .map (some (s + 1))] 209 (0, 0)) →
      w3.heap[s + 5]? = some (.cells (newCells (s + 3) (s + 2) (s + 4)) 102 (0, 0)) → R (.returned (.pointer (some ⟨s + 5, 0, none⟩))) w3) :
    Calls Tryz.prog 33 #[] w R := by
  subst hs
  refine new_any w (hR _ ?_ (by simp) ?_ ?_ ?_ ?_ ?_ ?_)
  · exact (((((Kp.alloc _ _ _).trans (Kp.alloc (fun _ => False) _ _) (fun _ _ h => h)).trans (Kp.alloc (fun _ => False) _ _) (fun _ _ h => h)).trans (Kp.alloc (fun _ => False) _ _) (fun _ _ h => h)).trans (Kp.alloc (fun _ => False) _ _) (fun _ _ h => h)).trans (Kp.alloc (fun _ => False) _ _) (fun _ _ h => h)
  all_goals
    simp only [heap_push, Array.getElem?_push, Array.size_push]
    repeat (first | rw [if_pos (by omega)] | rw [if_neg (by omega)])
    exact if_pos trivial

/-- A new store, beside all that was there. -/
theorem e_new (w : World) (hT : Tab w) (hR : ∀ w' p, ∀ mu, St (fun b => b < w.heap.size) w' p (newXS mu) → Kp (fun _ => False) w w' → R (.returned (.pointer (some ⟨p, 0, none⟩))) w') :
    Calls Tryz.prog 33 #[] w R := by
  refine new_any' w _ rfl (fun w3 k3 s3 b0 b1 b2 b5 b3 b4 => hR w3 _ (w.heap.size + 4) ⟨fun b => if b = w.heap.size then ⟨2, 3, 0, eb⟩ else if b = w.heap.size + 1 then ⟨2, 4, 0, eb⟩ else if b = w.heap.size + 2 then ⟨2, 2, 0, eb⟩ else if b = w.heap.size + 3 then ⟨2, 1, 0, eb⟩ else if b = w.heap.size + 4 then ⟨2, 10, 0, eb⟩ else if b = w.heap.size + 5 then ⟨2, 0, 0, eb⟩ else ⟨0, 9, 0, eb⟩, x_new w.heap.size b0 b1 b2 b5 b3 b4 (by simp) (by simp) (by simp) (by simp) (by simp) (by simp), fun b hb => ⟨by omega, ?_⟩, hT.kept k3, ?_⟩ k3)
  · rw [if_neg (by omega), if_neg (by omega), if_neg (by omega), if_neg (by omega), if_neg (by omega), if_neg (by omega)]
    simp
  · have h0 := hT.lt
    unfold TabN
    simp only []
    rw [if_neg (by omega), if_neg (by omega), if_neg (by omega), if_neg (by omega), if_neg (by omega), if_neg (by omega), if_neg (by omega), if_neg (by omega), if_neg (by omega), if_neg (by omega), if_neg (by omega), if_neg (by omega)]
    simp

end

end Go.Proofs.YthbdpfccfcceiaaGreatDoor

namespace Go.Proofs.YthbdpfccfcceiaaGreatDoor
open Go.RowKit Go.Maps Go.Lib

def mayF (s : XS) (k t : Nat) : Bool := if k = 72 then decide (s.hor < (t : Int)) && decide ((t : Int) ≤ s.now) else decide ((t : Int) = s.now + 1) && decide (s.now < 2000)

section
variable {own own' : Nat → Lab} {c : Nat} {w w' : World} {p : Nat} {s : XS} {mo ph mv mm : Nat} {pt mw : Int → Nat} {sl : ByteArray → Value}
variable {R : Ending → World → Prop}

set_option maxRecDepth 20000 in
set_option maxHeartbeats 1000000 in
theorem x_mayFollow (h : XR own c w p s mo ph mv mm pt mw sl) (hn : 0 ≤ s.now ∧ s.now ≤ 2000) (k t : Nat) (hk : k < 256) (a : Option Addr) (n cu : Nat)
    (hR : ∀ w', Kp (fun _ => False) w w' → R (.returned (.bool (mayF s k t))) w') :
    Calls Tryz.prog 76 #[.pointer (some ⟨p, 0, none⟩), .agg #[.int .u8 k, .int .i64 t, .slice a n cu]] w R := by
  have kA := Kp.alloc (fun _ => False) w (.cells #[.int .u8 k, .int .i64 t, .slice a n cu] 110)
  have hA := h.kept kA
  have c1 : (w.alloc (.cells #[.int .u8 k, .int .i64 t, .slice a n cu] 110)).cell? ⟨p, 1, none⟩ = some (.int .i64 s.hor) := cell_of hA.store 1
  have c2 : (w.alloc (.cells #[.int .u8 k, .int .i64 t, .slice a n cu] 110)).cell? ⟨p, 2, none⟩ = some (.int .i64 s.now) := cell_of hA.store 2
  have bA := heap_alloc_new w (.cells #[.int .u8 k, .int .i64 t, .slice a n cu] 110)
  have d0 : (w.alloc (.cells #[.int .u8 k, .int .i64 t, .slice a n cu] 110)).cell? ⟨w.heap.size, 0, none⟩ = some (.int .u8 k) := cell_of bA 0
  have d1 : (w.alloc (.cells #[.int .u8 k, .int .i64 t, .slice a n cu] 110)).cell? ⟨w.heap.size, 1, none⟩ = some (.int .i64 t) := cell_of bA 1
  have hw : IntKind.i64.wrap (s.now + 1) = s.now + 1 := IntWalk.i64_in _ (by omega)
  have hw' : wrap64 (s.now + 1) = s.now + 1 := IntWalk.i64_left _ ▸ hw
  have HR := hid_of hR
  have KA := hid_of kA
  have fin : ∀ b : Bool, mayF s k t = b → ∀ w', Kp (fun _ => False) (w.alloc (.cells #[.int .u8 k, .int .i64 t, .slice a n cu] 110)) w' → R (.returned (.bool b)) w' := fun b e w' k' => e ▸ HR.out w' (KA.out.trans k' (fun _ _ h => h))
  have FIN := hid_of fin
  clear h hR hA kA bA fin
  generalize hAA : w.alloc (.cells #[.int .u8 k, .int .i64 t, .slice a n cu] 110) = A at c1 c2 d0 d1 FIN KA
  have hk' : (k : Int) < 256 := by omega
  by_cases q : k = 72
  · have q' : ((k : Int) == 72) = true := by simp [q]
    by_cases q1 : s.hor < (t : Int)
    · have e1 : decide (s.hor < (t : Int)) = true := by simpa using q1
      by_cases q2 : (t : Int) ≤ s.now
      · have e2 : decide ((t : Int) ≤ s.now) = true := by simpa using q2
        have HF := hid_of (FIN.out true (by simp [mayF, q, q1, q2]))
        clear q q1 q2
        go_enter Tryz.func76, Tryz.ntmps76
        go_wp2_with fail
        go_quiet (fail)
        all_goals go_wp2_with fail
        all_goals exact HF.out _ (Kp.drewN _ _ _)
      · have e2 : decide ((t : Int) ≤ s.now) = false := by simpa using q2
        have HF := hid_of (FIN.out false (by simp [mayF, q, q1, q2]))
        clear q q1 q2
        go_enter Tryz.func76, Tryz.ntmps76
        go_wp2_with fail
        go_quiet (fail)
        all_goals go_wp2_with fail
        all_goals exact HF.out _ (Kp.drewN _ _ _)
    · have e1 : decide (s.hor < (t : Int)) = false := by simpa using q1
      have HF := hid_of (FIN.out false (by simp [mayF, q, q1]))
      clear q q1
      go_enter Tryz.func76, Tryz.ntmps76
      go_wp2_with fail
      go_quiet (fail)
      all_goals go_wp2_with fail
      all_goals exact HF.out _ (Kp.drewN _ _ _)
  · have q' : ((k : Int) == 72) = false := by simp; omega
    by_cases q1 : (t : Int) = s.now + 1
    · have e1 : ((t : Int) == s.now + 1) = true := by simpa using q1
      by_cases q2 : s.now < 2000
      · have e2 : decide (s.now < 2000) = true := by simpa using q2
        have HF := hid_of (FIN.out true (by simp [mayF, q, q1, q2]))
        clear q q1 q2
        go_enter Tryz.func76, Tryz.ntmps76
        go_wp2_with fail
        go_quiet (fail)
        all_goals go_wp2_with fail
        all_goals exact HF.out _ (Kp.drewN _ _ _)
      · have e2 : decide (s.now < 2000) = false := by simpa using q2
        have HF := hid_of (FIN.out false (by simp [mayF, q, q1, q2]))
        clear q q1 q2
        go_enter Tryz.func76, Tryz.ntmps76
        go_wp2_with fail
        go_quiet (fail)
        all_goals go_wp2_with fail
        all_goals exact HF.out _ (Kp.drewN _ _ _)
    · have e1 : ((t : Int) == s.now + 1) = false := by simpa using q1
      have HF := hid_of (FIN.out false (by simp [mayF, q, q1]))
      clear q q1
      go_enter Tryz.func76, Tryz.ntmps76
      go_wp2_with fail
      go_quiet (fail)
      all_goals go_wp2_with fail
      all_goals exact HF.out _ (Kp.drewN _ _ _)

end

end Go.Proofs.YthbdpfccfcceiaaGreatDoor

namespace Go.Proofs.YthbdpfccfcceiaaGreatDoor
open Go.RowKit Go.Maps

section
variable {own own' : Nat → Lab} {c : Nat} {w w' : World} {p : Nat} {s : XS} {mo ph mv mm : Nat} {pt mw : Int → Nat} {sl : ByteArray → Value}
variable {R : Ending → World → Prop}

set_option maxRecDepth 20000 in
set_option maxHeartbeats 400000 in
theorem x_commit_over (h : XR own c w p s mo ph mv mm pt mw sl) (tx : Int) (hwx : (Lit.int .i64 tx).wf = true) (t : XT) (e : s.txs tx = some t) (hnw : 0 < t.nw) (hkeys : ∀ k, (t.wr k).isSome = true → k.size ≤ 8) (hmom : ∀ k, (s.mom k).length < 1000000) (hov : overt s t)
    (hR : ∀ w', Kp (fun b => (own b).c = c) w w' → XR own c w' p { s with txs := updI s.txs tx none, nopen := s.nopen - 1 } mo ph mv mm pt mw sl → R (.returned (.tuple #[.int .i64 0, .int .i64 4])) w') :
    Calls Tryz.prog 36 #[.pointer (some ⟨p, 0, none⟩), .int .i64 tx] w R := by
  have hkey : Hid _ := keyOf_int_mk Tryz.underlying3 hwx
  have c2 : w.cell? ⟨p, 7, none⟩ = some (.map (some mo)) := cell_of h.store 7
  have d1 : w.cell? ⟨pt tx, 1, none⟩ = some (.map (some (mw tx))) := cell_of (h.tx tx t e) 1
  have hw := h.wr tx t e
  have hf : (encI fun n => (s.txs n).map fun _ => Value.pointer (some ⟨pt n, 0, none⟩)) (.int .i64 tx) = some (.pointer (some ⟨pt tx, 0, none⟩)) := by rw [encI_at, e]; rfl
  have H : Hid (XR own c w p s mo ph mv mm pt mw sl) := h
  have hopn := h.opn
  have HR : Hid _ := hR
  have hg : Hid _ := gone_opn s tx pt
  have hn : (t.nw : Int) ≠ 0 := by omega
  have hn' : ((t.nw : Int) == 0) = false := by simpa using hn
  clear h hR hnw hn
  go_enter Tryz.func36, Tryz.ntmps36
  go_wp2_with (first
    | (at_lookup; refine wpL_lookup_ok _ rfl _ _ 99 rfl 3 129 kInt Tryz.underlying99 (zTxP _) mo s.nopen _ rfl hopn (.int .i64 tx) _ rfl hkey.out _ hf ?_)
    | (at_len; refine wpL_len _ rfl _ 130 rfl 9 138 Tryz.underlying130 (mw tx) t.nw _ rfl hw ?_)
    | (go_at_call 71; refine x_overtaken H.out tx t e hkeys hmom (fun hno => absurd hov hno) (fun _ w1 hk1 => ?_); have H1 : Hid (XR own c w1 p s mo ph mv mm pt mw sl) := H.out.kept hk1; have hopn1 := H1.out.opn; have c2' : w1.cell? ⟨p, 7, none⟩ = some (.map (some mo)) := cell_of H1.out.store 7)
    | (at_delete; refine wpL_delete _ rfl _ _ 99 3 rfl 129 kInt Tryz.underlying99 mo s.nopen _ rfl hopn1 (.int .i64 tx) _ rfl hkey.out hg.out ?_; intro w2 hown2 hturn2)
    | go_in)
  rw [hf] at hown2
  exact HR.out w2 ((hk1.own_of (fun _ h => h.elim)).trans (Kp.of_turned (S := fun b => (own b).c = c) hturn2 (by rw [H.out.ownO])) (fun _ _ h => h)) (H1.out.reopen (fun b hb => mapTurned_block hturn2 b hb) _ _ hown2 sub_upd)

set_option maxRecDepth 20000 in
set_option maxHeartbeats 400000 in
theorem x_commit_full (h : XR own c w p s mo ph mv mm pt mw sl) (tx : Int) (hwx : (Lit.int .i64 tx).wf = true) (t : XT) (e : s.txs tx = some t) (hnw : 0 < t.nw) (hkeys : ∀ k, (t.wr k).isSome = true → k.size ≤ 8) (hmom : ∀ k, (s.mom k).length < 1000000) (hov : ¬ overt s t) (hnow : 2000 ≤ s.now)
    (hR : ∀ w', Kp (fun _ => False) w w' → R (.returned (.tuple #[.int .i64 0, .int .i64 3])) w') :
    Calls Tryz.prog 36 #[.pointer (some ⟨p, 0, none⟩), .int .i64 tx] w R := by
  have hkey : Hid _ := keyOf_int_mk Tryz.underlying3 hwx
  have c2 : w.cell? ⟨p, 7, none⟩ = some (.map (some mo)) := cell_of h.store 7
  have d1 : w.cell? ⟨pt tx, 1, none⟩ = some (.map (some (mw tx))) := cell_of (h.tx tx t e) 1
  have hw := h.wr tx t e
  have hf : (encI fun n => (s.txs n).map fun _ => Value.pointer (some ⟨pt n, 0, none⟩)) (.int .i64 tx) = some (.pointer (some ⟨pt tx, 0, none⟩)) := by rw [encI_at, e]; rfl
  have H : Hid (XR own c w p s mo ph mv mm pt mw sl) := h
  have hopn := h.opn
  have HR : Hid _ := hR
  have hn : (t.nw : Int) ≠ 0 := by omega
  have hn' : ((t.nw : Int) == 0) = false := by simpa using hn
  clear h hR hnw hn
  go_enter Tryz.func36, Tryz.ntmps36
  go_wp2_with (first
    | (at_lookup; refine wpL_lookup_ok _ rfl _ _ 99 rfl 3 129 kInt Tryz.underlying99 (zTxP _) mo s.nopen _ rfl hopn (.int .i64 tx) _ rfl hkey.out _ hf ?_)
    | (at_len; refine wpL_len _ rfl _ 130 rfl 9 138 Tryz.underlying130 (mw tx) t.nw _ rfl hw ?_)
    | (go_at_call 71; refine x_overtaken H.out tx t e hkeys hmom (fun _ w1 hk1 => ?_) (fun ho => absurd ho hov); have c0' : w1.cell? ⟨p, 2, none⟩ = some (.int .i64 s.now) := cell_of (H.out.kept hk1).store 2)
    | go_in)
  exact HR.out w1 hk1

end

end Go.Proofs.YthbdpfccfcceiaaGreatDoor
