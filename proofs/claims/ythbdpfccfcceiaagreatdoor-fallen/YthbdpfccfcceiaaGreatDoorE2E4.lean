/-
  The calls of one store, the blocks that bear it left unsaid: what they answer, what the store is behind them, and that what is not its own stays.
  The law's commits: an act is committed as the next moment.
-/
import Derived.Test.YthbdpfccfcceiaaGreatDoorF27V1E3
import Derived.Test.YthbdpfccfcceiaaGreatDoorZ1Z2F19C3
import Derived.Test.YthbdpfccfcceiaaGreatDoorC4E1
import Derived.Deep.RegionHeld3
namespace Go.Proofs.YthbdpfccfcceiaaGreatDoor
open Go.RowKit Go.Maps

section
variable {N : Nat → Prop} {w : World} {p : Nat} {s : XS}
variable {R : Ending → World → Prop}

theorem e_now (h : St N w p s) (hR : R (.returned (.int .i64 s.now)) w) : Calls Tryz.prog 15 #[.pointer (some ⟨p, 0, none⟩)] w R := by
  obtain ⟨own, ⟨mo, ph, mv, mm, pt, mw, sl, h⟩, hN⟩ := h
  exact x_now h hR

theorem e_begin (h : St N w p s) (ok : XOk s) (hb : s.begun < 1000000000) (h8 : s.nopen < 8)
    (hR : ∀ w', St N w' p { s with begun := s.begun + 1, txs := updI s.txs (s.begun + 1) (some ⟨s.now, fun _ => none, 0⟩), nopen := s.nopen + 1 } → Kp (fun b => ¬ N b) w w' → R (.returned (.tuple #[.int .i64 (s.begun + 1), .int .i64 0])) w') :
    Calls Tryz.prog 34 #[.pointer (some ⟨p, 0, none⟩)] w R := by
  obtain ⟨own, ⟨mo, ph, mv, mm, pt, mw, sl, h⟩, hN⟩ := h
  refine x_begin h ok.begun (by omega) ok.newTx (fun h0 => by omega) (fun _ w' own' k ho _ hx => ?_)
  have h1 := St.up ⟨mo, ph, mv, mm, pt, mw, sl, h⟩ hN k ho ⟨_, _, _, _, _, _, _, hx⟩
  exact hR w' h1.1 h1.2

/-- What the law's writes gives a key. -/
def vOf (v : ByteArray) : ByteArray × Bool := if v.size = 0 then (eb, true) else (v, false)

theorem e_put (h : St N w p s) (ok : XOk s) {tx : Int} (hwx : (Lit.int .i64 tx).wf = true) {t t' : XT} (e : s.txs tx = some t) (key v : ByteArray) (hk : isKey key = true) (hv : v.size ≤ 20) (hw : wrote t key (v, false) = some t')
    (hR : ∀ w', St N w' p { s with txs := updI s.txs tx (some t') } → Kp (fun b => ¬ N b) w w' → R (.returned (.int .i64 0)) w') :
    Calls Tryz.prog 35 #[.pointer (some ⟨p, 0, none⟩), .int .i64 tx, .string key, .string v] w R := by
  obtain ⟨own, ⟨mo, ph, mv, mm, pt, mw, sl, h⟩, hN⟩ := h
  have hk8 := isKey_le key hk
  have hb : (isKey key && decide (v.size ≤ 20)) = true := by simp [hk, hv]
  refine x_put h tx hwx key v (by unfold maxLen; omega) (by unfold maxLen; omega) (fun n t e => (ok.tx n t e).nw) (fun h0 => by rw [e] at h0; cases h0) (fun _ _ h0 => by rw [hb] at h0; cases h0) (fun t1 e1 _ h0 => ?_) (fun t1 t1' e1 _ h0 w' k hx => ?_)
  · rw [e] at e1; cases e1; rw [hw] at h0; cases h0
  · rw [e] at e1; cases e1; rw [hw] at h0; cases h0
    have h1 := St.up ⟨mo, ph, mv, mm, pt, mw, sl, h⟩ hN k (fun _ _ => rfl) ⟨_, _, _, _, _, _, _, hx⟩
    exact hR w' h1.1 h1.2

theorem e_delete (h : St N w p s) (ok : XOk s) {tx : Int} (hwx : (Lit.int .i64 tx).wf = true) {t t' : XT} (e : s.txs tx = some t) (key : ByteArray) (hk : isKey key = true) (hw : wrote t key (eb, true) = some t')
    (hR : ∀ w', St N w' p { s with txs := updI s.txs tx (some t') } → Kp (fun b => ¬ N b) w w' → R (.returned (.int .i64 0)) w') :
    Calls Tryz.prog 73 #[.pointer (some ⟨p, 0, none⟩), .int .i64 tx, .string key] w R := by
  obtain ⟨own, ⟨mo, ph, mv, mm, pt, mw, sl, h⟩, hN⟩ := h
  have hk8 := isKey_le key hk
  refine x_delete h tx hwx key (by unfold maxLen; omega) (fun n t e => (ok.tx n t e).nw) (fun h0 => by rw [e] at h0; cases h0) (fun _ _ h0 => by rw [hk] at h0; cases h0) (fun t1 e1 _ h0 => ?_) (fun t1 t1' e1 _ h0 w' k hx => ?_)
  · rw [e] at e1; cases e1; rw [hw] at h0; cases h0
  · rw [e] at e1; cases e1; rw [hw] at h0; cases h0
    have h1 := St.up ⟨mo, ph, mv, mm, pt, mw, sl, h⟩ hN k (fun _ _ => rfl) ⟨_, _, _, _, _, _, _, hx⟩
    exact hR w' h1.1 h1.2

set_option maxRecDepth 20000 in
set_option maxHeartbeats 400000 in
theorem e_writes (h : St N w p s) (ok : XOk s) {tx : Int} (hwx : (Lit.int .i64 tx).wf = true) {t t' : XT} (e : s.txs tx = some t) (key v : ByteArray) (hk : isKey key = true) (hv : v.size ≤ 20) (hw : wrote t key (vOf v) = some t')
    (hR : ∀ w', St N w' p { s with txs := updI s.txs tx (some t') } → Kp (fun b => ¬ N b) w w' → R (.returned (.int .i64 0)) w') :
    Calls Tryz.prog 37 #[.pointer (some ⟨p, 0, none⟩), .int .i64 tx, .string key, .string v] w R := by
  by_cases h0 : v.size = 0
  · have ev0 : v.data.toList = [] := List.eq_nil_of_length_eq_zero (by simpa using h0)
    have ev : v = ⟨#[]⟩ := WideShapes.bytes_inj (by simpa using ev0)
    clear ev0
    rw [vOf, if_pos h0] at hw
    have hc := hid_of (fun (R : Ending → World → Prop) => e_delete (R := R) h ok hwx e key hk hw)
    have HR := hid_of hR
    clear hR h ok hw hv h0 hwx e hk
    subst ev
    go_enter Tryz.func37, Tryz.ntmps37
    go_wp2_with (first
      | (go_at_call 73; refine hc.out _ (fun w1 h1 k1 => ?_); have H1 := hid_of h1; have K1 := hid_of k1; clear h1 k1)
      | go_in)
    exact HR.out w1 H1.out K1.out
  · rw [vOf, if_neg h0] at hw
    have hc := hid_of (fun (R : Ending → World → Prop) => e_put (R := R) h ok hwx e key v hk hv hw)
    have HR := hid_of hR
    have d0 : v.toList.isEmpty = false := by
      rw [Lib.toList_data]
      cases hd : v.data.toList with
      | nil => exact absurd (by have := congrArg List.length hd; simpa using this) h0
      | cons _ _ => rfl
    clear hR h ok hw hv hwx e hk
    go_enter Tryz.func37, Tryz.ntmps37
    go_wp2_with (first
      | (go_at_call 35; refine hc.out _ (fun w1 h1 k1 => ?_); have H1 := hid_of h1; have K1 := hid_of k1; clear h1 k1)
      | go_in)
    exact HR.out w1 H1.out K1.out

theorem e_commit_none (h : St N w p s) {tx : Int} (hwx : (Lit.int .i64 tx).wf = true) (e : s.txs tx = none) (hR : R (.returned (.tuple #[.int .i64 0, .int .i64 2])) w) :
    Calls Tryz.prog 36 #[.pointer (some ⟨p, 0, none⟩), .int .i64 tx] w R := by
  obtain ⟨own, ⟨mo, ph, mv, mm, pt, mw, sl, h⟩, hN⟩ := h
  exact commit_none p mo s.nopen _ tx w (cell_of h.store 7) h.opn hwx (by rw [encI_at, e]; rfl) hR

theorem e_commit_over (h : St N w p s) (ok : XOk s) {tx : Int} (hwx : (Lit.int .i64 tx).wf = true) {t : XT} (e : s.txs tx = some t) (hov : overt s t)
    (hR : ∀ w', St N w' p { s with txs := updI s.txs tx none, nopen := s.nopen - 1 } → Kp (fun b => ¬ N b) w w' → R (.returned (.tuple #[.int .i64 0, .int .i64 4])) w') :
    Calls Tryz.prog 36 #[.pointer (some ⟨p, 0, none⟩), .int .i64 tx] w R := by
  obtain ⟨own, ⟨mo, ph, mv, mm, pt, mw, sl, h⟩, hN⟩ := h
  have hnw : 0 < t.nw := by obtain ⟨k, hk, _⟩ := hov; exact (ok.tx tx t e).pos k hk
  refine x_commit_over h tx hwx t e hnw (ok.keysW e) (fun k => by have := ok.len k; omega) hov (fun w' k hx => ?_)
  have h1 := St.up ⟨mo, ph, mv, mm, pt, mw, sl, h⟩ hN k (fun _ _ => rfl) ⟨_, _, _, _, _, _, _, hx⟩
  exact hR w' h1.1 h1.2

theorem e_commit_good (h : St N w p s) (ok : XOk s) {tx : Int} (hwx : (Lit.int .i64 tx).wf = true) {t : XT} (e : s.txs tx = some t) (hnw : 0 < t.nw) (hov : ¬ overt s t) (hn : s.now < 2000)
    (hR : ∀ w' nv nm l, LogC s t.wr l → St N w' p (commd { s with log := l } t.wr (updI s.txs tx none) (s.nopen - 1) nv nm) → XOk (commd { s with log := l } t.wr (updI s.txs tx none) (s.nopen - 1) nv nm) → Kp (fun b => ¬ N b) w w' → R (.returned (.tuple #[.int .i64 (s.now + 1), .int .i64 0])) w') :
    Calls Tryz.prog 36 #[.pointer (some ⟨p, 0, none⟩), .int .i64 tx] w R := by
  obtain ⟨own, ⟨mo, ph, mv, mm, pt, mw, sl, h⟩, hN⟩ := h
  have h10 := (ok.tx tx t e).nw
  have b1 := ok.nv
  have b2 := ok.nm
  have b3 := ok.now
  have b4 := ok.lgl
  have b5 := ok.hor
  refine x_commit_good h hN.tab hN.tabN tx hwx t e hnw h10 (ok.keysW e) (ok.tx tx t e).vals (fun k => by have := ok.len k; omega) hov ⟨b3.1, hn⟩ (by omega) (by omega) (by omega) ok.lgb (fun w' own' sl' nv nm l ws k ho hv hm hws hwl hlg hsy hx => ?_)
  have hl : LogC s t.wr l := ⟨ws, hws, by omega, hlg, hsy⟩
  have hx : XR own' 2 w' p (commd { s with log := l } t.wr (updI s.txs tx none) (s.nopen - 1) nv nm) mo ph mv mm pt mw sl' := by rw [← comm_eq]; exact hx
  have h1 := St.up ⟨mo, ph, mv, mm, pt, mw, sl, h⟩ hN k ho ⟨_, _, _, _, _, _, _, hx⟩
  exact hR w' nv nm l hl h1.1 (ok.commit e hn hv hm _ hl) h1.2

theorem e_asof (h : St N w p s) (ok : XOk s) (t : Int) (key : ByteArray) (hk : isKey key = true) (h1 : s.hor ≤ t) (h2 : t ≤ s.now)
    (h4 : (valAt s key t).2 = false → ∀ w', Kp (fun _ => False) w w' → R (.returned (.tuple #[.string eb, .int .i64 5])) w')
    (h5 : (valAt s key t).2 = true → ∀ w', Kp (fun _ => False) w w' → R (.returned (.tuple #[.string (valAt s key t).1, .int .i64 0])) w') :
    Calls Tryz.prog 29 #[.pointer (some ⟨p, 0, none⟩), .int .i64 t, .string key] w R := by
  obtain ⟨own, ⟨mo, ph, mv, mm, pt, mw, sl, h⟩, hN⟩ := h
  have hk8 := isKey_le key hk
  refine x_asof t key (x_asof0 h t key (by unfold maxLen; omega) ok.momOk (fun h0 => by rw [hk] at h0; cases h0) (fun _ h0 => by omega) (fun _ _ h0 => by omega) (fun _ _ _ hv w' k => ⟨_, _, rfl, h4 hv w' k⟩) (fun _ _ _ hv w' k => ⟨_, _, rfl, h5 hv w' k⟩))

end

end Go.Proofs.YthbdpfccfcceiaaGreatDoor

namespace Go.Proofs.YthbdpfccfcceiaaGreatDoor
open Go.RowKit

def actV (a1 a2 a3 : Int) : Value := .agg #[.int .i64 a1, .int .i64 a2, .int .i64 a3]
def I64 (a : Int) : Prop := -9223372036854775808 ≤ a ∧ a ≤ 9223372036854775807
def ActAt (w : World) (A : Nat) (a1 a2 a3 : Int) : Prop := w.heap[A]? = some (.cells #[.int .i64 a1, .int .i64 a2, .int .i64 a3] 31 (0, 0))

theorem ActAt.cell {w : World} {A : Nat} {a1 a2 a3 : Int} (h : ActAt w A a1 a2 a3) : w.cell? ⟨A, 0, none⟩ = some (.int .i64 a1) ∧ w.cell? ⟨A, 1, none⟩ = some (.int .i64 a2) ∧ w.cell? ⟨A, 2, none⟩ = some (.int .i64 a3) := by
  unfold ActAt at h
  simp [World.cell?, h]
theorem ActAt.kp {w w' : World} {A : Nat} {a1 a2 a3 : Int} (h : ActAt w A a1 a2 a3) (k : Kp (fun _ => False) w w') : ActAt w' A a1 a2 a3 := (k.block A (Array.getElem?_eq_some_iff.1 h).1 (fun e => e)).trans h

theorem kp_draws {w w' : World} (h : w' = w ∨ w' = w.drew ∨ ∃ q, w' = w.drewN q) : Kp (fun _ => False) w w' := by
  rcases h with rfl | rfl | ⟨q, rfl⟩
  · exact Kp.refl _ _
  · exact Kp.drew _ _
  · exact Kp.drewN _ _ _

theorem tdiv_i64 {a n : Int} (h : I64 a) (hn : 0 < n) : I64 (a.tdiv n) := by
  unfold I64 at h ⊢
  rcases Int.le_total 0 a with h0 | h0
  · rw [Int.tdiv_eq_ediv_of_nonneg h0]
    have h1 := Int.ediv_nonneg h0 (Int.le_of_lt hn)
    have h2 := Int.ediv_le_self n h0
    omega
  · have e : a.tdiv n = -((-a) / n) := by
      rw [← Int.tdiv_eq_ediv_of_nonneg (by omega : (0 : Int) ≤ -a), Int.neg_tdiv]
      omega
    have h1 := Int.ediv_nonneg (by omega : (0 : Int) ≤ -a) (Int.le_of_lt hn)
    have h2 := Int.ediv_le_self n (by omega : (0 : Int) ≤ -a)
    rw [e]
    omega

section
variable {R : Ending → World → Prop}

set_option maxRecDepth 20000 in
set_option maxHeartbeats 1000000 in
theorem commits_one (w : World) (p : Nat) (a1 a2 a3 : Int) (h1 : I64 a1) (h2 : I64 a2) (h3 : I64 a3) (ho : pk a3 3 ≠ 0)
    (H : ∀ w0, Kp (fun _ => False) w w0 → ActAt w0 w.heap.size a1 a2 a3 → Calls Tryz.prog 15 #[.pointer (some ⟨p, 0, none⟩)] w0 fun r w1 => ∃ now : Int, r = .returned (.int .i64 now) ∧ 0 ≤ now ∧ now < 1000000 ∧
      Calls Tryz.prog 34 #[.pointer (some ⟨p, 0, none⟩)] w1 fun r w2 => ∃ tx : Int, r = .returned (.tuple #[.int .i64 tx, .int .i64 0]) ∧ ActAt w2 w.heap.size a1 a2 a3 ∧
      ∀ w3, Kp (fun _ => False) w2 w3 → Calls Tryz.prog 37 #[.pointer (some ⟨p, 0, none⟩), .int .i64 tx, .string (keyN a1), .string (valN a2)] w3 fun r w4 => r = .returned (.int .i64 0) ∧ ActAt w4 w.heap.size a1 a2 a3 ∧
      Calls Tryz.prog 36 #[.pointer (some ⟨p, 0, none⟩), .int .i64 tx] w4 fun r w5 => r = .returned (.tuple #[.int .i64 (now + 1), .int .i64 0]) ∧
      Calls Tryz.prog 15 #[.pointer (some ⟨p, 0, none⟩)] w5 fun r w6 => r = .returned (.int .i64 (now + 1)) ∧ R (.returned (.bool true)) w6) :
    Calls Tryz.prog 12 #[.pointer (some ⟨p, 0, none⟩), actV a1 a2 a3] w R := by
  have HH := hid_of H
  have B1 := hid_of h1
  have B2 := hid_of h2
  have B3 := hid_of h3
  have d3 : (pk a3 3 == 0) = false := by simpa using ho
  clear H h1 h2 h3 ho
  unfold actV
  go_enter Tryz.func12, Tryz.ntmps12
  go_wp2_with (first
    | (go_at_call 15; refine Calls.mono (HH.out _ (Kp.alloc _ _ _) (heap_alloc_new _ _)) ?_; rintro r w1 ⟨now, rfl, n0, n1, hn⟩; have HN := hid_of hn; clear hn)
    | (go_at_call 34; refine Calls.mono HN.out ?_; rintro r w2 ⟨tx, rfl, ha, hn⟩; have HB := hid_of hn; have HA := hid_of ha; obtain ⟨q0, q1, q2⟩ := ha.cell; clear hn ha)
    | go_in)
  go_region_held3 (fun w' => w'.cell? ⟨w.heap.size, 0, none⟩ = some (.int .i64 a1) ∧ w'.cell? ⟨w.heap.size, 1, none⟩ = some (.int .i64 a2)) (go_keep) (first
    | (go_at_call 38; refine key_any _ _ B1.out (fun w3 k3 => ?_); have k23 := Kp.trans (kp_draws (w := w2) (by simp)) k3 (fun _ _ h => h); obtain ⟨z0, z1, _⟩ := (HA.out.kp k23).cell; have HK := hid_of k23; clear k3 k23)
    | (go_at_call 39; refine value_any _ _ B2.out ?_)
    | (go_at_call 37; refine Calls.mono (HB.out _ (Kp.trans HK.out (kp_draws (by simp)) (fun _ _ h => h))) ?_; rintro r w4 ⟨rfl, ha, hn⟩; have HW := hid_of hn; obtain ⟨z0, z1, z2⟩ := ha.cell; clear hn ha))
  all_goals
    go_wp2_with (first
      | (go_at_call 13; refine pick_any _ _ _ B3.out (by decide) ?_)
      | (go_at_call 36; refine Calls.mono HW.out ?_; rintro r w5 ⟨rfl, hn⟩; have HC := hid_of hn; clear hn)
      | (go_at_call 15; refine Calls.mono HC.out ?_; rintro r w6 ⟨rfl, hn⟩; have HL := hid_of hn; clear hn)
      | go_in)
    exact HL.out

set_option maxRecDepth 20000 in
set_option maxHeartbeats 1000000 in
theorem commits_two (w : World) (p : Nat) (a1 a2 a3 : Int) (h1 : I64 a1) (h2 : I64 a2) (h3 : I64 a3) (ho : pk a3 3 = 0)
    (H : ∀ w0, Kp (fun _ => False) w w0 → ActAt w0 w.heap.size a1 a2 a3 → Calls Tryz.prog 15 #[.pointer (some ⟨p, 0, none⟩)] w0 fun r w1 => ∃ now : Int, r = .returned (.int .i64 now) ∧ 0 ≤ now ∧ now < 1000000 ∧
      Calls Tryz.prog 34 #[.pointer (some ⟨p, 0, none⟩)] w1 fun r w2 => ∃ tx : Int, r = .returned (.tuple #[.int .i64 tx, .int .i64 0]) ∧ ActAt w2 w.heap.size a1 a2 a3 ∧
      ∀ w3, Kp (fun _ => False) w2 w3 → Calls Tryz.prog 37 #[.pointer (some ⟨p, 0, none⟩), .int .i64 tx, .string (keyN a1), .string (valN a2)] w3 fun r w4 => r = .returned (.int .i64 0) ∧ ActAt w4 w.heap.size a1 a2 a3 ∧
      ∀ w3, Kp (fun _ => False) w4 w3 → Calls Tryz.prog 37 #[.pointer (some ⟨p, 0, none⟩), .int .i64 tx, .string (keyN (a3.tdiv 3)), .string (valN (a3.tdiv 18))] w3 fun r w4 => r = .returned (.int .i64 0) ∧ ActAt w4 w.heap.size a1 a2 a3 ∧
      Calls Tryz.prog 36 #[.pointer (some ⟨p, 0, none⟩), .int .i64 tx] w4 fun r w5 => r = .returned (.tuple #[.int .i64 (now + 1), .int .i64 0]) ∧
      Calls Tryz.prog 15 #[.pointer (some ⟨p, 0, none⟩)] w5 fun r w6 => r = .returned (.int .i64 (now + 1)) ∧ R (.returned (.bool true)) w6) :
    Calls Tryz.prog 12 #[.pointer (some ⟨p, 0, none⟩), actV a1 a2 a3] w R := by
  have HH := hid_of H
  have B1 := hid_of h1
  have B2 := hid_of h2
  have B3 := hid_of h3
  have HO := hid_of ho
  clear H h1 h2 h3 ho
  unfold actV
  go_enter Tryz.func12, Tryz.ntmps12
  go_wp2_with (first
    | (go_at_call 15; refine Calls.mono (HH.out _ (Kp.alloc _ _ _) (heap_alloc_new _ _)) ?_; rintro r w1 ⟨now, rfl, n0, n1, hn⟩; have HN := hid_of hn; clear hn)
    | (go_at_call 34; refine Calls.mono HN.out ?_; rintro r w2 ⟨tx, rfl, ha, hn⟩; have HB := hid_of hn; have HA := hid_of ha; obtain ⟨q0, q1, q2⟩ := ha.cell; clear hn ha)
    | go_in)
  go_region_held3 (fun w' => w'.cell? ⟨w.heap.size, 0, none⟩ = some (.int .i64 a1) ∧ w'.cell? ⟨w.heap.size, 1, none⟩ = some (.int .i64 a2)) (go_keep) (first
    | (go_at_call 38; refine key_any _ _ B1.out (fun w3 k3 => ?_); have k23 := Kp.trans (kp_draws (w := w2) (by simp)) k3 (fun _ _ h => h); obtain ⟨z0, z1, _⟩ := (HA.out.kp k23).cell; have HK := hid_of k23; clear k3 k23)
    | (go_at_call 39; refine value_any _ _ B2.out ?_)
    | (go_at_call 37; refine Calls.mono (HB.out _ (Kp.trans HK.out (kp_draws (by simp)) (fun _ _ h => h))) ?_; rintro r w4 ⟨rfl, ha, hn⟩; have HW := hid_of hn; have HA4 := hid_of ha; obtain ⟨z0, z1, z2⟩ := ha.cell; clear hn ha))
  all_goals
    have B4 := hid_of (tdiv_i64 B3.out (n := 3) (by decide))
    have B5 := hid_of (tdiv_i64 B3.out (n := 18) (by decide))
    have e3 : IntKind.i64.wrap (a3.tdiv 3) = a3.tdiv 3 := IntWalk.i64_in _ B4.out
    have e18 : IntKind.i64.wrap (a3.tdiv 18) = a3.tdiv 18 := IntWalk.i64_in _ B5.out
    go_wp2_with (first
      | (go_at_call 13; refine pick_any _ _ _ B3.out (by decide) ?_; rw [HO.out])
      | go_in)
    go_region_held3 (fun w' => w'.cell? ⟨w.heap.size, 2, none⟩ = some (.int .i64 a3)) (go_keep) (first
      | (go_at_call 38; refine key_any _ _ B4.out (fun w5 k5 => ?_); have k45 := Kp.trans (kp_draws (w := w4) (by simp)) k5 (fun _ _ h => h); obtain ⟨_, _, z5⟩ := (HA4.out.kp k45).cell; have HK5 := hid_of k45; clear k5 k45)
      | (go_at_call 39; refine value_any _ _ B5.out ?_)
      | (go_at_call 37; refine Calls.mono (HW.out _ (Kp.trans HK5.out (kp_draws (by simp)) (fun _ _ h => h))) ?_; rintro r w6 ⟨rfl, ha, hn⟩; have HW6 := hid_of hn; obtain ⟨_, _, z6⟩ := ha.cell; clear hn ha))
    all_goals
      go_wp2_with (first
        | (go_at_call 36; refine Calls.mono HW6.out ?_; rintro r w7 ⟨rfl, hn⟩; have HC := hid_of hn; clear hn)
        | (go_at_call 15; refine Calls.mono HC.out ?_; rintro r w8 ⟨rfl, hn⟩; have HL := hid_of hn; clear hn)
        | go_in)
      exact HL.out

end

end Go.Proofs.YthbdpfccfcceiaaGreatDoor
