/-
  The calls of one store, the blocks that bear it left unsaid: what they answer, what the store is behind them, and that what is not its own stays.
-/
import Derived.Test.YthbdpfccfcceiaaDoorV1
import Derived.Test.YthbdpfccfcceiaaDoorZ1C3J2
import Derived.Test.YthbdpfccfcceiaaDoorE1
import Derived.Test.YthbdpfccfcceiaaDoorE3
namespace Go.Proofs.YthbdpfccfcceiaaDoor
open Go.RowKit Go.Maps

section
variable {N : Nat → Prop} {w : World} {p : Nat} {s : XS}
variable {R : Ending → World → Prop}

theorem e_now (h : St N w p s) (hR : R (.returned (.int .i64 s.now)) w) : Calls Tryd.prog 7 #[.pointer (some ⟨p, 0, none⟩)] w R := by
  obtain ⟨own, ⟨mo, ph, mv, mm, pt, mw, sl, h⟩, hN⟩ := h
  exact x_now h hR

theorem e_begin (h : St N w p s) (ok : XOk s) (hb : s.begun < 1000000000) (h8 : s.nopen < 8)
    (hR : ∀ w', St N w' p { s with begun := s.begun + 1, txs := updI s.txs (s.begun + 1) (some ⟨s.now, fun _ => none, 0⟩), nopen := s.nopen + 1 } → Kp (fun b => ¬ N b) w w' → R (.returned (.tuple #[.int .i64 (s.begun + 1), .int .i64 0])) w') :
    Calls Tryd.prog 8 #[.pointer (some ⟨p, 0, none⟩)] w R := by
  obtain ⟨own, ⟨mo, ph, mv, mm, pt, mw, sl, h⟩, hN⟩ := h
  refine x_begin h ok.begun (by omega) ok.newTx (fun h0 => by omega) (fun _ w' own' k ho _ hx => ?_)
  have h1 := St.up ⟨mo, ph, mv, mm, pt, mw, sl, h⟩ hN k ho ⟨_, _, _, _, _, _, _, hx⟩
  exact hR w' h1.1 h1.2

/-- What the law's writes gives a key. -/
def vOf (v : ByteArray) : ByteArray × Bool := if v.size = 0 then (eb, true) else (v, false)

theorem e_put (h : St N w p s) (ok : XOk s) {tx : Int} (hwx : (Lit.int .i64 tx).wf = true) {t t' : XT} (e : s.txs tx = some t) (key v : ByteArray) (hk : isKey key = true) (hv : v.size ≤ 20) (hw : wrote t key (v, false) = some t')
    (hR : ∀ w', St N w' p { s with txs := updI s.txs tx (some t') } → Kp (fun b => ¬ N b) w w' → R (.returned (.int .i64 0)) w') :
    Calls Tryd.prog 26 #[.pointer (some ⟨p, 0, none⟩), .int .i64 tx, .string key, .string v] w R := by
  obtain ⟨own, ⟨mo, ph, mv, mm, pt, mw, sl, h⟩, hN⟩ := h
  have hk8 := isKey_le key hk
  have hb : (isKey key && decide (v.size ≤ 20)) = true := by simp [hk, hv]
  refine x_put h tx hwx key v (by unfold maxLen; omega) (by unfold maxLen; omega) (fun n t e => (ok.tx n t e).nw) (fun h0 => by rw [e] at h0; cases h0) (fun _ _ h0 => by rw [hb] at h0; cases h0) (fun t1 e1 _ h0 => ?_) (fun t1 t1' e1 _ h0 w' k hx => ?_)
  · rw [e] at e1; cases e1; rw [hw] at h0; cases h0
  · rw [e] at e1; cases e1; rw [hw] at h0; cases h0
    have h1 := St.up ⟨mo, ph, mv, mm, pt, mw, sl, h⟩ hN k (fun _ _ => rfl) ⟨_, _, _, _, _, _, _, hx⟩
    exact hR w' h1.1 h1.2

theorem e_delete (h : St N w p s) (ok : XOk s) {tx : Int} (hwx : (Lit.int .i64 tx).wf = true) {t t' : XT} (e : s.txs tx = some t) (key : ByteArray) (hk : isKey key = true) (hw : wrote t key (eb, true) = some t')
    (hR : ∀ w', St N w' p { s with txs := updI s.txs tx (some t') } → Kp (fun b => ¬ N b) w w' → R (.returned (.int .i64 0)) w') :
    Calls Tryd.prog 27 #[.pointer (some ⟨p, 0, none⟩), .int .i64 tx, .string key] w R := by
  obtain ⟨own, ⟨mo, ph, mv, mm, pt, mw, sl, h⟩, hN⟩ := h
  have hk8 := isKey_le key hk
  refine x_delete h tx hwx key (by unfold maxLen; omega) (fun n t e => (ok.tx n t e).nw) (fun h0 => by rw [e] at h0; cases h0) (fun _ _ h0 => by rw [hk] at h0; cases h0) (fun t1 e1 _ h0 => ?_) (fun t1 t1' e1 _ h0 w' k hx => ?_)
  · rw [e] at e1; cases e1; rw [hw] at h0; cases h0
  · rw [e] at e1; cases e1; rw [hw] at h0; cases h0
    have h1 := St.up ⟨mo, ph, mv, mm, pt, mw, sl, h⟩ hN k (fun _ _ => rfl) ⟨_, _, _, _, _, _, _, hx⟩
    exact hR w' h1.1 h1.2

set_option maxRecDepth 20000 in
set_option maxHeartbeats 400000 in
theorem e_writes (h : St N w p s) (ok : XOk s) {tx : Int} (hwx : (Lit.int .i64 tx).wf = true) {t t' : XT} (e : s.txs tx = some t) (key v : ByteArray) (hk : isKey key = true) (hv : v.size ≤ 20) (hw : wrote t key (vOf v) = some t')
    (hR : ∀ w', St N w' p { s with txs := updI s.txs tx (some t') } → Kp (fun b => ¬ N b) w w' → R (.returned (.int .i64 0)) w') :
    Calls Tryd.prog 9 #[.pointer (some ⟨p, 0, none⟩), .int .i64 tx, .string key, .string v] w R := by
  by_cases h0 : v.size = 0
  · have ev0 : v.data.toList = [] := List.eq_nil_of_length_eq_zero (by simpa using h0)
    have ev : v = ⟨#[]⟩ := WideShapes.bytes_inj (by simpa using ev0)
    clear ev0
    rw [vOf, if_pos h0] at hw
    have hc := hid_of (fun (R : Ending → World → Prop) => e_delete (R := R) h ok hwx e key hk hw)
    have HR := hid_of hR
    clear hR h ok hw hv h0 hwx e hk
    subst ev
    go_enter Tryd.func9, Tryd.ntmps9
    go_wp2_with (first
      | (go_at_call 27; refine hc.out _ (fun w1 h1 k1 => ?_); have H1 := hid_of h1; have K1 := hid_of k1; clear h1 k1)
      | go_in)
    exact HR.out w1 H1.out K1.out
  · rw [vOf, if_neg h0] at hw
    have hc := hid_of (fun (R : Ending → World → Prop) => e_put (R := R) h ok hwx e key v hk hv hw)
    have HR := hid_of hR
    have d0 : v.toList.isEmpty = false := by
      rw [Lib.toList_data]
      cases hd : v.data.toList with
      | nil => exact absurd (by have := congrArg List.length hd; simpa using this) h0
      | cons _ _ => rfl
    clear hR h ok hw hv hwx e hk
    go_enter Tryd.func9, Tryd.ntmps9
    go_wp2_with (first
      | (go_at_call 26; refine hc.out _ (fun w1 h1 k1 => ?_); have H1 := hid_of h1; have K1 := hid_of k1; clear h1 k1)
      | go_in)
    exact HR.out w1 H1.out K1.out

theorem e_commit_none (h : St N w p s) {tx : Int} (hwx : (Lit.int .i64 tx).wf = true) (e : s.txs tx = none) (hR : R (.returned (.tuple #[.int .i64 0, .int .i64 2])) w) :
    Calls Tryd.prog 18 #[.pointer (some ⟨p, 0, none⟩), .int .i64 tx] w R := by
  obtain ⟨own, ⟨mo, ph, mv, mm, pt, mw, sl, h⟩, hN⟩ := h
  exact commit_none p mo s.nopen _ tx w (cell_of h.store 7) h.opn hwx (by rw [encI_at, e]; rfl) hR

theorem e_commit_over (h : St N w p s) (ok : XOk s) {tx : Int} (hwx : (Lit.int .i64 tx).wf = true) {t : XT} (e : s.txs tx = some t) (hov : overt s t)
    (hR : ∀ w', St N w' p { s with txs := updI s.txs tx none, nopen := s.nopen - 1 } → Kp (fun b => ¬ N b) w w' → R (.returned (.tuple #[.int .i64 0, .int .i64 4])) w') :
    Calls Tryd.prog 18 #[.pointer (some ⟨p, 0, none⟩), .int .i64 tx] w R := by
  obtain ⟨own, ⟨mo, ph, mv, mm, pt, mw, sl, h⟩, hN⟩ := h
  have hnw : 0 < t.nw := by obtain ⟨k, hk, _⟩ := hov; exact (ok.tx tx t e).pos k hk
  refine x_commit_over h tx hwx t e hnw (ok.keysW e) (fun k => by have := ok.len k; omega) hov (fun w' k hx => ?_)
  have h1 := St.up ⟨mo, ph, mv, mm, pt, mw, sl, h⟩ hN k (fun _ _ => rfl) ⟨_, _, _, _, _, _, _, hx⟩
  exact hR w' h1.1 h1.2

theorem e_commit_good (h : St N w p s) (ok : XOk s) {tx : Int} (hwx : (Lit.int .i64 tx).wf = true) {t : XT} (e : s.txs tx = some t) (hnw : 0 < t.nw) (hov : ¬ overt s t) (hn : s.now < 2000)
    (hR : ∀ w' nv nm l, LogC s t.wr l → St N w' p (commd { s with log := l } t.wr (updI s.txs tx none) (s.nopen - 1) nv nm) → XOk (commd { s with log := l } t.wr (updI s.txs tx none) (s.nopen - 1) nv nm) → Kp (fun b => ¬ N b) w w' → R (.returned (.tuple #[.int .i64 (s.now + 1), .int .i64 0])) w') :
    Calls Tryd.prog 18 #[.pointer (some ⟨p, 0, none⟩), .int .i64 tx] w R := by
  obtain ⟨own, ⟨mo, ph, mv, mm, pt, mw, sl, h⟩, hN⟩ := h
  have h10 := (ok.tx tx t e).nw
  have b1 := ok.nv
  have b2 := ok.nm
  have b3 := ok.now
  have b4 := ok.lgl
  have b5 := ok.hor
  refine x_commit_good h hN.tab hN.tabN tx hwx t e hnw h10 (ok.keysW e) (ok.tx tx t e).vals (fun k => by have := ok.len k; omega) hov ⟨b3.1, hn⟩ (by omega) (by omega) (by omega) ok.lgb (fun w' own' sl' nv nm l ws k ho hv hm hws hwl hlg hsy hx => ?_)
  have hl : LogC s t.wr l := ⟨ws, hws, by omega, hlg, hsy⟩
  have hx : XR own' 2 w' p (commd { s with log := l } t.wr (updI s.txs tx none) (s.nopen - 1) nv nm) mo ph mv mm pt mw sl' := by rw [← comm_eq]; exact hx
  have h1 := St.up ⟨mo, ph, mv, mm, pt, mw, sl, h⟩ hN k ho ⟨_, _, _, _, _, _, _, hx⟩
  exact hR w' nv nm l hl h1.1 (ok.commit e hn hv hm _ hl) h1.2

theorem e_asof (h : St N w p s) (ok : XOk s) (t : Int) (key : ByteArray) (hk : isKey key = true) (h1 : s.hor ≤ t) (h2 : t ≤ s.now)
    (h4 : (valAt s key t).2 = false → ∀ w', Kp (fun _ => False) w w' → R (.returned (.tuple #[.string eb, .int .i64 5])) w')
    (h5 : (valAt s key t).2 = true → ∀ w', Kp (fun _ => False) w w' → R (.returned (.tuple #[.string (valAt s key t).1, .int .i64 0])) w') :
    Calls Tryd.prog 19 #[.pointer (some ⟨p, 0, none⟩), .int .i64 t, .string key] w R := by
  obtain ⟨own, ⟨mo, ph, mv, mm, pt, mw, sl, h⟩, hN⟩ := h
  have hk8 := isKey_le key hk
  refine x_asof t key (x_asof0 h t key (by unfold maxLen; omega) ok.momOk (fun h0 => by rw [hk] at h0; cases h0) (fun _ h0 => by omega) (fun _ _ h0 => by omega) (fun _ _ _ hv w' k => ⟨_, _, rfl, h4 hv w' k⟩) (fun _ _ _ hv w' k => ⟨_, _, rfl, h5 hv w' k⟩))

end

end Go.Proofs.YthbdpfccfcceiaaDoor
