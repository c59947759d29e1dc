/-
  What a transaction sees of a key: history.Value, look and Get, told of the store's plain state.
  Get, Now and New of a store, told of its plain state.
-/
import Derived.Test.YthbdpfccfcceiaaGreatDoorC2J2
namespace Go.Proofs.YthbdpfccfcceiaaGreatDoor
open Go.RowKit Go.Maps

def valAt (s : XS) (k : ByteArray) (t : Int) : ByteArray × Bool :=
  match ((s.mom k).filter (fun m => decide (m ≤ t))).getLast? with
  | none => (eb, false)
  | some m => match s.ver k m with | some v => (v.1, !v.2) | none => (eb, true)

theorem filter_take : ∀ (l : List Int) (t : Int), l.Pairwise (· < ·) → l.filter (fun m => decide (m ≤ t)) = l.take (l.countP (fun m => decide (m ≤ t)))
  | [], _, _ => rfl
  | x :: r, t, h => by
    obtain ⟨h1, h2⟩ := List.pairwise_cons.1 h
    by_cases hx : x ≤ t
    · rw [List.filter_cons_of_pos (by simpa using hx), List.countP_cons_of_pos (by simpa using hx), List.take_succ_cons, filter_take r t h2]
    · have hr : ∀ y ∈ r, ¬ y ≤ t := fun y hy => by have := h1 y hy; omega
      have e1 : r.filter (fun m => decide (m ≤ t)) = [] := by
        rw [List.filter_eq_nil_iff]; intro y hy; simpa using hr y hy
      have e2 : r.countP (fun m => decide (m ≤ t)) = 0 := by
        rw [List.countP_eq_zero]; intro y hy; simpa using hr y hy
      rw [List.filter_cons_of_neg (by simpa using hx), List.countP_cons_of_neg (by simpa using hx), e1, e2]; rfl

section
variable {own own' : Nat → Lab} {c : Nat} {w w' : World} {p : Nat} {s : XS} {mo ph mv mm : Nat} {pt mw : Int → Nat} {sl : ByteArray → Value}
variable {R : Ending → World → Prop}

theorem x_value (h : XR own c w p s mo ph mv mm pt mw sl) (key : ByteArray) (t : Int) (hlen : key.size ≤ 8) (hl : (s.mom key).length < 1000000) (hs : (s.mom key).Pairwise (· < ·)) (hw : ∀ m ∈ s.mom key, (Lit.int .i64 m).wf = true ∧ (s.ver key m).isSome = true)
    (hR : ∀ w', Kp (fun _ => False) w w' → R (.returned (.tuple #[.string (valAt s key t).1, .bool (valAt s key t).2])) w') :
    Calls Tryz.prog 91 #[.pointer (some ⟨ph, 0, none⟩), .string key, .int .i64 t] w R := by
  have c0 : w.cell? ⟨ph, 0, none⟩ = some (.map (some mv)) := cell_of h.hist 0
  have c1 : w.cell? ⟨ph, 1, none⟩ = some (.map (some mm)) := cell_of h.hist 1
  by_cases hm : s.mom key = []
  · have hv : valAt s key t = (eb, false) := by simp [valAt, hm]
    rw [hv] at hR
    exact value_empty ph mm s.nm _ key t w c1 h.moms hlen none 0 (by rw [encS_at, if_pos hm]; rfl) (hR w (Kp.refl _ _))
  · obtain ⟨g, cap, hv, hc⟩ := ownsRow_cells (h.row key hm) hm
    have hf : ((encS fun k => if s.mom k = [] then none else some (sl k)) (.string key)).getD (.slice none 0 0) = .slice (some ⟨g, 0, none⟩) (s.mom key).length cap := by rw [encS_at, if_neg hm, hv]; rfl
    have hft := filter_take (s.mom key) t hs
    by_cases h0 : (s.mom key).countP (fun m => decide (m ≤ t)) = 0
    · have hval : valAt s key t = (eb, false) := by simp [valAt, hft, h0]
      rw [hval] at hR
      exact value_none ph mm s.nm _ key t w c1 h.moms hlen g cap (s.mom key) hf hl hc hs h0 (fun q => hR _ (Kp.drewN _ _ _))
    · obtain ⟨idx, hidx⟩ : ∃ idx, (s.mom key).countP (fun m => decide (m ≤ t)) = idx + 1 := ⟨_, (Nat.succ_pred_eq_of_ne_zero h0).symm⟩
      have hle : idx + 1 ≤ (s.mom key).length := by rw [← hidx]; exact List.countP_le_length
      have hmem : (s.mom key).getD idx 0 ∈ s.mom key := by
        simp only [List.getD, List.getElem?_eq_getElem (show idx < (s.mom key).length by omega), Option.getD_some]
        exact List.getElem_mem _
      obtain ⟨hwf, hsome⟩ := hw _ hmem
      obtain ⟨v, hv'⟩ := Option.isSome_iff_exists.1 hsome
      have hlast : ((s.mom key).filter (fun m => decide (m ≤ t))).getLast? = some ((s.mom key).getD idx 0) := by
        rw [hft, hidx, List.getLast?_eq_getElem?, List.length_take, Nat.min_eq_left hle, Nat.add_sub_cancel, List.getElem?_take]
        simp [List.getD, List.getElem?_eq_getElem (show idx < (s.mom key).length by omega)]
      have hval : valAt s key t = (v.1, !v.2) := by simp only [valAt, hlast, hv']
      rw [hval] at hR
      exact value_some ph mv mm s.nm s.nv _ _ key t w c0 c1 h.moms h.vers hlen g cap (s.mom key) hf hl hc hs idx hidx _ rfl hwf v.1 v.2 (by rw [encP_at, hv']; rfl) hR

def seesX (s : XS) (t : XT) (k : ByteArray) : ByteArray × Bool := match t.wr k with | some v => (v.1, !v.2) | none => valAt s k t.sees

/-- What is asked of a key's moments. -/
structure MomOk (s : XS) (k : ByteArray) : Prop where
  len : (s.mom k).length < 1000000
  up : (s.mom k).Pairwise (· < ·)
  ver : ∀ m ∈ s.mom k, (Lit.int .i64 m).wf = true ∧ (s.ver k m).isSome = true

set_option maxRecDepth 20000 in
set_option maxHeartbeats 1000000 in
theorem x_look (h : XR own c w p s mo ph mv mm pt mw sl) (tx : Int) (t : XT) (e : s.txs tx = some t) (key : ByteArray) (hlen : key.size ≤ 8) (hm : MomOk s key)
    (hR : ∀ w', Kp (fun _ => False) w w' → R (.returned (.tuple #[.string (seesX s t key).1, .bool (seesX s t key).2])) w') :
    Calls Tryz.prog 155 #[.pointer (some ⟨p, 0, none⟩), .pointer (some ⟨pt tx, 0, none⟩), .string key] w R := by
  have hkey : Hid _ := WideMaps.keyOf_string_mk Tryz.underlying9 (show key.size ≤ maxLen by unfold maxLen; omega)
  have d0 : w.cell? ⟨pt tx, 0, none⟩ = some (.int .i64 t.sees) := cell_of (h.tx tx t e) 0
  have d1 : w.cell? ⟨pt tx, 1, none⟩ = some (.map (some (mw tx))) := cell_of (h.tx tx t e) 1
  have d3 : w.cell? ⟨p, 0, none⟩ = some (.pointer (some ⟨ph, 0, none⟩)) := cell_of h.store 0
  have hw := h.wr tx t e
  cases ek : t.wr key with
  | some v =>
    have hv : seesX s t key = (v.1, !v.2) := by simp [seesX, ek]
    rw [hv] at hR
    have HR : Hid _ := hR
    have hf : (encS fun k => (t.wr k).map encVer) (.string key) = some (.agg #[.string v.1, .bool v.2]) := by rw [encS_at, ek]; rfl
    obtain ⟨x, y⟩ := v
    clear hR hv h
    go_enter Tryz.func155, Tryz.ntmps155
    go_wp2_with (first
      | (at_lookup; refine wpL_lookup_ok _ rfl _ _ 130 rfl 9 138 kStr Tryz.underlying130 (zVer _) (mw tx) t.nw _ rfl hw (.string key) _ rfl hkey.out _ hf ?_)
      | go_in)
    go_region
    all_goals
      try go_wp2_with fail
      exact HR.out _ ((Kp.alloc _ _ _).trans (Kp.drew (fun _ => False) _) (fun _ _ h => h))
  | none =>
    have hv : seesX s t key = valAt s key t.sees := by simp [seesX, ek]
    rw [hv] at hR
    have HR : Hid _ := hR
    have hf : (encS fun k => (t.wr k).map encVer) (.string key) = none := by rw [encS_at, ek]; rfl
    have H : Hid (XR own c w p s mo ph mv mm pt mw sl) := h
    clear hR hv h
    go_enter Tryz.func155, Tryz.ntmps155
    go_wp2_with (first
      | (at_lookup; refine wpL_lookup_ok _ rfl _ _ 130 rfl 9 138 kStr Tryz.underlying130 (zVer _) (mw tx) t.nw _ rfl hw (.string key) _ rfl hkey.out _ hf ?_)
      | go_in)
    have hkw : Kp (fun _ => False) w (w.alloc (Obj.cells #[Value.string ByteArray.empty, Value.bool false] 138)) := Kp.alloc _ _ _
    generalize w.alloc (Obj.cells #[Value.string ByteArray.empty, Value.bool false] 138) = W at hkw ⊢
    have hx := H.out.kept hkw
    have a0 : W.cell? ⟨pt tx, 0, none⟩ = some (.int .i64 t.sees) := cell_of (hx.tx tx t e) 0
    have a3 : W.cell? ⟨p, 0, none⟩ = some (.pointer (some ⟨ph, 0, none⟩)) := cell_of hx.store 0
    have hxd : Hid (XR own c W.drew p s mo ph mv mm pt mw sl) := hx.kept (Kp.drew _ _)
    have hkd : Hid (Kp (fun _ => False) w W.drew) := hkw.trans (Kp.drew _ _) (fun _ _ h => h)
    clear hx hkw hw hf d0 d1 d3
    go_region_with (go_at_call 91; refine x_value hxd.out key t.sees hlen hm.len hm.up hm.ver (fun w1 hk1 => ?_))
    all_goals
      go_wp2_with fail
      go_ret2
      exact HR.out _ (hkd.out.trans hk1 (fun _ _ h => h))

end

end Go.Proofs.YthbdpfccfcceiaaGreatDoor

namespace Go.Proofs.YthbdpfccfcceiaaGreatDoor
open Go.RowKit Go.Maps

section
variable {own own' : Nat → Lab} {c : Nat} {w w' : World} {p : Nat} {s : XS} {mo ph mv mm : Nat} {pt mw : Int → Nat} {sl : ByteArray → Value}
variable {R : Ending → World → Prop}

set_option maxRecDepth 20000 in
set_option maxHeartbeats 400000 in
theorem x_get (h : XR own c w p s mo ph mv mm pt mw sl) (tx : Int) (hwx : (Lit.int .i64 tx).wf = true) (key : ByteArray) (hkl : key.size ≤ maxLen) (hm : ∀ k, MomOk s k)
    (h0 : s.txs tx = none → R (.returned (.tuple #[.string eb, .int .i64 2])) w)
    (h1 : ∀ t, s.txs tx = some t → isKey key = false → R (.returned (.tuple #[.string eb, .int .i64 1])) w)
    (h2 : ∀ t, s.txs tx = some t → isKey key = true → (seesX s t key).2 = false → ∀ w', Kp (fun _ => False) w w' → R (.returned (.tuple #[.string eb, .int .i64 5])) w')
    (h3 : ∀ t, s.txs tx = some t → isKey key = true → (seesX s t key).2 = true → ∀ w', Kp (fun _ => False) w w' → R (.returned (.tuple #[.string (seesX s t key).1, .int .i64 0])) w') :
    Calls Tryz.prog 102 #[.pointer (some ⟨p, 0, none⟩), .int .i64 tx, .string key] w R := by
  have hkey : Hid _ := keyOf_int_mk Tryz.underlying3 hwx
  have c2 : w.cell? ⟨p, 7, none⟩ = some (.map (some mo)) := cell_of h.store 7
  have hopn := h.opn
  have HK : Hid _ := hkl
  have H : Hid (XR own c w p s mo ph mv mm pt mw sl) := h
  cases e : s.txs tx with
  | none =>
    have hf : (encI fun n => (s.txs n).map fun _ => Value.pointer (some ⟨pt n, 0, none⟩)) (.int .i64 tx) = none := by rw [encI_at, e]; rfl
    have HR := h0 e
    clear h h0 h1 h2 h3 hkl
    go_enter Tryz.func102, Tryz.ntmps102
    go_wp2_with (first
      | (at_lookup; refine wpL_lookup_ok _ rfl _ _ 99 rfl 3 129 kInt Tryz.underlying99 (zTxP _) mo s.nopen _ rfl hopn (.int .i64 tx) _ rfl hkey.out _ hf ?_)
      | go_in)
    exact HR
  | some t =>
    have hf : (encI fun n => (s.txs n).map fun _ => Value.pointer (some ⟨pt n, 0, none⟩)) (.int .i64 tx) = some (.pointer (some ⟨pt tx, 0, none⟩)) := by rw [encI_at, e]; rfl
    cases hb : isKey key with
    | false =>
      have HR := h1 t e hb
      clear h h0 h1 h2 h3 hkl
      go_enter Tryz.func102, Tryz.ntmps102
      go_wp2_with (first
        | (at_lookup; refine wpL_lookup_ok _ rfl _ _ 99 rfl 3 129 kInt Tryz.underlying99 (zTxP _) mo s.nopen _ rfl hopn (.int .i64 tx) _ rfl hkey.out _ hf ?_)
        | (go_at_call 67; refine (isKey_any _ _ HK.out).mono ?_; rintro e w' ⟨rfl, rfl⟩)
        | go_in)
      exact HR
    | true =>
      cases hs : (seesX s t key).2 with
      | false =>
        have HR : Hid _ := h2 t e hb hs
        clear h h0 h1 h2 h3 hkl
        go_enter Tryz.func102, Tryz.ntmps102
        go_wp2_with (first
          | (at_lookup; refine wpL_lookup_ok _ rfl _ _ 99 rfl 3 129 kInt Tryz.underlying99 (zTxP _) mo s.nopen _ rfl hopn (.int .i64 tx) _ rfl hkey.out _ hf ?_)
          | (go_at_call 67; refine (isKey_any _ _ HK.out).mono ?_; rintro e w' ⟨rfl, rfl⟩)
          | (go_at_call 155; refine x_look H.out tx t e key (isKey_le key hb) (hm key) (fun w1 hk1 => ?_))
          | go_in)
        exact HR.out w1 hk1
      | true =>
        have HR : Hid _ := h3 t e hb hs
        clear h h0 h1 h2 h3 hkl
        go_enter Tryz.func102, Tryz.ntmps102
        go_wp2_with (first
          | (at_lookup; refine wpL_lookup_ok _ rfl _ _ 99 rfl 3 129 kInt Tryz.underlying99 (zTxP _) mo s.nopen _ rfl hopn (.int .i64 tx) _ rfl hkey.out _ hf ?_)
          | (go_at_call 67; refine (isKey_any _ _ HK.out).mono ?_; rintro e w' ⟨rfl, rfl⟩)
          | (go_at_call 155; refine x_look H.out tx t e key (isKey_le key hb) (hm key) (fun w1 hk1 => ?_))
          | go_in)
        exact HR.out w1 hk1

theorem x_now (h : XR own c w p s mo ph mv mm pt mw sl) (h0 : R (.returned (.int .i64 s.now)) w) :
    Calls Tryz.prog 15 #[.pointer (some ⟨p, 0, none⟩)] w R := by
  have c0 : w.cell? ⟨p, 2, none⟩ = some (.int .i64 s.now) := cell_of h.store 2
  clear h
  go_enter Tryz.func15, Tryz.ntmps15
  go_wp2
  exact h0

def newXS (mu : Nat) : XS := { now := 0, hor := 0, begun := 0, txs := fun _ => none, nopen := 0, mom := fun _ => [], ver := fun _ _ => none, nv := 0, nm := 0, log := ⟨.slice none 0 0, [], [], 0⟩, bk := ⟨mu, 0, fun _ => none, 0⟩ }

/-- The cells of a store that New gave. -/
def newCells (mo ph mu : Nat) : Array Value := #[.pointer (some ⟨ph, 0, none⟩), .int .i64 0, .int .i64 0, .slice none 0 0, .int .i64 0, .int .i64 0, .int .i64 0, .map (some mo), .int .i64 0, .map (some mu)]

set_option maxRecDepth 20000 in
set_option maxHeartbeats 400000 in
theorem new_any (w : World)
    (hR : R (.returned (.pointer (some ⟨w.heap.size + 5, 0, none⟩))) ((((((w.alloc (.map #[] 0)).alloc (.map #[] 0)).alloc (.cells #[.map (some w.heap.size), .map (some (w.heap.size + 1))] 209)).alloc (.map #[] 0)).alloc (.map #[] 0)).alloc (.cells (newCells (w.heap.size + 3) (w.heap.size + 2) (w.heap.size + 4)) 102))) :
    Calls Tryz.prog 33 #[] w R := by
  have hmm := @run_makeMap Tryz.prog
  go_enter Tryz.func33, Tryz.ntmps33
  go_wp2
  exact hR

end

end Go.Proofs.YthbdpfccfcceiaaGreatDoor
