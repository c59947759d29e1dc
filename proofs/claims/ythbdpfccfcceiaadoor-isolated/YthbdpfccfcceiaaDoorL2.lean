/-
  Get, Now and New of a store, told of its plain state.
-/
import Derived.Test.YthbdpfccfcceiaaDoorL1
namespace Go.Proofs.YthbdpfccfcceiaaDoor
open Go.RowKit Go.Maps

section
variable {own own' : Nat → Lab} {c : Nat} {w w' : World} {p : Nat} {s : XS} {mo ph mv mm : Nat} {pt mw : Int → Nat} {sl : ByteArray → Value}
variable {R : Ending → World → Prop}

set_option maxRecDepth 20000 in
set_option maxHeartbeats 400000 in
theorem x_get (h : XR own c w p s mo ph mv mm pt mw sl) (tx : Int) (hwx : (Lit.int .i64 tx).wf = true) (key : ByteArray) (hkl : key.size ≤ maxLen) (hm : ∀ k, MomOk s k)
    (h0 : s.txs tx = none → R (.returned (.tuple #[.string eb, .int .i64 2])) w)
    (h1 : ∀ t, s.txs tx = some t → isKey key = false → R (.returned (.tuple #[.string eb, .int .i64 1])) w)
    (h2 : ∀ t, s.txs tx = some t → isKey key = true → (seesX s t key).2 = false → ∀ w', Kp (fun _ => False) w w' → R (.returned (.tuple #[.string eb, .int .i64 5])) w')
    (h3 : ∀ t, s.txs tx = some t → isKey key = true → (seesX s t key).2 = true → ∀ w', Kp (fun _ => False) w w' → R (.returned (.tuple #[.string (seesX s t key).1, .int .i64 0])) w') :
    Calls Tryd.prog 15 #[.pointer (some ⟨p, 0, none⟩), .int .i64 tx, .string key] w R := by
  have hkey : Hid _ := keyOf_int_mk Tryd.underlying3 hwx
  have c2 : w.cell? ⟨p, 7, none⟩ = some (.map (some mo)) := cell_of h.store 7
  have hopn := h.opn
  have HK : Hid _ := hkl
  have H : Hid (XR own c w p s mo ph mv mm pt mw sl) := h
  cases e : s.txs tx with
  | none =>
    have hf : (encI fun n => (s.txs n).map fun _ => Value.pointer (some ⟨pt n, 0, none⟩)) (.int .i64 tx) = none := by rw [encI_at, e]; rfl
    have HR := h0 e
    clear h h0 h1 h2 h3 hkl
    go_enter Tryd.func15, Tryd.ntmps15
    go_wp2_with (first
      | (at_lookup; refine wpL_lookup_ok _ rfl _ _ 61 rfl 3 65 kInt Tryd.underlying61 (zTxP _) mo s.nopen _ rfl hopn (.int .i64 tx) _ rfl hkey.out _ hf ?_)
      | go_in)
    exact HR
  | some t =>
    have hf : (encI fun n => (s.txs n).map fun _ => Value.pointer (some ⟨pt n, 0, none⟩)) (.int .i64 tx) = some (.pointer (some ⟨pt tx, 0, none⟩)) := by rw [encI_at, e]; rfl
    cases hb : isKey key with
    | false =>
      have HR := h1 t e hb
      clear h h0 h1 h2 h3 hkl
      go_enter Tryd.func15, Tryd.ntmps15
      go_wp2_with (first
        | (at_lookup; refine wpL_lookup_ok _ rfl _ _ 61 rfl 3 65 kInt Tryd.underlying61 (zTxP _) mo s.nopen _ rfl hopn (.int .i64 tx) _ rfl hkey.out _ hf ?_)
        | (go_at_call 31; refine (isKey_any _ _ HK.out).mono ?_; rintro e w' ⟨rfl, rfl⟩)
        | go_in)
      exact HR
    | true =>
      cases hs : (seesX s t key).2 with
      | false =>
        have HR : Hid _ := h2 t e hb hs
        clear h h0 h1 h2 h3 hkl
        go_enter Tryd.func15, Tryd.ntmps15
        go_wp2_with (first
          | (at_lookup; refine wpL_lookup_ok _ rfl _ _ 61 rfl 3 65 kInt Tryd.underlying61 (zTxP _) mo s.nopen _ rfl hopn (.int .i64 tx) _ rfl hkey.out _ hf ?_)
          | (go_at_call 31; refine (isKey_any _ _ HK.out).mono ?_; rintro e w' ⟨rfl, rfl⟩)
          | (go_at_call 30; refine x_look H.out tx t e key (isKey_le key hb) (hm key) (fun w1 hk1 => ?_))
          | go_in)
        exact HR.out w1 hk1
      | true =>
        have HR : Hid _ := h3 t e hb hs
        clear h h0 h1 h2 h3 hkl
        go_enter Tryd.func15, Tryd.ntmps15
        go_wp2_with (first
          | (at_lookup; refine wpL_lookup_ok _ rfl _ _ 61 rfl 3 65 kInt Tryd.underlying61 (zTxP _) mo s.nopen _ rfl hopn (.int .i64 tx) _ rfl hkey.out _ hf ?_)
          | (go_at_call 31; refine (isKey_any _ _ HK.out).mono ?_; rintro e w' ⟨rfl, rfl⟩)
          | (go_at_call 30; refine x_look H.out tx t e key (isKey_le key hb) (hm key) (fun w1 hk1 => ?_))
          | go_in)
        exact HR.out w1 hk1

theorem x_now (h : XR own c w p s mo ph mv mm pt mw sl) (h0 : R (.returned (.int .i64 s.now)) w) :
    Calls Tryd.prog 7 #[.pointer (some ⟨p, 0, none⟩)] w R := by
  have c0 : w.cell? ⟨p, 2, none⟩ = some (.int .i64 s.now) := cell_of h.store 2
  clear h
  go_enter Tryd.func7, Tryd.ntmps7
  go_wp2
  exact h0

def newXS (mu : Nat) : XS := { now := 0, hor := 0, begun := 0, txs := fun _ => none, nopen := 0, mom := fun _ => [], ver := fun _ _ => none, nv := 0, nm := 0, log := ⟨.slice none 0 0, [], [], 0⟩, bk := ⟨mu, 0, fun _ => none, 0⟩ }

/-- The cells of a store that New gave. -/
def newCells (mo ph mu : Nat) : Array Value := #[.pointer (some ⟨ph, 0, none⟩), .int .i64 0, .int .i64 0, .slice none 0 0, .int .i64 0, .int .i64 0, .int .i64 0, .map (some mo), .int .i64 0, .map (some mu)]

set_option maxRecDepth 20000 in
set_option maxHeartbeats 400000 in
theorem new_any (w : World)
    (hR : R (.returned (.pointer (some ⟨w.heap.size + 5, 0, none⟩))) ((((((w.alloc (.map #[] 0)).alloc (.map #[] 0)).alloc (.cells #[.map (some w.heap.size), .map (some (w.heap.size + 1))] 111)).alloc (.map #[] 0)).alloc (.map #[] 0)).alloc (.cells (newCells (w.heap.size + 3) (w.heap.size + 2) (w.heap.size + 4)) 64))) :
    Calls Tryd.prog 25 #[] w R := by
  have hmm := @run_makeMap Tryd.prog
  go_enter Tryd.func25, Tryd.ntmps25
  go_wp2
  exact hR

end

end Go.Proofs.YthbdpfccfcceiaaDoor
