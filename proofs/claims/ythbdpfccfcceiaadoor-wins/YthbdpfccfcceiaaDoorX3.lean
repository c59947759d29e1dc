/-
  What Put and Delete of a store do.
-/
import Derived.Test.YthbdpfccfcceiaaDoorX2
namespace Go.Proofs.YthbdpfccfcceiaaDoor
open Go.RowKit Go.Maps

section
variable {R : Ending → World → Prop}

set_option maxHeartbeats 400000 in
theorem put_none (p mo n : Nat) (f : Value → Option Value) (tx : Int) (key val : ByteArray) (w : World) (c2 : w.cell? ⟨p, 7, none⟩ = some (.map (some mo))) (hown : fmap w Tryd.prog 3 mo n f) (hwx : (Lit.int .i64 tx).wf = true) (hf : f (.int .i64 tx) = none)
    (hR : R (.returned (.int .i64 2)) w) :
    Calls Tryd.prog 26 #[.pointer (some ⟨p, 0, none⟩), .int .i64 tx, .string key, .string val] w R := by
  have hkey : Hid _ := keyOf_int_mk Tryd.underlying3 hwx
  go_enter Tryd.func26, Tryd.ntmps26
  go_wp2_with (first
    | (at_lookup; refine wpL_lookup_ok _ rfl _ _ 61 rfl 3 65 kInt Tryd.underlying61 (zTxP _) mo n f rfl hown (.int .i64 tx) _ rfl hkey.out _ hf ?_)
    | go_in)
  exact hR

set_option maxRecDepth 20000 in
set_option maxHeartbeats 400000 in
theorem put_bad (p mo n : Nat) (f : Value → Option Value) (tx : Int) (key val : ByteArray) (w : World) (c2 : w.cell? ⟨p, 7, none⟩ = some (.map (some mo))) (hown : fmap w Tryd.prog 3 mo n f) (hwx : (Lit.int .i64 tx).wf = true) (a : Addr) (hf : f (.int .i64 tx) = some (.pointer (some a)))
    (hk : key.size ≤ maxLen) (hv : val.size ≤ maxLen) (hbad : (isKey key && decide (val.size ≤ 20)) = false)
    (hR : R (.returned (.int .i64 1)) w) :
    Calls Tryd.prog 26 #[.pointer (some ⟨p, 0, none⟩), .int .i64 tx, .string key, .string val] w R := by
  have hkey : Hid _ := keyOf_int_mk Tryd.underlying3 hwx
  have HK : Hid _ := hk
  have HV : Hid _ := hv
  clear hk hv hwx
  cases h1 : isKey key
  · clear hbad
    go_enter Tryd.func26, Tryd.ntmps26
    go_wp2_with (first
      | (at_lookup; refine wpL_lookup_ok _ rfl _ _ 61 rfl 3 65 kInt Tryd.underlying61 (zTxP _) mo n f rfl hown (.int .i64 tx) _ rfl hkey.out _ hf ?_)
      | (go_at_call 31; refine (isKey_any _ _ HK.out).mono ?_; rintro e w' ⟨rfl, rfl⟩)
      | go_in)
    exact hR
  · have h2 : decide (val.size ≤ 20) = false := by rw [h1] at hbad; simpa using hbad
    clear hbad
    go_enter Tryd.func26, Tryd.ntmps26
    go_wp2_with (first
      | (at_lookup; refine wpL_lookup_ok _ rfl _ _ 61 rfl 3 65 kInt Tryd.underlying61 (zTxP _) mo n f rfl hown (.int .i64 tx) _ rfl hkey.out _ hf ?_)
      | (go_at_call 31; refine (isKey_any _ _ HK.out).mono ?_; rintro e w' ⟨rfl, rfl⟩)
      | (go_at_call 41; refine (isValue_any _ _ HV.out).mono ?_; rintro e w' ⟨rfl, rfl⟩)
      | go_in)
    exact hR

theorem isKey_le (s : ByteArray) (h : isKey s = true) : s.size ≤ 8 := by
  unfold isKey at h
  simp at h
  exact h.2.1

set_option maxRecDepth 20000 in
set_option maxHeartbeats 1000000 in
theorem put_good (p mo n pt : Nat) (f : Value → Option Value) (tx : Int) (key val : ByteArray) (w : World) (c2 : w.cell? ⟨p, 7, none⟩ = some (.map (some mo))) (hown : fmap w Tryd.prog 3 mo n f) (hwx : (Lit.int .i64 tx).wf = true) (hf : f (.int .i64 tx) = some (.pointer (some ⟨pt, 0, none⟩)))
    (h1 : isKey key = true) (hv : val.size ≤ 20)
    (hR : ∀ w1, Kp (fun _ => False) w w1 → Calls Tryd.prog 42 #[.pointer (some ⟨pt, 0, none⟩), .string key, .agg #[.string val, .bool false]] w1 fun e w2 => ∃ r, e = .returned (.int .i64 r) ∧ R (.returned (.int .i64 r)) w2) :
    Calls Tryd.prog 26 #[.pointer (some ⟨p, 0, none⟩), .int .i64 tx, .string key, .string val] w R := by
  have hkey : Hid _ := keyOf_int_mk Tryd.underlying3 hwx
  have hl := isKey_le key h1
  have HK : Hid (key.size ≤ maxLen) := by show key.size ≤ maxLen; unfold maxLen; omega
  have HV : Hid (val.size ≤ 20) := hv
  have h2 : decide (val.size ≤ 20) = true := by simpa using hv
  have HR : Hid _ := hR
  clear hv hwx hl hR
  go_enter Tryd.func26, Tryd.ntmps26
  go_wp2_with (first
    | (at_lookup; refine wpL_lookup_ok _ rfl _ _ 61 rfl 3 65 kInt Tryd.underlying61 (zTxP _) mo n f rfl hown (.int .i64 tx) _ rfl hkey.out _ hf ?_)
    | (go_at_call 31; refine (isKey_any _ _ HK.out).mono ?_; rintro e w' ⟨rfl, rfl⟩)
    | (go_at_call 41; refine (isValue_any _ _ (by have := HV.out; unfold maxLen; omega)).mono ?_; rintro e w' ⟨rfl, rfl⟩)
    | (go_at_call 43; refine (clone_any _ _ (by have := HV.out; unfold maxLen; omega) (by have := HV.out; omega)).mono ?_; rintro e w1 ⟨rfl, hb1⟩)
    | (go_at_call 42; refine (HR.out _ (Kp.of_below hb1 _)).mono ?_; rintro e w2 ⟨r, rfl, hr⟩)
    | go_in)
  exact hr

set_option maxHeartbeats 400000 in
theorem delete_none (p mo n : Nat) (f : Value → Option Value) (tx : Int) (key : ByteArray) (w : World) (c2 : w.cell? ⟨p, 7, none⟩ = some (.map (some mo))) (hown : fmap w Tryd.prog 3 mo n f) (hwx : (Lit.int .i64 tx).wf = true) (hf : f (.int .i64 tx) = none)
    (hR : R (.returned (.int .i64 2)) w) :
    Calls Tryd.prog 27 #[.pointer (some ⟨p, 0, none⟩), .int .i64 tx, .string key] w R := by
  have hkey : Hid _ := keyOf_int_mk Tryd.underlying3 hwx
  go_enter Tryd.func27, Tryd.ntmps27
  go_wp2_with (first
    | (at_lookup; refine wpL_lookup_ok _ rfl _ _ 61 rfl 3 65 kInt Tryd.underlying61 (zTxP _) mo n f rfl hown (.int .i64 tx) _ rfl hkey.out _ hf ?_)
    | go_in)
  exact hR

set_option maxRecDepth 20000 in
set_option maxHeartbeats 400000 in
theorem delete_bad (p mo n : Nat) (f : Value → Option Value) (tx : Int) (key : ByteArray) (w : World) (c2 : w.cell? ⟨p, 7, none⟩ = some (.map (some mo))) (hown : fmap w Tryd.prog 3 mo n f) (hwx : (Lit.int .i64 tx).wf = true) (a : Addr) (hf : f (.int .i64 tx) = some (.pointer (some a)))
    (hk : key.size ≤ maxLen) (h1 : isKey key = false)
    (hR : R (.returned (.int .i64 1)) w) :
    Calls Tryd.prog 27 #[.pointer (some ⟨p, 0, none⟩), .int .i64 tx, .string key] w R := by
  have hkey : Hid _ := keyOf_int_mk Tryd.underlying3 hwx
  have HK : Hid _ := hk
  clear hk hwx
  go_enter Tryd.func27, Tryd.ntmps27
  go_wp2_with (first
    | (at_lookup; refine wpL_lookup_ok _ rfl _ _ 61 rfl 3 65 kInt Tryd.underlying61 (zTxP _) mo n f rfl hown (.int .i64 tx) _ rfl hkey.out _ hf ?_)
    | (go_at_call 31; refine (isKey_any _ _ HK.out).mono ?_; rintro e w' ⟨rfl, rfl⟩)
    | go_in)
  exact hR

set_option maxRecDepth 20000 in
set_option maxHeartbeats 1000000 in
theorem delete_good (p mo n pt : Nat) (f : Value → Option Value) (tx : Int) (key : ByteArray) (w : World) (c2 : w.cell? ⟨p, 7, none⟩ = some (.map (some mo))) (hown : fmap w Tryd.prog 3 mo n f) (hwx : (Lit.int .i64 tx).wf = true) (hf : f (.int .i64 tx) = some (.pointer (some ⟨pt, 0, none⟩)))
    (h1 : isKey key = true)
    (hR : Calls Tryd.prog 42 #[.pointer (some ⟨pt, 0, none⟩), .string key, .agg #[.string { data := #[] }, .bool true]] w fun e w2 => ∃ r, e = .returned (.int .i64 r) ∧ R (.returned (.int .i64 r)) w2) :
    Calls Tryd.prog 27 #[.pointer (some ⟨p, 0, none⟩), .int .i64 tx, .string key] w R := by
  have hkey : Hid _ := keyOf_int_mk Tryd.underlying3 hwx
  have hl := isKey_le key h1
  have HK : Hid (key.size ≤ maxLen) := by show key.size ≤ maxLen; unfold maxLen; omega
  have HR : Hid _ := hR
  clear hwx hl hR
  go_enter Tryd.func27, Tryd.ntmps27
  go_wp2_with (first
    | (at_lookup; refine wpL_lookup_ok _ rfl _ _ 61 rfl 3 65 kInt Tryd.underlying61 (zTxP _) mo n f rfl hown (.int .i64 tx) _ rfl hkey.out _ hf ?_)
    | (go_at_call 31; refine (isKey_any _ _ HK.out).mono ?_; rintro e w' ⟨rfl, rfl⟩)
    | (go_at_call 42; refine Calls.mono HR.out ?_; rintro e w2 ⟨r, rfl, hr⟩)
    | go_in)
  exact hr

end

end Go.Proofs.YthbdpfccfcceiaaDoor
