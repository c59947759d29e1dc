/-
  What may be asked by moments: covers, AsOf, Retain's answers, Stored, told of the store's plain state.
-/
import Derived.Test.YthbdpfccfcceiaaDoorL2
namespace Go.Proofs.YthbdpfccfcceiaaDoor
open Go.RowKit Go.Maps

section
variable {own own' : Nat → Lab} {c : Nat} {w w' : World} {p : Nat} {s : XS} {mo ph mv mm : Nat} {pt mw : Int → Nat} {sl : ByteArray → Value}
variable {R : Ending → World → Prop}

set_option maxRecDepth 20000 in
set_option maxHeartbeats 400000 in
theorem x_covers (h : XR own c w p s mo ph mv mm pt mw sl) (t : Int)
    (h1 : t < s.hor → R (.returned (.int .i64 6)) w)
    (h2 : ¬ t < s.hor → s.now < t → R (.returned (.int .i64 7)) w)
    (h3 : ¬ t < s.hor → ¬ s.now < t → R (.returned (.int .i64 0)) w) :
    Calls Tryd.prog 36 #[.pointer (some ⟨p, 0, none⟩), .int .i64 t] w R := by
  have c1 : w.cell? ⟨p, 1, none⟩ = some (.int .i64 s.hor) := cell_of h.store 1
  have c2 : w.cell? ⟨p, 2, none⟩ = some (.int .i64 s.now) := cell_of h.store 2
  clear h
  by_cases q1 : t < s.hor
  · have d1 : decide (t < s.hor) = true := by simpa using q1
    have HR := hid_of (h1 q1)
    clear h1 h2 h3
    go_enter Tryd.func36, Tryd.ntmps36
    go_wp2
    exact HR.out
  · have d1 : decide (t < s.hor) = false := by simpa using q1
    by_cases q2 : s.now < t
    · have d2 : decide (s.now < t) = true := by simpa using q2
      have HR := hid_of (h2 q1 q2)
      clear h1 h2 h3
      go_enter Tryd.func36, Tryd.ntmps36
      go_wp2
      exact HR.out
    · have d2 : decide (s.now < t) = false := by simpa using q2
      have HR := hid_of (h3 q1 q2)
      clear h1 h2 h3
      go_enter Tryd.func36, Tryd.ntmps36
      go_wp2
      exact HR.out

set_option maxRecDepth 20000 in
set_option maxHeartbeats 400000 in
theorem x_asof0 (h : XR own c w p s mo ph mv mm pt mw sl) (t : Int) (key : ByteArray) (hkl : key.size ≤ maxLen) (hm : ∀ k, MomOk s k)
    (h1 : isKey key = false → R (.returned (.tuple #[.string eb, .int .i64 1])) w)
    (h2 : isKey key = true → t < s.hor → R (.returned (.tuple #[.string eb, .int .i64 6])) w)
    (h3 : isKey key = true → ¬ t < s.hor → s.now < t → R (.returned (.tuple #[.string eb, .int .i64 7])) w)
    (h4 : isKey key = true → ¬ t < s.hor → ¬ s.now < t → (valAt s key t).2 = false → ∀ w', Kp (fun _ => False) w w' → R (.returned (.tuple #[.string eb, .int .i64 5])) w')
    (h5 : isKey key = true → ¬ t < s.hor → ¬ s.now < t → (valAt s key t).2 = true → ∀ w', Kp (fun _ => False) w w' → R (.returned (.tuple #[.string (valAt s key t).1, .int .i64 0])) w') :
    Calls Tryd.prog 35 #[.pointer (some ⟨p, 0, none⟩), .int .i64 t, .string key] w R := by
  have H := hid_of h
  have HK := hid_of hkl
  have HM := hid_of hm
  have c3 : w.cell? ⟨p, 0, none⟩ = some (.pointer (some ⟨ph, 0, none⟩)) := cell_of h.store 0
  clear h hkl hm
  cases hb : isKey key with
  | false =>
    have HR := hid_of (h1 hb)
    clear h1 h2 h3 h4 h5
    go_enter Tryd.func35, Tryd.ntmps35
    go_wp2_with (first
      | (go_at_call 31; refine (isKey_any _ _ HK.out).mono ?_; rintro e w' ⟨rfl, rfl⟩)
      | go_in)
    exact HR.out
  | true =>
    have hk8 := isKey_le key hb
    have HK8 := hid_of hk8
    clear hk8
    by_cases q1 : t < s.hor
    · have HR := hid_of (h2 hb q1)
      have Q1 := hid_of q1
      clear h1 h2 h3 h4 h5 q1
      go_enter Tryd.func35, Tryd.ntmps35
      go_wp2_with (first
        | (go_at_call 31; refine (isKey_any _ _ HK.out).mono ?_; rintro e w' ⟨rfl, rfl⟩)
        | (go_at_call 36; refine x_covers H.out t (fun _ => ?_) (fun q _ => by have := Q1.out; omega) (fun q _ => by have := Q1.out; omega))
        | go_in)
      exact HR.out
    · by_cases q2 : s.now < t
      · have HR := hid_of (h3 hb q1 q2)
        have Q1 := hid_of q1
        have Q2 := hid_of q2
        clear h1 h2 h3 h4 h5 q1 q2
        go_enter Tryd.func35, Tryd.ntmps35
        go_wp2_with (first
          | (go_at_call 31; refine (isKey_any _ _ HK.out).mono ?_; rintro e w' ⟨rfl, rfl⟩)
          | (go_at_call 36; refine x_covers H.out t (fun q => by have := Q1.out; omega) (fun _ _ => ?_) (fun _ q => by have := Q2.out; omega))
          | go_in)
        exact HR.out
      · have Q1 := hid_of q1
        have Q2 := hid_of q2
        cases hv : (valAt s key t).2 with
        | false =>
          have HR := hid_of (h4 hb q1 q2 hv)
          clear h1 h2 h3 h4 h5 q1 q2
          go_enter Tryd.func35, Tryd.ntmps35
          go_wp2_with (first
            | (go_at_call 31; refine (isKey_any _ _ HK.out).mono ?_; rintro e w' ⟨rfl, rfl⟩)
            | (go_at_call 36; refine x_covers H.out t (fun q => by have := Q1.out; omega) (fun _ q => by have := Q2.out; omega) (fun _ _ => ?_))
            | (go_at_call 45; refine x_value H.out key t HK8.out (HM.out key).len (HM.out key).up (HM.out key).ver (fun w1 hk1 => ?_); have HK1 := hid_of hk1; clear hk1)
            | go_in)
          exact HR.out w1 HK1.out
        | true =>
          have HR := hid_of (h5 hb q1 q2 hv)
          clear h1 h2 h3 h4 h5 q1 q2
          go_enter Tryd.func35, Tryd.ntmps35
          go_wp2_with (first
            | (go_at_call 31; refine (isKey_any _ _ HK.out).mono ?_; rintro e w' ⟨rfl, rfl⟩)
            | (go_at_call 36; refine x_covers H.out t (fun q => by have := Q1.out; omega) (fun _ q => by have := Q2.out; omega) (fun _ _ => ?_))
            | (go_at_call 45; refine x_value H.out key t HK8.out (HM.out key).len (HM.out key).up (HM.out key).ver (fun w1 hk1 => ?_); have HK1 := hid_of hk1; clear hk1)
            | go_in)
          exact HR.out w1 HK1.out

set_option maxRecDepth 20000 in
set_option maxHeartbeats 400000 in
theorem x_asof (t : Int) (key : ByteArray)
    (hR : Calls Tryd.prog 35 #[.pointer (some ⟨p, 0, none⟩), .int .i64 t, .string key] w fun e w' => ∃ (a : ByteArray) (b : Int), e = .returned (.tuple #[.string a, .int .i64 b]) ∧ R (.returned (.tuple #[.string a, .int .i64 b])) w') :
    Calls Tryd.prog 19 #[.pointer (some ⟨p, 0, none⟩), .int .i64 t, .string key] w R := by
  have HR := hid_of hR
  clear hR
  go_enter Tryd.func19, Tryd.ntmps19
  go_wp2_with (first
    | (go_at_call 35; refine Calls.mono HR.out ?_; rintro e w1 ⟨a, b, rfl, hr⟩; have HR1 := hid_of hr; clear hr)
    | go_in)
  exact HR1.out

set_option maxRecDepth 20000 in
set_option maxHeartbeats 400000 in
theorem x_stored (h : XR own c w p s mo ph mv mm pt mw sl) (hR : R (.returned (.int .i64 s.nv)) w) :
    Calls Tryd.prog 23 #[.pointer (some ⟨p, 0, none⟩)] w R := by
  have c3 : w.cell? ⟨p, 0, none⟩ = some (.pointer (some ⟨ph, 0, none⟩)) := cell_of h.store 0
  have d0 : w.cell? ⟨ph, 0, none⟩ = some (.map (some mv)) := cell_of h.hist 0
  have hv := h.vers
  have HR := hid_of hR
  have hS : Hid (Calls Tryd.prog 38 #[.pointer (some ⟨ph, 0, none⟩)] w (fun e w' => e = .returned (.int .i64 s.nv) ∧ w' = w)) := by
    show Calls _ _ _ _ _
    clear h hR HR
    go_enter Tryd.func38, Tryd.ntmps38
    go_wp2_with (first
      | (at_len; refine wpL_len _ rfl _ 108 rfl 117 88 Tryd.underlying108 mv s.nv _ rfl hv ?_)
      | go_in)
    go_ret
    exact ⟨rfl, rfl⟩
  clear h hR hv
  go_enter Tryd.func23, Tryd.ntmps23
  go_wp2_with (first
    | (go_at_call 38; refine Calls.mono hS.out ?_; rintro e w1 ⟨rfl, rfl⟩)
    | go_in)
  exact HR.out

end

end Go.Proofs.YthbdpfccfcceiaaDoor
