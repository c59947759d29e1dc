/-
  The document's answer: Get.
-/
import Derived.Test.YtcingdaijfaeeaaGreatR6
namespace Go.Proofs.YtcingdaijfaeeaaGreat
open Go.RowKit

section
variable {own own' : Nat → Lab} {c : Nat} {w w' : World} {p : Nat} {s : YS} {vL vT vG : Value} {sv lg : List Value}
variable {R : Ending → World → Prop}

/-- What is asked of the sizes. -/
structure YB (s : YS) : Prop where
  txs : s.txs.length < 1000000000000
  l : s.l.length < 1000000
  x : ∀ i (hi : i < s.txs.length), (s.txs[i]).l.length ≤ 10

set_option maxRecDepth 20000 in
set_option maxHeartbeats 1000000 in
theorem y_get (h : YR own c w p s vL vT vG sv lg) (hB : YB s) (tx : Int) (key : ByteArray) (hkl : key.size ≤ maxLen)
    (h0 : thereY s tx = false → R (.returned (.tuple #[.string eb, .int .i64 2])) w)
    (h1 : thereY s tx = true → isKey key = false → R (.returned (.tuple #[.string eb, .int .i64 1])) w)
    (h2 : ∀ (j : Nat) (hj : j < s.txs.length) r, tx = (j : Int) + 1 → thereY s tx = true → isKey key = true → SeesY s (s.txs[j]) key r → r.2 = false → ∀ w', Kp (fun _ => False) w w' → R (.returned (.tuple #[.string eb, .int .i64 5])) w')
    (h3 : ∀ (j : Nat) (hj : j < s.txs.length) r, tx = (j : Int) + 1 → thereY s tx = true → isKey key = true → SeesY s (s.txs[j]) key r → r.2 = true → ∀ w', Kp (fun _ => False) w w' → R (.returned (.tuple #[.string r.1, .int .i64 0])) w') :
    Calls Tryz.prog 36 #[.pointer (some ⟨p, 0, none⟩), .int .i64 tx, .string key] w R := by
  have H : Hid (YR own c w p s vL vT vG sv lg) := h
  have HN : Hid (s.txs.length < 4611686018427387904) := by have := hB.txs; show _ < _; omega
  have HK : Hid _ := hkl
  have HB : Hid _ := hB
  cases ht : thereY s tx with
  | false =>
    have HR := h0 ht
    clear h h0 h1 h2 h3 hkl hB
    go_enter Tryz.func36, Tryz.ntmps36
    go_wp2_with (first
      | (go_at_call 78; refine there_any H.out HN.out tx ?_)
      | go_in)
    exact HR
  | true =>
    cases hb : isKey key with
    | false =>
      have HR := h1 ht hb
      clear h h0 h1 h2 h3 hkl hB
      go_enter Tryz.func36, Tryz.ntmps36
      go_wp2_with (first
        | (go_at_call 78; refine there_any H.out HN.out tx ?_)
        | (go_at_call 72; refine (refKey_any _ _ HK.out).mono ?_; rintro e w' ⟨rfl, rfl⟩)
        | go_in)
      exact HR
    | true =>
      obtain ⟨j, rfl, hj, hov⟩ := there_in ht
      obtain ⟨g, cap, hv, k0, k1, k2, kf, hg⟩ := h.txAt j hj
      have HR2 : Hid _ := fun r => h2 j hj r rfl ht hb
      have HR3 : Hid _ := fun r => h3 j hj r rfl ht hb
      have HV : Hid _ := hv
      have c3 : w.cell? ⟨p, 3, none⟩ = some vT := cell_of h.store 3
      rw [hv] at c3
      have hj1 : (j : Int) < s.txs.length := by omega
      have hj2 : (j : Int) ≤ 1000000000000 := by have := hB.txs; omega
      have HT : Hid _ := ht
      clear h h0 h1 h2 h3 hkl hB k0 k1 k2 kf hg hv
      go_enter Tryz.func36, Tryz.ntmps36
      go_wp2_with (first
        | (go_at_call 78; refine there_any H.out HN.out _ ?_)
        | (go_at_call 72; refine (refKey_any _ _ HK.out).mono ?_; rintro e w' ⟨rfl, rfl⟩)
        | (go_at_call 79; refine y_sees H.out HB.out.l j hj (by have := HB.out.x j hj; omega) g cap HV.out key (fun r w1 hr hk1 => ?_); obtain ⟨r1, r2⟩ := r; have HSE : Hid _ := hr; clear hr; cases r2)
        | go_in)
      · exact HR2.out _ HSE.out rfl w1 hk1
      · exact HR3.out _ HSE.out rfl w1 hk1

end

end Go.Proofs.YtcingdaijfaeeaaGreat
