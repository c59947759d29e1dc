/-
  The law's small functions: pick, key and value.
-/
import Derived.Test.YthbdpfccfcceiaaDoorK1
import Derived.Test.YthbdpfccfcceiaaDoorW1
namespace Go.Proofs.YthbdpfccfcceiaaDoor
open Go.RowKit

def pk (c n : Int) : Int := (if c < 0 then -(c + 1) else c) % n

theorem pk_lt (c : Int) {n : Int} (h : 0 < n) : 0 ≤ pk c n ∧ pk c n < n := ⟨Int.emod_nonneg _ (by omega), Int.emod_lt_of_pos _ h⟩

/-- One of the six keys. -/
def k6 (i : Int) : ByteArray := if i = 0 then ⟨#[97]⟩ else if i = 1 then ⟨#[98]⟩ else if i = 2 then ⟨#[98, 98]⟩ else if i = 3 then ⟨#[99]⟩ else if i = 4 then ⟨#[107, 57]⟩ else ⟨#[122, 122, 122, 122, 122, 122, 122, 122]⟩
def keyN (n : Int) : ByteArray := k6 (pk n 6)
def vv (d : Int) : ByteArray := (⟨#[118]⟩ : ByteArray) ++ (⟨#[48, 49, 50, 51, 52, 53, 54, 55, 56, 57]⟩ : ByteArray).extract d.toNat (d + 1).toNat ++ (⟨#[0]⟩ : ByteArray)
def valN (n : Int) : ByteArray := if pk n 30 < 6 then ⟨#[]⟩ else vv (pk n 30 % 10)

section
variable {R : Ending → World → Prop}

set_option maxHeartbeats 400000 in
theorem pick_any (c n : Int) (w : World) (hc : -9223372036854775808 ≤ c ∧ c ≤ 9223372036854775807) (hn : 0 < n ∧ n ≤ 1000000) (hR : R (.returned (.int .i64 (pk c n))) w) :
    Calls Tryd.prog 20 #[.int .i64 c, .int .i64 n] w R := by
  have HR := hid_of hR
  clear hR
  by_cases h0 : c < 0
  · have d0 : decide (c < 0) = true := by simpa using h0
    have e1 : (-(c + 1)).tmod n = pk c n := by rw [pk, if_pos h0, Int.tmod_eq_emod_of_nonneg (by omega)]
    have b1 := pk_lt c hn.1
    go_enter Tryd.func20, Tryd.ntmps20
    go_wp2
    exact HR.out
  · have d0 : decide (c < 0) = false := by simpa using h0
    have e1 : c.tmod n = pk c n := by rw [pk, if_neg h0, Int.tmod_eq_emod_of_nonneg (by omega)]
    have b1 := pk_lt c hn.1
    go_enter Tryd.func20, Tryd.ntmps20
    go_wp2
    exact HR.out

set_option maxRecDepth 20000 in
set_option maxHeartbeats 4000000 in
theorem key_any (n : Int) (w : World) (hc : -9223372036854775808 ≤ n ∧ n ≤ 9223372036854775807) (hR : ∀ w', Kp (fun _ => False) w w' → R (.returned (.string (keyN n))) w') :
    Calls Tryd.prog 10 #[.int .i64 n] w R := by
  have HR := hid_of hR
  have HC := hid_of hc
  clear hR hc
  have b1 := pk_lt n (n := 6) (by decide)
  have hq : pk n 6 = 0 ∨ pk n 6 = 1 ∨ pk n 6 = 2 ∨ pk n 6 = 3 ∨ pk n 6 = 4 ∨ pk n 6 = 5 := by omega
  clear b1
  rcases hq with e | e | e | e | e | e
  all_goals
    rw [show keyN n = k6 (pk n 6) from rfl, e] at HR
    have E := hid_of e
    clear e
    go_enter Tryd.func10, Tryd.ntmps10
    go_wp2_with (first
      | (go_at_call 20; refine pick_any _ _ _ HC.out (by decide) ?_; rw [E.out])
      | go_in)
    exact HR.out _ (Kp.alloc (fun _ => False) _ _)

set_option maxRecDepth 20000 in
set_option maxHeartbeats 4000000 in
theorem value_any (n : Int) (w : World) (hc : -9223372036854775808 ≤ n ∧ n ≤ 9223372036854775807) (hR : R (.returned (.string (valN n))) w) :
    Calls Tryd.prog 11 #[.int .i64 n] w R := by
  have HR := hid_of hR
  have HC := hid_of hc
  clear hR hc
  have b1 := pk_lt n (n := 30) (by decide)
  by_cases h6 : pk n 30 < 6
  · have eV : valN n = ⟨#[]⟩ := by simp [valN, h6]
    rw [eV] at HR
    have d6 : decide (pk n 30 < 6) = true := by simpa using h6
    clear eV
    go_enter Tryd.func11, Tryd.ntmps11
    go_wp2_with (first
      | (go_at_call 20; refine pick_any _ _ _ HC.out (by decide) ?_)
      | go_in)
    exact HR.out
  · have d6 : decide (pk n 30 < 6) = false := by simpa using h6
    have e10 : (pk n 30).tmod 10 = pk n 30 % 10 := Int.tmod_eq_emod_of_nonneg (by omega)
    have b3 : 0 ≤ pk n 30 % 10 ∧ pk n 30 % 10 < 10 := by omega
    have eV : valN n = vv (pk n 30 % 10) := by simp [valN, h6]
    rw [eV] at HR
    clear eV
    go_enter Tryd.func11, Tryd.ntmps11
    go_wp2_with (first
      | (go_at_call 20; refine pick_any _ _ _ HC.out (by decide) ?_)
      | go_in)
    exact HR.out

theorem valN_size (n : Int) : (valN n).size ≤ 20 := by
  unfold valN
  split
  · simp [ByteArray.size]
  · simp [vv, ByteArray.size_append, ByteArray.size_extract]
    simp [ByteArray.size]
    omega

theorem keyN_key (n : Int) : isKey (keyN n) = true := by
  have b1 := pk_lt n (n := 6) (by decide)
  have hq : pk n 6 = 0 ∨ pk n 6 = 1 ∨ pk n 6 = 2 ∨ pk n 6 = 3 ∨ pk n 6 = 4 ∨ pk n 6 = 5 := by omega
  unfold keyN
  rcases hq with e | e | e | e | e | e <;> rw [e] <;> decide

end

end Go.Proofs.YthbdpfccfcceiaaDoor
