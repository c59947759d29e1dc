/-
  What the small functions on texts answer: the key test of the program, the key test of the document's answer, the value test.
-/
import Derived.Test.YthbdpfccfcceiaaDoorRows
import Derived.WalkKit
import Derived.WalkSpells
import Derived.WalkLawsBesides
namespace Go.Proofs.YthbdpfccfcceiaaDoor
open Go.RowKit

def kb (c : UInt8) : Bool := decide (97 ≤ (c.toNat : Int) ∧ (c.toNat : Int) ≤ 122 ∨ 48 ≤ (c.toNat : Int) ∧ (c.toNat : Int) ≤ 57)
def isKey (s : ByteArray) : Bool := decide (1 ≤ s.size) && (decide (s.size ≤ 8) && s.data.toList.all kb)

theorem ret_bool {a b : Bool} (h : a = b) : Ending.returned (.bool a) = .returned (.bool b) := by rw [h]

theorem take_snoc (s : ByteArray) (k : Nat) (h : k < s.size) : s.data.toList.take (k + 1) = s.data.toList.take k ++ [s[k]] := by
  rw [List.take_succ_eq_append_getElem (by simpa using h)]; rfl

theorem isKey_bad (s : ByteArray) (k : Nat) (h : k < s.size) (hb : kb s[k] = false) : false = isKey s := by
  have : s.data.toList.all kb = false := by
    rw [List.all_eq_false]
    exact ⟨s[k], List.getElem_mem (l := s.data.toList) (n := k) (by simpa using h), by simp [hb]⟩
  simp [isKey, this]
theorem isKey_len (s : ByteArray) (h : ¬ (1 ≤ s.size ∧ s.size ≤ 8)) : isKey s = false := by
  unfold isKey
  by_cases h1 : 1 ≤ s.size
  · have : ¬ s.size ≤ 8 := fun h2 => h ⟨h1, h2⟩
    simp [this]
  · simp [h1]
theorem isKey_all (s : ByteArray) (k : Nat) (hk : s.size ≤ k) (hall : (s.data.toList.take k).all kb = true) : isKey s = (decide (1 ≤ s.size) && decide (s.size ≤ 8)) := by
  rw [List.take_of_length_le (by simpa using hk)] at hall
  unfold isKey
  rw [hall]; simp

set_option maxHeartbeats 400000 in
theorem isKeyByte_any (c : UInt8) (w : World) :
    Calls Tryd.prog 48 #[.int .u8 c.toNat] w fun e w' => e = .returned (.bool (kb c)) ∧ w' = w := by
  go_enter Tryd.func48, Tryd.ntmps48
  go_wp2
  all_goals
    go_ret
    exact ⟨ret_bool (by unfold kb; rw [Bool.eq_iff_iff]; simp <;> omega), rfl⟩

set_option maxHeartbeats 400000 in
theorem isKey_any (s : ByteArray) (w : World) (hs : s.size ≤ maxLen) :
    Calls Tryd.prog 31 #[.string s] w fun e w' => e = .returned (.bool (isKey s)) ∧ w' = w := by
  unfold maxLen at hs
  by_cases h1 : s.size < 1
  · have h1' : (s.size : Int) < 1 := by omega
    go_enter Tryd.func31, Tryd.ntmps31
    go_wp2
    go_ret
    exact ⟨ret_bool (by unfold isKey; simp; omega), rfl⟩
  by_cases h8 : 8 < s.size
  · have h8' : (8 : Int) < s.size := by omega
    have h1' : ¬ (s.size : Int) < 1 := by omega
    go_enter Tryd.func31, Tryd.ntmps31
    go_wp2
    go_ret
    exact ⟨ret_bool (by unfold isKey; simp; omega), rfl⟩
  have h8' : ¬ (8 : Int) < s.size := by omega
  have h1' : ¬ (s.size : Int) < 1 := by omega
  go_enter Tryd.func31, Tryd.ntmps31
  go_wp2
  go_loop [14] (fun i => ∃ k : Nat, k ≤ s.size ∧ i = .int .i64 k ∧ (s.data.toList.take k).all kb = true) (fun i => s.size - (intOf i).toNat)
  case atStart => exact ⟨0, Nat.zero_le _, rfl, rfl⟩
  case round =>
    obtain ⟨k, hk, rfl, hall⟩ := hrel
    by_cases hlt : k < s.size
    · have HT : Hid (s.data.toList.take (k + 1) = s.data.toList.take k ++ [s[k]]) := take_snoc s k hlt
      cases hb : kb s[k]
      · go_wp2_with (go_at_call 48; refine (isKeyByte_any _ _).mono ?_; rintro e w' ⟨rfl, rfl⟩)
        go_ret
        exact ⟨ret_bool (isKey_bad s k hlt hb), rfl⟩
      · go_wp2_with (go_at_call 48; refine (isKeyByte_any _ _).mono ?_; rintro e w' ⟨rfl, rfl⟩)
        go_round
        case rel => exact ⟨k + 1, by omega, by go_num, by rw [HT.out]; simp [hall, hb]⟩
        case measure => simp [intOf]; omega
    · go_wp2
      go_ret
      exact ⟨ret_bool (by rw [isKey_all s k (by omega) hall]; simp; omega), rfl⟩

set_option maxHeartbeats 400000 in
theorem isValue_any (s : ByteArray) (w : World) (hs : s.size ≤ maxLen) :
    Calls Tryd.prog 41 #[.string s] w fun e w' => e = .returned (.bool (decide (s.size ≤ 20))) ∧ w' = w := by
  unfold maxLen at hs
  go_enter Tryd.func41, Tryd.ntmps41
  go_wp2
  go_ret
  exact ⟨ret_bool (by rw [Bool.eq_iff_iff]; simp <;> omega), rfl⟩

end Go.Proofs.YthbdpfccfcceiaaDoor
