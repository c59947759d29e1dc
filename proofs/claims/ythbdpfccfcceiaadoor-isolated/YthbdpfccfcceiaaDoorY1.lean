/-
  The sum of bytes: by bits as the document says it, by a table of the sums of one byte; another byte gives another sum.
-/
import Derived.Test.YthbdpfccfcceiaaDoorX1K1
namespace Go.Proofs.YthbdpfccfcceiaaDoor

def crcBit (s : Nat) : Nat := if s % 2 = 1 then (s / 2) ^^^ 3988292384 else s / 2
def crc8 (s : Nat) : Nat := crcBit (crcBit (crcBit (crcBit (crcBit (crcBit (crcBit (crcBit s)))))))
def crcByte (s b : Nat) : Nat := crc8 (s ^^^ b)
def crcB (l : List Nat) : Nat := l.foldl crcByte 4294967295

theorem crcBit_lt {s : Nat} (h : s < 4294967296) : crcBit s < 4294967296 := by
  unfold crcBit
  split
  · exact Nat.xor_lt_two_pow (n := 32) (by omega) (by omega)
  · omega
theorem crc8_lt {s : Nat} (h : s < 4294967296) : crc8 s < 4294967296 := crcBit_lt (crcBit_lt (crcBit_lt (crcBit_lt (crcBit_lt (crcBit_lt (crcBit_lt (crcBit_lt h)))))))
theorem crcByte_lt {s b : Nat} (h : s < 4294967296) (hb : b < 256) : crcByte s b < 4294967296 := crc8_lt (Nat.xor_lt_two_pow (n := 32) h (by omega))
theorem crcB_lt {l : List Nat} (hl : ∀ b ∈ l, b < 256) : crcB l < 4294967296 := by
  have : ∀ (l : List Nat) (s : Nat), (∀ b ∈ l, b < 256) → s < 4294967296 → l.foldl crcByte s < 4294967296 := by
    intro l
    induction l with
    | nil => intro s _ h; exact h
    | cons b r ih => intro s hl h; exact ih _ (fun x hx => hl x (List.mem_cons_of_mem _ hx)) (crcByte_lt h (hl b (by simp)))
  exact this l _ hl (by decide)

theorem crcBit_xor (x y : Nat) : crcBit (x ^^^ y) = crcBit x ^^^ crcBit y := by
  have h2 : (x ^^^ y) / 2 = x / 2 ^^^ y / 2 := by
    apply Nat.eq_of_testBit_eq; intro i
    simp [Nat.testBit_div_two, Nat.testBit_xor]
  have hm : (x ^^^ y) % 2 = (x % 2 + y % 2) % 2 := by
    have e := Nat.testBit_xor x y 0
    simp only [Nat.testBit_zero] at e
    rcases Nat.mod_two_eq_zero_or_one x with hx | hx <;> rcases Nat.mod_two_eq_zero_or_one y with hy | hy <;> rcases Nat.mod_two_eq_zero_or_one (x ^^^ y) with hz | hz <;> rw [hx, hy, hz] at e <;> revert e <;> rw [hx, hy, hz] <;> decide
  unfold crcBit
  rw [h2, hm]
  rcases Nat.mod_two_eq_zero_or_one x with hx | hx <;> rcases Nat.mod_two_eq_zero_or_one y with hy | hy <;> simp [hx, hy]
  · rw [Nat.xor_assoc]
  · rw [Nat.xor_assoc, Nat.xor_assoc]; congr 1; exact Nat.xor_comm _ _
  · have : x / 2 ^^^ 3988292384 ^^^ (y / 2 ^^^ 3988292384) = x / 2 ^^^ y / 2 ^^^ (3988292384 ^^^ 3988292384) := by
      rw [Nat.xor_assoc, Nat.xor_assoc, ← Nat.xor_assoc 3988292384, Nat.xor_comm 3988292384 (y / 2), Nat.xor_assoc]
    rw [this, Nat.xor_self, Nat.xor_zero]

theorem crc8_xor (x y : Nat) : crc8 (x ^^^ y) = crc8 x ^^^ crc8 y := by simp only [crc8, crcBit_xor]

theorem crcBit_even (q : Nat) : crcBit (2 * q) = q := by
  unfold crcBit
  have : ¬ (2 * q) % 2 = 1 := by omega
  rw [if_neg this]; omega

theorem crc8_high (q : Nat) : crc8 (256 * q) = q := by
  have e : 256 * q = 2 * (2 * (2 * (2 * (2 * (2 * (2 * (2 * q))))))) := by omega
  rw [crc8, e]
  simp only [crcBit_even]

theorem split256 (x : Nat) : x = (x % 256) ^^^ (256 * (x / 256)) := by
  apply Nat.eq_of_testBit_eq; intro i
  rw [Nat.testBit_xor, show 256 = 2 ^ 8 from rfl, Nat.testBit_mod_two_pow, Nat.testBit_two_pow_mul, Nat.testBit_div_two_pow]
  by_cases h : i < 8
  · have : ¬ 8 ≤ i := by omega
    simp [h, this]
  · have : 8 ≤ i := by omega
    simp [h, this]

theorem crc8_split (x : Nat) : crc8 x = crc8 (x % 256) ^^^ (x / 256) := by
  conv => lhs; rw [split256 x]
  rw [crc8_xor, crc8_high]

theorem crcByte_table {s b : Nat} (hb : b < 256) : crcByte s b = crc8 ((s ^^^ b) % 256) ^^^ (s / 256) := by
  unfold crcByte
  rw [crc8_split]
  congr 1
  have : (s ^^^ b) / 256 = s / 256 ^^^ b / 256 := by
    apply Nat.eq_of_testBit_eq; intro i
    rw [show 256 = 2 ^ 8 from rfl, Nat.testBit_xor, Nat.testBit_div_two_pow, Nat.testBit_div_two_pow, Nat.testBit_div_two_pow, Nat.testBit_xor]
  rw [this, Nat.div_eq_of_lt hb, Nat.xor_zero]

theorem crcBit_inj {x y : Nat} (hx : x < 4294967296) (hy : y < 4294967296) (h : crcBit x = crcBit y) : x = y := by
  have top : ∀ {a : Nat}, a < 4294967296 → (crcBit a).testBit 31 = decide (a % 2 = 1) := fun {a} ha => by
    unfold crcBit
    have h31 : (a / 2).testBit 31 = false := Nat.testBit_lt_two_pow (by omega)
    split
    · rename_i h1
      rw [Nat.testBit_xor, h31, h1]; decide
    · rename_i h1
      rw [h31]; simp; omega
  have hp : decide (x % 2 = 1) = decide (y % 2 = 1) := by rw [← top hx, ← top hy, h]
  unfold crcBit at h
  by_cases h1 : x % 2 = 1
  · have h2 : y % 2 = 1 := by simpa [h1] using hp.symm
    rw [if_pos h1, if_pos h2] at h
    have : x / 2 = y / 2 := by
      have := congrArg (· ^^^ 3988292384) h
      simpa [Nat.xor_assoc] using this
    omega
  · have h2 : ¬ y % 2 = 1 := by simpa [h1] using hp.symm
    rw [if_neg h1, if_neg h2] at h
    omega

theorem crc8_inj {x y : Nat} (hx : x < 4294967296) (hy : y < 4294967296) (h : crc8 x = crc8 y) : x = y := by
  have l := @crcBit_lt
  unfold crc8 at h
  have h1 := crcBit_inj (l (l (l (l (l (l (l hx))))))) (l (l (l (l (l (l (l hy))))))) h
  have h2 := crcBit_inj (l (l (l (l (l (l hx)))))) (l (l (l (l (l (l hy)))))) h1
  have h3 := crcBit_inj (l (l (l (l (l hx))))) (l (l (l (l (l hy))))) h2
  have h4 := crcBit_inj (l (l (l (l hx)))) (l (l (l (l hy)))) h3
  have h5 := crcBit_inj (l (l (l hx))) (l (l (l hy))) h4
  have h6 := crcBit_inj (l (l hx)) (l (l hy)) h5
  have h7 := crcBit_inj (l hx) (l hy) h6
  exact crcBit_inj hx hy h7

theorem xor_cancel {a b c : Nat} (h : a ^^^ c = b ^^^ c) : a = b := by
  have := congrArg (· ^^^ c) h
  simpa [Nat.xor_assoc] using this

theorem crcByte_inj_s {s t b : Nat} (hs : s < 4294967296) (ht : t < 4294967296) (hb : b < 256) (h : crcByte s b = crcByte t b) : s = t :=
  xor_cancel (crc8_inj (Nat.xor_lt_two_pow (n := 32) hs (by omega)) (Nat.xor_lt_two_pow (n := 32) ht (by omega)) h)
theorem crcByte_inj_b {s b c : Nat} (hs : s < 4294967296) (hb : b < 256) (hc : c < 256) (h : crcByte s b = crcByte s c) : b = c := by
  have := crc8_inj (Nat.xor_lt_two_pow (n := 32) hs (by omega)) (Nat.xor_lt_two_pow (n := 32) hs (by omega)) h
  rw [Nat.xor_comm s b, Nat.xor_comm s c] at this
  exact xor_cancel this

/-- Another byte, another sum. -/
theorem crcB_change {p q : List Nat} {b c : Nat} (hp : ∀ x ∈ p, x < 256) (hq : ∀ x ∈ q, x < 256) (hb : b < 256) (hc : c < 256) (h : crcB (p ++ b :: q) = crcB (p ++ c :: q)) : b = c := by
  have inj : ∀ (q : List Nat) (s t : Nat), (∀ x ∈ q, x < 256) → s < 4294967296 → t < 4294967296 → q.foldl crcByte s = q.foldl crcByte t → s = t := by
    intro q
    induction q with
    | nil => intro s t _ _ _ h; exact h
    | cons x r ih =>
      intro s t hq hs ht h
      have hx := hq x (by simp)
      exact crcByte_inj_s hs ht hx (ih _ _ (fun y hy => hq y (List.mem_cons_of_mem _ hy)) (crcByte_lt hs hx) (crcByte_lt ht hx) h)
  unfold crcB at h
  rw [List.foldl_append, List.foldl_append, List.foldl_cons, List.foldl_cons] at h
  have hs := crcB_lt hp
  unfold crcB at hs
  exact crcByte_inj_b hs hb hc (inj q _ _ hq (crcByte_lt hs hb) (crcByte_lt hs hc) h)

end Go.Proofs.YthbdpfccfcceiaaDoor
