/-
  The sum of bytes: by bits as the document says it, by a table of the sums of one byte; another byte gives another sum.
  The bytes of a log, plainly: numbers, texts, versions, records, files.
  The sums of the program: the table of the sums of one byte, the sum of a row of bytes.
  The sum of a row of bytes.
-/
import Derived.Test.YthbdpfccfcceiaaGreatDoorW1M1K1R1R2X1
import Derived.Laws.Bits64
namespace Go.Proofs.YthbdpfccfcceiaaGreatDoor

def crcBit (s : Nat) : Nat := if s % 2 = 1 then (s / 2) ^^^ 3988292384 else s / 2
def crc8 (s : Nat) : Nat := crcBit (crcBit (crcBit (crcBit (crcBit (crcBit (crcBit (crcBit s)))))))
def crcByte (s b : Nat) : Nat := crc8 (s ^^^ b)
def crcB (l : List Nat) : Nat := l.foldl crcByte 4294967295

theorem crcBit_lt {s : Nat} (h : s < 4294967296) : crcBit s < 4294967296 := by
  unfold crcBit
  split
  · exact Nat.xor_lt_two_pow (n := 32) (by omega) (by omega)
  · omega
theorem crc8_lt {s : Nat} (h : s < 4294967296) : crc8 s < 4294967296 := crcBit_lt (crcBit_lt (crcBit_lt (crcBit_lt (crcBit_lt (crcBit_lt (crcBit_lt (crcBit_lt h)))))))
theorem crcByte_lt {s b : Nat} (h : s < 4294967296) (hb : b < 256) : crcByte s b < 4294967296 := crc8_lt (Nat.xor_lt_two_pow (n := 32) h (by omega))
theorem crcB_lt {l : List Nat} (hl : ∀ b ∈ l, b < 256) : crcB l < 4294967296 := by
  have : ∀ (l : List Nat) (s : Nat), (∀ b ∈ l, b < 256) → s < 4294967296 → l.foldl crcByte s < 4294967296 := by
    intro l
    induction l with
    | nil => intro s _ h; exact h
    | cons b r ih => intro s hl h; exact ih _ (fun x hx => hl x (List.mem_cons_of_mem _ hx)) (crcByte_lt h (hl b (by simp)))
  exact this l _ hl (by decide)

theorem crcBit_xor (x y : Nat) : crcBit (x ^^^ y) = crcBit x ^^^ crcBit y := by
  have h2 : (x ^^^ y) / 2 = x / 2 ^^^ y / 2 := by
    apply Nat.eq_of_testBit_eq; intro i
    simp [Nat.testBit_div_two, Nat.testBit_xor]
  have hm : (x ^^^ y) % 2 = (x % 2 + y % 2) % 2 := by
    have e := Nat.testBit_xor x y 0
    simp only [Nat.testBit_zero] at e
    rcases Nat.mod_two_eq_zero_or_one x with hx | hx <;> rcases Nat.mod_two_eq_zero_or_one y with hy | hy <;> rcases Nat.mod_two_eq_zero_or_one (x ^^^ y) with hz | hz <;> rw [hx, hy, hz] at e <;> revert e <;> rw [hx, hy, hz] <;> decide
  unfold crcBit
  rw [h2, hm]
  rcases Nat.mod_two_eq_zero_or_one x with hx | hx <;> rcases Nat.mod_two_eq_zero_or_one y with hy | hy <;> simp [hx, hy]
  · rw [Nat.xor_assoc]
  · rw [Nat.xor_assoc, Nat.xor_assoc]; congr 1; exact Nat.xor_comm _ _
  · have : x / 2 ^^^ 3988292384 ^^^ (y / 2 ^^^ 3988292384) = x / 2 ^^^ y / 2 ^^^ (3988292384 ^^^ 3988292384) := by
      rw [Nat.xor_assoc, Nat.xor_assoc, ← Nat.xor_assoc 3988292384, Nat.xor_comm 3988292384 (y / 2), Nat.xor_assoc]
    rw [this, Nat.xor_self, Nat.xor_zero]

theorem crc8_xor (x y : Nat) : crc8 (x ^^^ y) = crc8 x ^^^ crc8 y := by simp only [crc8, crcBit_xor]

theorem crcBit_even (q : Nat) : crcBit (2 * q) = q := by
  unfold crcBit
  have : ¬ (2 * q) % 2 = 1 := by omega
  rw [if_neg this]; omega

theorem crc8_high (q : Nat) : crc8 (256 * q) = q := by
  have e : 256 * q = 2 * (2 * (2 * (2 * (2 * (2 * (2 * (2 * q))))))) := by omega
  rw [crc8, e]
  simp only [crcBit_even]

theorem split256 (x : Nat) : x = (x % 256) ^^^ (256 * (x / 256)) := by
  apply Nat.eq_of_testBit_eq; intro i
  rw [Nat.testBit_xor, show 256 = 2 ^ 8 from rfl, Nat.testBit_mod_two_pow, Nat.testBit_two_pow_mul, Nat.testBit_div_two_pow]
  by_cases h : i < 8
  · have : ¬ 8 ≤ i := by omega
    simp [h, this]
  · have : 8 ≤ i := by omega
    simp [h, this]

theorem crc8_split (x : Nat) : crc8 x = crc8 (x % 256) ^^^ (x / 256) := by
  conv => lhs; rw [split256 x]
  rw [crc8_xor, crc8_high]

theorem crcByte_table {s b : Nat} (hb : b < 256) : crcByte s b = crc8 ((s ^^^ b) % 256) ^^^ (s / 256) := by
  unfold crcByte
  rw [crc8_split]
  congr 1
  have : (s ^^^ b) / 256 = s / 256 ^^^ b / 256 := by
    apply Nat.eq_of_testBit_eq; intro i
    rw [show 256 = 2 ^ 8 from rfl, Nat.testBit_xor, Nat.testBit_div_two_pow, Nat.testBit_div_two_pow, Nat.testBit_div_two_pow, Nat.testBit_xor]
  rw [this, Nat.div_eq_of_lt hb, Nat.xor_zero]

theorem crcBit_inj {x y : Nat} (hx : x < 4294967296) (hy : y < 4294967296) (h : crcBit x = crcBit y) : x = y := by
  have top : ∀ {a : Nat}, a < 4294967296 → (crcBit a).testBit 31 = decide (a % 2 = 1) := fun {a} ha => by
    unfold crcBit
    have h31 : (a / 2).testBit 31 = false := Nat.testBit_lt_two_pow (by omega)
    split
    · rename_i h1
      rw [Nat.testBit_xor, h31, h1]; decide
    · rename_i h1
      rw [h31]; simp; omega
  have hp : decide (x % 2 = 1) = decide (y % 2 = 1) := by rw [← top hx, ← top hy, h]
  unfold crcBit at h
  by_cases h1 : x % 2 = 1
  · have h2 : y % 2 = 1 := by simpa [h1] using hp.symm
    rw [if_pos h1, if_pos h2] at h
    have : x / 2 = y / 2 := by
      have := congrArg (· ^^^ 3988292384) h
      simpa [Nat.xor_assoc] using this
    omega
  · have h2 : ¬ y % 2 = 1 := by simpa [h1] using hp.symm
    rw [if_neg h1, if_neg h2] at h
    omega

theorem crc8_inj {x y : Nat} (hx : x < 4294967296) (hy : y < 4294967296) (h : crc8 x = crc8 y) : x = y := by
  have l := @crcBit_lt
  unfold crc8 at h
  have h1 := crcBit_inj (l (l (l (l (l (l (l hx))))))) (l (l (l (l (l (l (l hy))))))) h
  have h2 := crcBit_inj (l (l (l (l (l (l hx)))))) (l (l (l (l (l (l hy)))))) h1
  have h3 := crcBit_inj (l (l (l (l (l hx))))) (l (l (l (l (l hy))))) h2
  have h4 := crcBit_inj (l (l (l (l hx)))) (l (l (l (l hy)))) h3
  have h5 := crcBit_inj (l (l (l hx))) (l (l (l hy))) h4
  have h6 := crcBit_inj (l (l hx)) (l (l hy)) h5
  have h7 := crcBit_inj (l hx) (l hy) h6
  exact crcBit_inj hx hy h7

theorem xor_cancel {a b c : Nat} (h : a ^^^ c = b ^^^ c) : a = b := by
  have := congrArg (· ^^^ c) h
  simpa [Nat.xor_assoc] using this

theorem crcByte_inj_s {s t b : Nat} (hs : s < 4294967296) (ht : t < 4294967296) (hb : b < 256) (h : crcByte s b = crcByte t b) : s = t :=
  xor_cancel (crc8_inj (Nat.xor_lt_two_pow (n := 32) hs (by omega)) (Nat.xor_lt_two_pow (n := 32) ht (by omega)) h)
theorem crcByte_inj_b {s b c : Nat} (hs : s < 4294967296) (hb : b < 256) (hc : c < 256) (h : crcByte s b = crcByte s c) : b = c := by
  have := crc8_inj (Nat.xor_lt_two_pow (n := 32) hs (by omega)) (Nat.xor_lt_two_pow (n := 32) hs (by omega)) h
  rw [Nat.xor_comm s b, Nat.xor_comm s c] at this
  exact xor_cancel this

/-- Another byte, another sum. -/
theorem crcB_change {p q : List Nat} {b c : Nat} (hp : ∀ x ∈ p, x < 256) (hq : ∀ x ∈ q, x < 256) (hb : b < 256) (hc : c < 256) (h : crcB (p ++ b :: q) = crcB (p ++ c :: q)) : b = c := by
  have inj : ∀ (q : List Nat) (s t : Nat), (∀ x ∈ q, x < 256) → s < 4294967296 → t < 4294967296 → q.foldl crcByte s = q.foldl crcByte t → s = t := by
    intro q
    induction q with
    | nil => intro s t _ _ _ h; exact h
    | cons x r ih =>
      intro s t hq hs ht h
      have hx := hq x (by simp)
      exact crcByte_inj_s hs ht hx (ih _ _ (fun y hy => hq y (List.mem_cons_of_mem _ hy)) (crcByte_lt hs hx) (crcByte_lt ht hx) h)
  unfold crcB at h
  rw [List.foldl_append, List.foldl_append, List.foldl_cons, List.foldl_cons] at h
  have hs := crcB_lt hp
  unfold crcB at hs
  exact crcByte_inj_b hs hb hc (inj q _ _ hq (crcByte_lt hs hb) (crcByte_lt hs hc) h)

end Go.Proofs.YthbdpfccfcceiaaGreatDoor

namespace Go.Proofs.YthbdpfccfcceiaaGreatDoor

def u8 (n : Nat) : UInt8 := UInt8.ofNat n
def fourB (n : Nat) : List UInt8 := [u8 n, u8 (n / 256), u8 (n / 65536), u8 (n / 16777216)]
def sumB (bs : List UInt8) : Nat := 4294967295 - crcB (bs.map UInt8.toNat)
def sealB (bs : List UInt8) : List UInt8 := bs ++ fourB (sumB bs)
def openB (i : Nat) : List UInt8 := sealB ([80, 76, 49] ++ fourB i)
def textB (s : ByteArray) : List UInt8 := u8 s.size :: s.data.toList
def verB (v : ByteArray × Bool) : List UInt8 := if v.2 then [1] else 0 :: textB v.1
def writeB (x : ByteArray × ByteArray × Bool) : List UInt8 := textB x.1 ++ verB x.2
def bodyC (t : Nat) (ws : List (ByteArray × ByteArray × Bool)) : List UInt8 := 67 :: (fourB t ++ (u8 ws.length :: ws.flatMap writeB))
def bodyH (t : Nat) : List UInt8 := 72 :: fourB t
def frameB (b : List UInt8) : List UInt8 := sealB (u8 b.length :: u8 (b.length / 256) :: b)

/-- The files of a log, a record more. -/
def addF (fs : List (List UInt8)) (n : Nat) (b : List UInt8) : List (List UInt8) :=
  if n % 4 = 0 then fs ++ [openB fs.length ++ frameB b] else fs.dropLast ++ [fs.getLastD [] ++ frameB b]
def filesN : List (List UInt8) → List (List UInt8) → Nat → List (List UInt8)
  | fs, [], _ => fs
  | fs, b :: r, n => filesN (addF fs n b) r (n + 1)
/-- The files of a log whose records' bodies these are. -/
def filesB (lg : List (List UInt8)) : List (List UInt8) := filesN [] lg 0

theorem u8_toNat (n : Nat) : (u8 n).toNat = n % 256 := by simp [u8]
theorem fourB_length (n : Nat) : (fourB n).length = 4 := rfl
theorem sealB_length (bs : List UInt8) : (sealB bs).length = bs.length + 4 := by simp [sealB, fourB_length]
theorem openB_length (i : Nat) : (openB i).length = 11 := by simp [openB, sealB_length, fourB_length]
theorem frameB_length (b : List UInt8) : (frameB b).length = b.length + 6 := by simp [frameB, sealB_length]
theorem textB_length (s : ByteArray) : (textB s).length = s.size + 1 := by simp [textB]
theorem verB_length_le (v : ByteArray × Bool) : (verB v).length ≤ v.1.size + 2 := by unfold verB; split <;> simp [textB_length] <;> omega
theorem writeB_length_le (x : ByteArray × ByteArray × Bool) : (writeB x).length ≤ x.1.size + x.2.1.size + 3 := by
  have := verB_length_le x.2
  simp [writeB, textB_length]; omega
theorem flatMap_le {α : Type} (f : α → List UInt8) (k : Nat) : ∀ (l : List α), (∀ x ∈ l, (f x).length ≤ k) → (l.flatMap f).length ≤ l.length * k
  | [], _ => by simp
  | x :: r, h => by
    have h1 := h x (by simp)
    have h2 := flatMap_le f k r (fun y hy => h y (by simp [hy]))
    rw [List.flatMap_cons, List.length_append, List.length_cons, Nat.add_mul]; omega
theorem bodyC_length_le (t : Nat) (ws : List (ByteArray × ByteArray × Bool)) (h : ∀ x ∈ ws, x.1.size ≤ 8 ∧ x.2.1.size ≤ 20) : (bodyC t ws).length ≤ 6 + ws.length * 31 := by
  have := flatMap_le writeB 31 ws (fun x hx => Nat.le_trans (writeB_length_le x) (by have := h x hx; omega))
  simp only [bodyC, List.length_cons, List.length_append, fourB_length]; omega
theorem bodyH_length (t : Nat) : (bodyH t).length = 5 := by simp [bodyH, fourB_length]

theorem filesN_snoc : ∀ (lg fs : List (List UInt8)) (n : Nat) (b : List UInt8), filesN fs (lg ++ [b]) n = addF (filesN fs lg n) (n + lg.length) b
  | [], fs, n, b => by simp [filesN]
  | x :: r, fs, n, b => by
    show filesN (addF fs n x) (r ++ [b]) (n + 1) = _
    rw [filesN_snoc r, filesN]
    congr 1
    simp; omega
theorem filesB_snoc (lg : List (List UInt8)) (b : List UInt8) : filesB (lg ++ [b]) = addF (filesB lg) lg.length b := by
  unfold filesB; rw [filesN_snoc]; simp

theorem snoc_ind {α : Type} {P : List α → Prop} (h0 : P []) (h1 : ∀ l x, P l → P (l ++ [x])) : ∀ l, P l := by
  intro l
  rw [← List.reverse_reverse l]
  induction l.reverse with
  | nil => exact h0
  | cons x r ih => rw [List.reverse_cons]; exact h1 _ _ ih

theorem addF_length (fs : List (List UInt8)) (n : Nat) (b : List UInt8) (h : n % 4 ≠ 0 → fs ≠ []) : (addF fs n b).length = if n % 4 = 0 then fs.length + 1 else fs.length := by
  unfold addF
  split
  · simp
  · rename_i h0
    have := List.length_pos_iff.2 (h h0)
    simp; omega
theorem filesB_length (lg : List (List UInt8)) : (filesB lg).length = (lg.length + 3) / 4 := by
  induction lg using snoc_ind with
  | h0 => rfl
  | h1 l x ih =>
    rw [filesB_snoc, addF_length]
    · rw [ih]; simp; split <;> omega
    · intro h e
      rw [e] at ih; simp at ih; omega

/-- How many bytes there are in all. -/
def bytesOf (fs : List (List UInt8)) : Nat := (fs.map List.length).sum
theorem bytesOf_append (a b : List (List UInt8)) : bytesOf (a ++ b) = bytesOf a + bytesOf b := by simp [bytesOf]
theorem bytesOf_cons (a : List UInt8) (b : List (List UInt8)) : bytesOf (a :: b) = a.length + bytesOf b := by simp [bytesOf]
theorem getLastD_eq {α : Type} (l : List α) (d : α) (h : l ≠ []) : l.getLastD d = l.getLast h := by
  cases l with
  | nil => exact absurd rfl h
  | cons a r => rfl
theorem dropLast_getLastD {α : Type} (l : List α) (d : α) (h : l ≠ []) : l.dropLast ++ [l.getLastD d] = l := by
  rw [getLastD_eq l d h]; exact List.dropLast_concat_getLast h
theorem bytesOf_addF (fs : List (List UInt8)) (n : Nat) (b : List UInt8) (h : n % 4 ≠ 0 → fs ≠ []) : bytesOf (addF fs n b) = bytesOf fs + b.length + 6 + if n % 4 = 0 then 11 else 0 := by
  unfold addF
  split
  · simp [bytesOf, openB_length, frameB_length]; omega
  · rename_i h0
    have h1 := h h0
    have h2 : bytesOf fs = bytesOf (fs.dropLast ++ [fs.getLastD []]) := by rw [dropLast_getLastD fs [] h1]
    rw [h2]
    simp only [bytesOf, List.map_append, List.map_cons, List.map_nil, List.sum_append, List.sum_cons, List.sum_nil, List.length_append, frameB_length]
    omega
theorem filesB_ne {lg : List (List UInt8)} (h : lg.length % 4 ≠ 0) : filesB lg ≠ [] := fun e => by
  have := filesB_length lg
  rw [e] at this; simp at this; omega
theorem bytesOf_filesB_le (lg : List (List UInt8)) (k : Nat) (h : ∀ b ∈ lg, b.length ≤ k) : bytesOf (filesB lg) ≤ lg.length * (k + 17) := by
  induction lg using snoc_ind with
  | h0 => simp [filesB, filesN, bytesOf]
  | h1 l x ih =>
    rw [filesB_snoc, bytesOf_addF _ _ _ (fun h => filesB_ne h)]
    have h1 := ih (fun b hb => h b (by simp [hb]))
    have h2 := h x (by simp)
    have h3 : (l ++ [x]).length * (k + 17) = l.length * (k + 17) + (k + 17) := by simp [Nat.add_mul]
    rw [h3]
    split <;> omega
theorem length_le_bytesOf {fs : List (List UInt8)} {f : List UInt8} (h : f ∈ fs) : f.length ≤ bytesOf fs := by
  obtain ⟨a, b, rfl⟩ := List.append_of_mem h
  rw [bytesOf_append, bytesOf_cons]; omega

/-- How many records the last file has. -/
def inLast (n : Nat) : Nat := if n = 0 then 0 else (n - 1) % 4 + 1
theorem inLast_four (n : Nat) : inLast n = 4 ↔ n ≠ 0 ∧ n % 4 = 0 := by unfold inLast; split <;> omega
theorem inLast_succ_new (n : Nat) (h : n % 4 = 0) : inLast (n + 1) = 1 := by unfold inLast; simp; omega
theorem inLast_succ (n : Nat) (h : n % 4 ≠ 0) : inLast (n + 1) = inLast n + 1 := by unfold inLast; simp; split <;> omega
theorem inLast_le (n : Nat) : inLast n ≤ 4 := by unfold inLast; split <;> omega
theorem filesB_nil_iff (lg : List (List UInt8)) : (filesB lg).length = 0 ↔ lg.length = 0 := by rw [filesB_length]; omega

end Go.Proofs.YthbdpfccfcceiaaGreatDoor

namespace Go.Proofs.YthbdpfccfcceiaaGreatDoor
open Go.RowKit

def b8 (b : UInt8) : Value := .int .u8 (b.toNat : Nat)
/-- A row of bytes that its owner may write on. -/
def BR (base : Nat) (w : World) (v : Value) (bs : List UInt8) : Prop := w.ownsRow base 5 1 v bs.length (bs.map b8)

/-- The tables of the program, as its text lays them. -/
def Tab (w : World) : Prop := ∀ i : Nat, i < 128 → w.cell? ⟨0, i, none⟩ = some (.int .u32 (crc8 i : Nat)) ∧ w.cell? ⟨1, i, none⟩ = some (.int .u32 (crc8 (i + 128) : Nat))

theorem Tab.lt {w : World} (h : Tab w) : 0 < w.heap.size ∧ 1 < w.heap.size := ⟨World.block_lt_of_cell? w _ (h 0 (by omega)).1, World.block_lt_of_cell? w _ (h 0 (by omega)).2⟩
theorem Tab.block {w w' : World} (h : Tab w) (h0 : w'.heap[0]? = w.heap[0]?) (h1 : w'.heap[1]? = w.heap[1]?) : Tab w' := fun i hi =>
  ⟨(World.cell?_of_block (w := w) (a := ⟨0, i, none⟩) h0).trans (h i hi).1, (World.cell?_of_block (w := w) (a := ⟨1, i, none⟩) h1).trans (h i hi).2⟩
theorem Tab.kp {S : Nat → Prop} {w w' : World} (h : Tab w) (hk : Kp S w w') (h0 : ¬ S 0) (h1 : ¬ S 1) : Tab w' := h.block (hk.block 0 h.lt.1 h0) (hk.block 1 h.lt.2 h1)
theorem Tab.kept {w w' : World} (h : Tab w) (hk : Kp (fun _ => False) w w') : Tab w' := h.kp hk (fun e => e) (fun e => e)

set_option maxRecDepth 20000 in
set_option maxHeartbeats 400000 in
theorem ofByte_any (b : Nat) (w : World) (hT : Tab w) (hb : b < 256) :
    Calls Tryz.prog 188 #[.int .u8 b] w fun e w' => e = .returned (.int .u32 (crc8 b : Nat)) ∧ w' = w := by
  by_cases h : b < 128
  · have hc := (hT b h).1
    have h' : (b : Int) < 128 := by omega
    generalize crc8 b = v at hc ⊢
    clear hT
    go_enter Tryz.func188, Tryz.ntmps188
    go_wp2
    go_ret
    exact ⟨rfl, rfl⟩
  · obtain ⟨i, rfl⟩ : ∃ i, b = i + 128 := ⟨b - 128, by omega⟩
    have hc := (hT i (by omega)).2
    have h' : ¬ ((i : Int) + 128 < 128) := by omega
    have h2 : (i : Int) < 128 := by omega
    generalize crc8 (i + 128) = v at hc ⊢
    clear hT h
    rw [show ((i + 128 : Nat) : Int) = (i : Int) + 128 from rfl]
    go_enter Tryz.func188, Tryz.ntmps188
    go_wp2
    go_ret
    exact ⟨rfl, rfl⟩

end Go.Proofs.YthbdpfccfcceiaaGreatDoor

namespace Go.Proofs.YthbdpfccfcceiaaGreatDoor
open Go.RowKit

theorem bxor_u32 (a b : Nat) (ha : a < 4294967296) (hb : b < 4294967296) : bits .xor .u32 (a : Int) (b : Int) = ((a ^^^ b : Nat) : Int) := by
  have hx : a ^^^ b < 2 ^ 32 := Nat.xor_lt_two_pow (by omega) (by omega)
  have h1 : (BitVec.ofInt 32 (a : Int)).toNat = a := by rw [BitVec.ofInt_natCast, BitVec.toNat_ofNat]; exact Nat.mod_eq_of_lt (by omega)
  have h2 : (BitVec.ofInt 32 (b : Int)).toNat = b := by rw [BitVec.ofInt_natCast, BitVec.toNat_ofNat]; exact Nat.mod_eq_of_lt (by omega)
  show IntKind.u32.wrap ((BitVec.ofInt 32 (a : Int) ^^^ BitVec.ofInt 32 (b : Int)).toNat : Int) = _
  rw [BitVec.toNat_xor, h1, h2]
  simp only [IntKind.wrap, IntKind.bits, IntKind.signed]
  simp
  omega
theorem bxor_u8 (a b : Nat) (ha : a < 256) (hb : b < 256) : bits .xor .u8 (a : Int) (b : Int) = ((a ^^^ b : Nat) : Int) := by
  have hx : a ^^^ b < 2 ^ 8 := Nat.xor_lt_two_pow (by omega) (by omega)
  have h1 : (BitVec.ofInt 8 (a : Int)).toNat = a := by rw [BitVec.ofInt_natCast, BitVec.toNat_ofNat]; exact Nat.mod_eq_of_lt (by omega)
  have h2 : (BitVec.ofInt 8 (b : Int)).toNat = b := by rw [BitVec.ofInt_natCast, BitVec.toNat_ofNat]; exact Nat.mod_eq_of_lt (by omega)
  show IntKind.u8.wrap ((BitVec.ofInt 8 (a : Int) ^^^ BitVec.ofInt 8 (b : Int)).toNat : Int) = _
  rw [BitVec.toNat_xor, h1, h2]
  simp only [IntKind.wrap, IntKind.bits, IntKind.signed]
  simp
  omega
theorem bor_u32 (a b : Nat) (ha : a < 4294967296) (hb : b < 4294967296) : bits .or .u32 (a : Int) (b : Int) = ((a ||| b : Nat) : Int) := by
  have hx : a ||| b < 2 ^ 32 := Nat.or_lt_two_pow (by omega) (by omega)
  have h1 : (BitVec.ofInt 32 (a : Int)).toNat = a := by rw [BitVec.ofInt_natCast, BitVec.toNat_ofNat]; exact Nat.mod_eq_of_lt (by omega)
  have h2 : (BitVec.ofInt 32 (b : Int)).toNat = b := by rw [BitVec.ofInt_natCast, BitVec.toNat_ofNat]; exact Nat.mod_eq_of_lt (by omega)
  show IntKind.u32.wrap ((BitVec.ofInt 32 (a : Int) ||| BitVec.ofInt 32 (b : Int)).toNat : Int) = _
  rw [BitVec.toNat_or, h1, h2]
  simp only [IntKind.wrap, IntKind.bits, IntKind.signed]
  simp
  omega

theorem bnot_u32 (a : Nat) (ha : a < 4294967296) : bits .xor .u32 IntKind.u32.max (a : Int) = ((4294967295 - a : Nat) : Int) := by
  have e : 4294967295 ^^^ a = 4294967295 - a := by
    have h1 := BitVec.toNat_not (x := BitVec.ofNat 32 a)
    rw [← BitVec.allOnes_xor, BitVec.toNat_xor, BitVec.toNat_ofNat, Nat.mod_eq_of_lt (show a < 2 ^ 32 by omega)] at h1
    simpa using h1
  rw [← e]
  exact bxor_u32 4294967295 a (by omega) ha

theorem crcB_bytes (bs : List UInt8) : crcB (bs.map UInt8.toNat) < 4294967296 := crcB_lt (fun b hb => by
  obtain ⟨x, _, rfl⟩ := List.mem_map.1 hb
  exact x.toNat_lt)
theorem sumB_lt (bs : List UInt8) : sumB bs < 4294967296 := by unfold sumB; omega

theorem take_snoc8 (bs : List UInt8) (k : Nat) (h : k < bs.length) : bs.take (k + 1) = bs.take k ++ [bs.getD k 0] := by
  rw [List.take_succ_eq_append_getElem h]
  simp [List.getD, List.getElem?_eq_getElem h]

theorem xor_mod (s b : Nat) (hb : b < 256) : s % 256 ^^^ b = (s ^^^ b) % 256 := by
  apply Nat.eq_of_testBit_eq; intro i
  rw [show 256 = 2 ^ 8 from rfl, Nat.testBit_xor, Nat.testBit_mod_two_pow, Nat.testBit_mod_two_pow, Nat.testBit_xor]
  by_cases h : i < 8
  · simp [h]
  · have : b.testBit i = false := Nat.testBit_lt_two_pow (Nat.lt_of_lt_of_le hb (by rw [show 256 = 2 ^ 8 from rfl]; exact Nat.pow_le_pow_right (by omega) (by omega)))
    simp [h, this]

theorem sum_not (bs : List UInt8) : bits .xor .u32 IntKind.u32.max ((sumB bs : Nat) : Int) = ((crcB (bs.map UInt8.toNat) : Nat) : Int) := by
  rw [bnot_u32 _ (sumB_lt bs)]
  have := crcB_bytes bs
  unfold sumB
  congr 1
  omega

theorem sum_nil : ((sumB [] : Nat) : Int) = 0 := by decide

set_option maxRecDepth 20000 in
set_option maxHeartbeats 1000000 in
theorem more_row (g o cap : Nat) (pre bs : List UInt8) (w : World) (hT : Tab w) (hl : bs.length ≤ 1000000000) (hc : ∀ j, j < bs.length → w.cell? ⟨g, o + j, none⟩ = some (b8 (bs.getD j 0))) (n0 : Int) (h0 : n0 = ((sumB pre : Nat) : Int)) :
    Calls Tryz.prog 139 #[.int .u32 n0, .slice (some ⟨g, o, none⟩) bs.length cap] w fun e w' => e = .returned (.int .u32 (sumB (pre ++ bs) : Nat)) ∧ w' = w := by
  have HC : Hid _ := hc
  have e0 : bits .xor .u32 IntKind.u32.max n0 = ((crcB ((pre ++ bs.take 0).map UInt8.toNat) : Nat) : Int) := by rw [h0, sum_not]; simp
  clear hc h0
  generalize hS0 : ((crcB ((pre ++ bs.take 0).map UInt8.toNat) : Nat) : Int) = s0 at e0
  go_enter Tryz.func139, Tryz.ntmps139
  go_wp2
  go_loop [0, 11] (fun s i => ∃ k : Nat, k ≤ bs.length ∧ i = .int .i64 k ∧ s = .int .u32 (crcB ((pre ++ bs.take k).map UInt8.toNat) : Nat)) (fun _ i => bs.length - (intOf i).toNat)
  case atStart => exact ⟨0, Nat.zero_le _, rfl, by rw [hS0]⟩
  case round =>
    obtain ⟨k, hk, rfl, rfl⟩ := hrel
    clear e0 hS0
    have hS0 := crcB_bytes (pre ++ bs.take k)
    by_cases hlt : k < bs.length
    · have hck := HC.out k hlt
      have HT : Hid (crcB ((pre ++ bs.take (k + 1)).map UInt8.toNat) = crcByte (crcB ((pre ++ bs.take k).map UInt8.toNat)) (bs.getD k 0).toNat) := by
        show _ = _
        rw [take_snoc8 bs k hlt, ← List.append_assoc]; simp [crcB]
      generalize crcB ((pre ++ bs.take k).map UInt8.toNat) = S at hS0 HT ⊢
      generalize bs.getD k 0 = B at hck HT
      unfold b8 at hck
      have hB := B.toNat_lt
      generalize B.toNat = b at hck HT hB
      have h1 : bits .xor .u8 ((S : Int) % 256) (b : Int) = (((S ^^^ b) % 256 : Nat) : Int) := by
        rw [← xor_mod S b hB]; exact bxor_u8 (S % 256) b (by omega) hB
      have h2 : bits .xor .u32 ((S : Int) / 256) ((crc8 ((S ^^^ b) % 256) : Nat) : Int) = ((crcByte S b : Nat) : Int) := by
        rw [crcByte_table hB, Nat.xor_comm (crc8 ((S ^^^ b) % 256))]
        exact bxor_u32 (S / 256) (crc8 ((S ^^^ b) % 256)) (by omega) (crc8_lt (by omega))
      have HB : Hid ((S ^^^ b) % 256 < 256) := Nat.mod_lt _ (by omega)
      generalize (S ^^^ b) % 256 = x at h1 h2 HB
      go_wp2_with (go_at_call 188; refine (ofByte_any _ _ hT HB.out).mono ?_; rintro e w' ⟨rfl, rfl⟩)
      go_round
      case rel => exact ⟨k + 1, by omega, by go_num, by rw [HT.out]⟩
      case measure => simp [intOf]; omega
    · have hk' : k = bs.length := by omega
      subst hk'
      have h3 := bnot_u32 _ hS0
      rw [List.take_length] at h3 ⊢
      have HS : Hid (sumB (pre ++ bs) = 4294967295 - crcB ((pre ++ bs).map UInt8.toNat)) := rfl
      generalize crcB ((pre ++ bs).map UInt8.toNat) = S at h3 HS ⊢
      clear hS0
      go_wp2
      go_ret
      exact ⟨by rw [HS.out]; rfl, rfl⟩

set_option maxRecDepth 20000 in
set_option maxHeartbeats 1000000 in
theorem more_nil (p : Option Addr) (cap : Nat) (pre : List UInt8) (w : World) (n0 : Int) (h0 : n0 = ((sumB pre : Nat) : Int)) :
    Calls Tryz.prog 139 #[.int .u32 n0, .slice p 0 cap] w fun e w' => e = .returned (.int .u32 (sumB pre : Nat)) ∧ w' = w := by
  have e0 : bits .xor .u32 IntKind.u32.max n0 = ((crcB (pre.map UInt8.toNat) : Nat) : Int) := by rw [h0, sum_not]
  have e1 := bnot_u32 _ (crcB_bytes pre)
  have HS : Hid (sumB pre = 4294967295 - crcB (pre.map UInt8.toNat)) := rfl
  clear h0
  generalize crcB (pre.map UInt8.toNat) = S at e0 e1 HS
  go_enter Tryz.func139, Tryz.ntmps139
  go_wp2
  go_loop [0, 11] (fun s i => i = .int .i64 0 ∧ s = .int .u32 S) (fun _ _ => 0)
  case atStart => exact ⟨rfl, rfl⟩
  case round =>
    obtain ⟨rfl, rfl⟩ := hrel
    go_wp2
    go_ret
    exact ⟨by rw [HS.out]; rfl, rfl⟩

/-- A row of bytes that may be read. -/
def RdB (w : World) (v : Value) (bs : List UInt8) : Prop := ∃ p cap, v = .slice p bs.length cap ∧ (bs ≠ [] → ∃ g o, p = some ⟨g, o, none⟩ ∧ ∀ j, j < bs.length → w.cell? ⟨g, o + j, none⟩ = some (b8 (bs.getD j 0)))

theorem more_any (v : Value) (pre bs : List UInt8) (w : World) (hT : Tab w) (hl : bs.length ≤ 1000000000) (h : RdB w v bs) (n0 : Int) (h0 : n0 = ((sumB pre : Nat) : Int)) :
    Calls Tryz.prog 139 #[.int .u32 n0, v] w fun e w' => e = .returned (.int .u32 (sumB (pre ++ bs) : Nat)) ∧ w' = w := by
  obtain ⟨p, cap, rfl, h⟩ := h
  by_cases hb : bs = []
  · subst hb
    rw [List.append_nil]
    exact more_nil p cap pre w n0 h0
  · obtain ⟨g, o, rfl, hc⟩ := h hb
    exact more_row g o cap pre bs w hT hl hc n0 h0

set_option maxRecDepth 20000 in
set_option maxHeartbeats 400000 in
theorem of_any (v : Value) (bs : List UInt8) (w : World) (hT : Tab w) (hl : bs.length ≤ 1000000000) (h : RdB w v bs) :
    Calls Tryz.prog 204 #[v] w fun e w' => e = .returned (.int .u32 (sumB bs : Nat)) ∧ w' = w := by
  have HM := hid_of (more_any v [] bs w hT hl h 0 sum_nil.symm)
  clear hT hl h
  go_enter Tryz.func204, Tryz.ntmps204
  go_wp2_with (first
    | (go_at_call 139; refine Calls.mono HM.out ?_; rintro e w1 ⟨rfl, rfl⟩)
    | go_in)
  first
    | exact ⟨rfl, rfl⟩
    | (go_ret; exact ⟨rfl, rfl⟩)

theorem BR.rd {base : Nat} {w : World} {v : Value} {bs : List UInt8} (h : BR base w v bs) : RdB w v bs := by
  rcases h.2 with ⟨rfl, h0⟩ | ⟨g, cap, cur, rfl, _, hg, hn, _, hcs, htk⟩
  · exact ⟨none, 0, by rw [h0], fun e => absurd (List.eq_nil_of_length_eq_zero h0) e⟩
  · refine ⟨_, cap, rfl, fun _ => ⟨g, 0, rfl, fun j hj => ?_⟩⟩
    have : (bs.map b8)[j]? = cur.toList[j]? := by rw [← htk, List.getElem?_take]; simp [hj]
    rw [List.getElem?_map, List.getElem?_eq_getElem hj] at this
    simp only [World.cell?, hg, Nat.zero_add]
    rw [← Array.getElem?_toList, ← this]
    simp [List.getD, List.getElem?_eq_getElem hj]

end Go.Proofs.YthbdpfccfcceiaaGreatDoor
