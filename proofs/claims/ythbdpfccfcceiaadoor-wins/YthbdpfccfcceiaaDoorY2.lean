/-
  The bytes of a log, plainly: numbers, texts, versions, records, files.
-/
import Derived.Test.YthbdpfccfcceiaaDoorY1
namespace Go.Proofs.YthbdpfccfcceiaaDoor

def u8 (n : Nat) : UInt8 := UInt8.ofNat n
def fourB (n : Nat) : List UInt8 := [u8 n, u8 (n / 256), u8 (n / 65536), u8 (n / 16777216)]
def sumB (bs : List UInt8) : Nat := 4294967295 - crcB (bs.map UInt8.toNat)
def sealB (bs : List UInt8) : List UInt8 := bs ++ fourB (sumB bs)
def openB (i : Nat) : List UInt8 := sealB ([80, 76, 49] ++ fourB i)
def textB (s : ByteArray) : List UInt8 := u8 s.size :: s.data.toList
def verB (v : ByteArray × Bool) : List UInt8 := if v.2 then [1] else 0 :: textB v.1
def writeB (x : ByteArray × ByteArray × Bool) : List UInt8 := textB x.1 ++ verB x.2
def bodyC (t : Nat) (ws : List (ByteArray × ByteArray × Bool)) : List UInt8 := 67 :: (fourB t ++ (u8 ws.length :: ws.flatMap writeB))
def bodyH (t : Nat) : List UInt8 := 72 :: fourB t
def frameB (b : List UInt8) : List UInt8 := sealB (u8 b.length :: u8 (b.length / 256) :: b)

/-- The files of a log, a record more. -/
def addF (fs : List (List UInt8)) (n : Nat) (b : List UInt8) : List (List UInt8) :=
  if n % 4 = 0 then fs ++ [openB fs.length ++ frameB b] else fs.dropLast ++ [fs.getLastD [] ++ frameB b]
def filesN : List (List UInt8) → List (List UInt8) → Nat → List (List UInt8)
  | fs, [], _ => fs
  | fs, b :: r, n => filesN (addF fs n b) r (n + 1)
/-- The files of a log whose records' bodies these are. -/
def filesB (lg : List (List UInt8)) : List (List UInt8) := filesN [] lg 0

theorem u8_toNat (n : Nat) : (u8 n).toNat = n % 256 := by simp [u8]
theorem fourB_length (n : Nat) : (fourB n).length = 4 := rfl
theorem sealB_length (bs : List UInt8) : (sealB bs).length = bs.length + 4 := by simp [sealB, fourB_length]
theorem openB_length (i : Nat) : (openB i).length = 11 := by simp [openB, sealB_length, fourB_length]
theorem frameB_length (b : List UInt8) : (frameB b).length = b.length + 6 := by simp [frameB, sealB_length]
theorem textB_length (s : ByteArray) : (textB s).length = s.size + 1 := by simp [textB]
theorem verB_length_le (v : ByteArray × Bool) : (verB v).length ≤ v.1.size + 2 := by unfold verB; split <;> simp [textB_length] <;> omega
theorem writeB_length_le (x : ByteArray × ByteArray × Bool) : (writeB x).length ≤ x.1.size + x.2.1.size + 3 := by
  have := verB_length_le x.2
  simp [writeB, textB_length]; omega
theorem flatMap_le {α : Type} (f : α → List UInt8) (k : Nat) : ∀ (l : List α), (∀ x ∈ l, (f x).length ≤ k) → (l.flatMap f).length ≤ l.length * k
  | [], _ => by simp
  | x :: r, h => by
    have h1 := h x (by simp)
    have h2 := flatMap_le f k r (fun y hy => h y (by simp [hy]))
    rw [List.flatMap_cons, List.length_append, List.length_cons, Nat.add_mul]; omega
theorem bodyC_length_le (t : Nat) (ws : List (ByteArray × ByteArray × Bool)) (h : ∀ x ∈ ws, x.1.size ≤ 8 ∧ x.2.1.size ≤ 20) : (bodyC t ws).length ≤ 6 + ws.length * 31 := by
  have := flatMap_le writeB 31 ws (fun x hx => Nat.le_trans (writeB_length_le x) (by have := h x hx; omega))
  simp only [bodyC, List.length_cons, List.length_append, fourB_length]; omega
theorem bodyH_length (t : Nat) : (bodyH t).length = 5 := by simp [bodyH, fourB_length]

theorem filesN_snoc : ∀ (lg fs : List (List UInt8)) (n : Nat) (b : List UInt8), filesN fs (lg ++ [b]) n = addF (filesN fs lg n) (n + lg.length) b
  | [], fs, n, b => by simp [filesN]
  | x :: r, fs, n, b => by
    show filesN (addF fs n x) (r ++ [b]) (n + 1) = _
    rw [filesN_snoc r, filesN]
    congr 1
    simp; omega
theorem filesB_snoc (lg : List (List UInt8)) (b : List UInt8) : filesB (lg ++ [b]) = addF (filesB lg) lg.length b := by
  unfold filesB; rw [filesN_snoc]; simp

theorem snoc_ind {α : Type} {P : List α → Prop} (h0 : P []) (h1 : ∀ l x, P l → P (l ++ [x])) : ∀ l, P l := by
  intro l
  rw [← List.reverse_reverse l]
  induction l.reverse with
  | nil => exact h0
  | cons x r ih => rw [List.reverse_cons]; exact h1 _ _ ih

theorem addF_length (fs : List (List UInt8)) (n : Nat) (b : List UInt8) (h : n % 4 ≠ 0 → fs ≠ []) : (addF fs n b).length = if n % 4 = 0 then fs.length + 1 else fs.length := by
  unfold addF
  split
  · simp
  · rename_i h0
    have := List.length_pos_iff.2 (h h0)
    simp; omega
theorem filesB_length (lg : List (List UInt8)) : (filesB lg).length = (lg.length + 3) / 4 := by
  induction lg using snoc_ind with
  | h0 => rfl
  | h1 l x ih =>
    rw [filesB_snoc, addF_length]
    · rw [ih]; simp; split <;> omega
    · intro h e
      rw [e] at ih; simp at ih; omega

/-- How many bytes there are in all. -/
def bytesOf (fs : List (List UInt8)) : Nat := (fs.map List.length).sum
theorem bytesOf_append (a b : List (List UInt8)) : bytesOf (a ++ b) = bytesOf a + bytesOf b := by simp [bytesOf]
theorem bytesOf_cons (a : List UInt8) (b : List (List UInt8)) : bytesOf (a :: b) = a.length + bytesOf b := by simp [bytesOf]
theorem getLastD_eq {α : Type} (l : List α) (d : α) (h : l ≠ []) : l.getLastD d = l.getLast h := by
  cases l with
  | nil => exact absurd rfl h
  | cons a r => rfl
theorem dropLast_getLastD {α : Type} (l : List α) (d : α) (h : l ≠ []) : l.dropLast ++ [l.getLastD d] = l := by
  rw [getLastD_eq l d h]; exact List.dropLast_concat_getLast h
theorem bytesOf_addF (fs : List (List UInt8)) (n : Nat) (b : List UInt8) (h : n % 4 ≠ 0 → fs ≠ []) : bytesOf (addF fs n b) = bytesOf fs + b.length + 6 + if n % 4 = 0 then 11 else 0 := by
  unfold addF
  split
  · simp [bytesOf, openB_length, frameB_length]; omega
  · rename_i h0
    have h1 := h h0
    have h2 : bytesOf fs = bytesOf (fs.dropLast ++ [fs.getLastD []]) := by rw [dropLast_getLastD fs [] h1]
    rw [h2]
    simp only [bytesOf, List.map_append, List.map_cons, List.map_nil, List.sum_append, List.sum_cons, List.sum_nil, List.length_append, frameB_length]
    omega
theorem filesB_ne {lg : List (List UInt8)} (h : lg.length % 4 ≠ 0) : filesB lg ≠ [] := fun e => by
  have := filesB_length lg
  rw [e] at this; simp at this; omega
theorem bytesOf_filesB_le (lg : List (List UInt8)) (k : Nat) (h : ∀ b ∈ lg, b.length ≤ k) : bytesOf (filesB lg) ≤ lg.length * (k + 17) := by
  induction lg using snoc_ind with
  | h0 => simp [filesB, filesN, bytesOf]
  | h1 l x ih =>
    rw [filesB_snoc, bytesOf_addF _ _ _ (fun h => filesB_ne h)]
    have h1 := ih (fun b hb => h b (by simp [hb]))
    have h2 := h x (by simp)
    have h3 : (l ++ [x]).length * (k + 17) = l.length * (k + 17) + (k + 17) := by simp [Nat.add_mul]
    rw [h3]
    split <;> omega
theorem length_le_bytesOf {fs : List (List UInt8)} {f : List UInt8} (h : f ∈ fs) : f.length ≤ bytesOf fs := by
  obtain ⟨a, b, rfl⟩ := List.append_of_mem h
  rw [bytesOf_append, bytesOf_cons]; omega

/-- How many records the last file has. -/
def inLast (n : Nat) : Nat := if n = 0 then 0 else (n - 1) % 4 + 1
theorem inLast_four (n : Nat) : inLast n = 4 ↔ n ≠ 0 ∧ n % 4 = 0 := by unfold inLast; split <;> omega
theorem inLast_succ_new (n : Nat) (h : n % 4 = 0) : inLast (n + 1) = 1 := by unfold inLast; simp; omega
theorem inLast_succ (n : Nat) (h : n % 4 ≠ 0) : inLast (n + 1) = inLast n + 1 := by unfold inLast; simp; split <;> omega
theorem inLast_le (n : Nat) : inLast n ≤ 4 := by unfold inLast; split <;> omega
theorem filesB_nil_iff (lg : List (List UInt8)) : (filesB lg).length = 0 ↔ lg.length = 0 := by rw [filesB_length]; omega

end Go.Proofs.YthbdpfccfcceiaaDoor
