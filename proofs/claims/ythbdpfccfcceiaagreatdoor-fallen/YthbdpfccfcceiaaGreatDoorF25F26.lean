/-
  What is read of the beginning of a file that a store wrote: of bytes alone.
  The files of a log, one by one; how many bytes they have; and of the first bytes of them, file by file.
-/
import Derived.Test.YthbdpfccfcceiaaGreatDoorF3F23F24
namespace Go.Proofs.YthbdpfccfcceiaaGreatDoor

/-- The bodies of commits, of moments one behind the other. -/
def lgF : Nat → List (List W3) → List (List UInt8)
  | _, [] => []
  | t, ws :: r => bodyC t ws :: lgF (t + 1) r

theorem lgF_length : ∀ (es : List (List W3)) (t : Nat), (lgF t es).length = es.length
  | [], _ => rfl
  | _ :: r, t => by simp [lgF, lgF_length r (t + 1)]
theorem lgF_drop : ∀ (n t : Nat) (es : List (List W3)), (lgF t es).drop n = lgF (t + n) (es.drop n)
  | 0, _, _ => by simp
  | n + 1, t, [] => by simp [lgF]
  | n + 1, t, ws :: r => by
    have := lgF_drop n (t + 1) r
    simp only [lgF, List.drop_succ_cons]
    rw [this, show t + 1 + n = t + (n + 1) by omega]
theorem lgF_take : ∀ (n t : Nat) (es : List (List W3)), (lgF t es).take n = lgF t (es.take n)
  | 0, _, _ => by simp [lgF]
  | n + 1, t, [] => by simp [lgF]
  | n + 1, t, ws :: r => by
    have := lgF_take n (t + 1) r
    simp only [lgF, List.take_succ_cons]
    rw [this]
theorem lgF_snoc : ∀ (es : List (List W3)) (t : Nat) (ws : List W3), lgF t (es ++ [ws]) = lgF t es ++ [bodyC (t + es.length) ws]
  | [], t, ws => by simp [lgF]
  | x :: r, t, ws => by
    have := lgF_snoc r (t + 1) ws
    simp only [List.cons_append, lgF]
    rw [this]
    simp only [List.length_cons]
    rw [show t + 1 + r.length = t + (r.length + 1) by omega]

/-- A commit's writes that may be. -/
def ComOk (ws : List W3) : Prop := (ws.map Prod.fst).Pairwise blt ∧ 1 ≤ ws.length ∧ ws.length ≤ 10 ∧ ∀ x ∈ ws, okW x

theorem body_says (t : Nat) (ws : List W3) (h : ComOk ws) (ht : t < 4294967296) : (bodyS (bodyC t ws)).1 = 67 ∧ (bodyS (bodyC t ws)).2.1 = t ∧ bodyW (bodyC t ws) = (ws, ⟨[], false⟩) := by
  have h1 := RS.one_cons 67 (fourB t ++ (u8 ws.length :: ws.flatMap writeB))
  have h2 := RS.four_app t ht (u8 ws.length :: ws.flatMap writeB)
  have h3 := RS.one_cons (u8 ws.length) (ws.flatMap writeB)
  have e : (u8 ws.length).toNat = ws.length := by have := h.2.2.1; rw [u8_toNat]; omega
  rw [e] at h3
  have h4 := RS.writes_app ws h.2.2.2 [] ws.length (Nat.le_refl _)
  rw [List.append_nil] at h4
  have hS : bodyS (bodyC t ws) = (67, t, ⟨u8 ws.length :: ws.flatMap writeB, false⟩) := by
    unfold bodyS
    rw [show bodyC t ws = 67 :: (fourB t ++ (u8 ws.length :: ws.flatMap writeB)) from rfl, h1]
    dsimp only
    rw [h2]
    rfl
  refine ⟨by rw [hS], by rw [hS], ?_⟩
  unfold bodyW
  rw [hS]
  dsimp only
  rw [h3]
  dsimp only
  rw [h4]
  simp

theorem rec_of_body (t : Nat) (ws : List W3) (h : ComOk ws) (ht : t < 4294967296) : RecIs (bodyC t ws) 67 t ws := by
  obtain ⟨h1, h2, h3⟩ := body_says t ws h ht
  exact Or.inr ⟨rfl, h1, h2.symm, by rw [h3], by rw [h3]; rfl, h.1, h.2.1, h.2.2.1⟩

theorem rec_unique {body : List UInt8} {k t k' t' : Nat} {ws ws' : List W3} (h : RecIs body k t ws) (h' : RecIs body k' t' ws') : k = k' ∧ t = t' ∧ ws = ws' := by
  rcases h with ⟨a1, a2, a3, a4, _⟩ | ⟨a1, a2, a3, a4, _⟩
  · rcases h' with ⟨b1, b2, b3, b4, _⟩ | ⟨b1, b2, b3, b4, _⟩
    · exact ⟨a1.trans b1.symm, a3.trans b3.symm, a4.trans b4.symm⟩
    · omega
  · rcases h' with ⟨b1, b2, b3, b4, _⟩ | ⟨b1, b2, b3, b4, _⟩
    · omega
    · exact ⟨a1.trans b1.symm, a3.trans b3.symm, a4.trans b4.symm⟩

theorem body_len (t : Nat) {ws : List W3} (h : ComOk ws) : (bodyC t ws).length ≤ 400 := bodyC_le h.2.2.2 h.2.2.1

theorem lenB_frame (b : List UInt8) (hb : b.length ≤ 400) (r : List UInt8) : lenB (frameB b ++ r) = b.length := by
  unfold lenB frameB sealB
  simp only [List.cons_append, List.getD_cons_zero, List.getD_cons_succ, u8_toNat]
  omega

theorem lenB_take {bs : List UInt8} {m : Nat} (h : 2 ≤ m) : lenB (bs.take m) = lenB bs := by
  unfold lenB
  have e : ∀ j, j < 2 → (bs.take m).getD j 0 = bs.getD j 0 := fun j hj => by
    simp only [List.getD, List.getElem?_take]
    rw [if_pos (by omega)]
  rw [e 0 (by omega), e 1 (by omega)]

/-- Of the beginning of frames, what a whole first one is. -/
theorem unseal_frames {t : Nat} {bl : List (List W3)} {m : Nat} {c r : List UInt8} (hb : ∀ ws ∈ bl, ComOk ws)
    (h : unsealB (((lgF t bl).flatMap frameB).take m) (2 + lenB (((lgF t bl).flatMap frameB).take m)) = some (c, r)) :
    ∃ ws bl', bl = ws :: bl' ∧ (frameB (bodyC t ws)).length ≤ m ∧ c.drop 2 = bodyC t ws ∧ r = ((lgF (t + 1) bl').flatMap frameB).take (m - (frameB (bodyC t ws)).length) := by
  have hl := (unseal_length h).1
  have hm : 2 ≤ m := by
    have := List.length_take_le m ((lgF t bl).flatMap frameB)
    omega
  cases bl with
  | nil => simp [lgF] at hl
  | cons ws bl' =>
    have hw := hb ws (by simp)
    have hlen := body_len t hw
    have e0 : (lgF t (ws :: bl')).flatMap frameB = frameB (bodyC t ws) ++ (lgF (t + 1) bl').flatMap frameB := by simp [lgF]
    rw [e0] at h hl
    rw [lenB_take hm, lenB_frame _ hlen] at h hl
    have hfl := frameB_length (bodyC t ws)
    have hfm : (frameB (bodyC t ws)).length ≤ m := by
      have := List.length_take_le m (frameB (bodyC t ws) ++ (lgF (t + 1) bl').flatMap frameB)
      omega
    refine ⟨ws, bl', rfl, hfm, ?_⟩
    rw [List.take_append, List.take_of_length_le hfm] at h
    have hu := unseal_seal (u8 (bodyC t ws).length :: u8 ((bodyC t ws).length / 256) :: bodyC t ws) (((lgF (t + 1) bl').flatMap frameB).take (m - (frameB (bodyC t ws)).length))
    rw [show (u8 (bodyC t ws).length :: u8 ((bodyC t ws).length / 256) :: bodyC t ws).length = 2 + (bodyC t ws).length by simp; omega] at hu
    have h' : unsealB (sealB (u8 (bodyC t ws).length :: u8 ((bodyC t ws).length / 256) :: bodyC t ws) ++ ((lgF (t + 1) bl').flatMap frameB).take (m - (frameB (bodyC t ws)).length)) (2 + (bodyC t ws).length) = some (c, r) := h
    rw [hu] at h'
    injection h' with h'
    injection h' with h1 h2
    exact ⟨by rw [← h1]; rfl, h2.symm⟩

theorem cut_of_frame {t : Nat} {ws : List W3} (h : ComOk ws) (ht : t < 4294967296) (r : List UInt8) : CutIs (frameB (bodyC t ws) ++ r) 67 t ws r := by
  have hlen := body_len t h
  have hu := unseal_seal (u8 (bodyC t ws).length :: u8 ((bodyC t ws).length / 256) :: bodyC t ws) r
  rw [show (u8 (bodyC t ws).length :: u8 ((bodyC t ws).length / 256) :: bodyC t ws).length = 2 + (bodyC t ws).length by simp; omega] at hu
  refine ⟨by rw [List.length_append, frameB_length]; omega, u8 (bodyC t ws).length :: u8 ((bodyC t ws).length / 256) :: bodyC t ws, ?_, rec_of_body t ws h ht⟩
  rw [lenB_frame _ hlen]
  exact hu

def RecV.t3 (r : RecV) : Nat × Nat × List W3 := (r.k, r.t, r.ws)
def recsT : Nat → List (List W3) → List (Nat × Nat × List W3)
  | _, [] => []
  | t, ws :: r => (67, t, ws) :: recsT (t + 1) r

/-- What may be read of the beginning of frames. -/
theorem reads_frames : ∀ (l : List RecV) (t : Nat) (bl : List (List W3)) (m : Nat) (rest : List UInt8), (∀ ws ∈ bl, ComOk ws) → t + bl.length < 4294967296 → ReadsAs (((lgF t bl).flatMap frameB).take m) l rest →
    l.length ≤ bl.length ∧ l.map RecV.t3 = recsT t (bl.take l.length) ∧ (((lgF t (bl.take l.length)).flatMap frameB).length ≤ m) ∧ rest = ((lgF (t + l.length) (bl.drop l.length)).flatMap frameB).take (m - ((lgF t (bl.take l.length)).flatMap frameB).length)
  | [], t, bl, m, rest, _, _, h => by
    have h : ((lgF t bl).flatMap frameB).take m = rest := h
    refine ⟨Nat.zero_le _, by simp [recsT], by simp [lgF], ?_⟩
    simp [lgF, h]
  | r :: l, t, bl, m, rest, hb, ht, h => by
    obtain ⟨q, ⟨_, c, hu, hr⟩, h2⟩ := h
    obtain ⟨ws, bl', rfl, hfm, hc, hq⟩ := unseal_frames hb hu
    rw [hc] at hr
    have hw := hb ws (by simp)
    simp only [List.length_cons] at ht
    obtain ⟨e1, e2, e3⟩ := rec_unique hr (rec_of_body t ws hw (by omega))
    subst hq
    obtain ⟨i1, i2, i3, i4⟩ := reads_frames l (t + 1) bl' (m - (frameB (bodyC t ws)).length) rest (fun x hx => hb x (by simp [hx])) (by omega) h2
    have e0 : ((lgF t ((ws :: bl').take (l.length + 1))).flatMap frameB).length = (frameB (bodyC t ws)).length + ((lgF (t + 1) (bl'.take l.length)).flatMap frameB).length := by simp [lgF]
    refine ⟨by simp only [List.length_cons]; omega, ?_, ?_, ?_⟩
    · simp only [List.map_cons, List.length_cons, List.take_succ_cons, recsT]
      rw [i2]
      unfold RecV.t3
      rw [e1, e2, e3]
    · simp only [List.length_cons]
      rw [e0]; omega
    · simp only [List.length_cons, List.drop_succ_cons]
      rw [e0, i4, show t + 1 + l.length = t + (l.length + 1) by omega]
      congr 1
      omega

end Go.Proofs.YthbdpfccfcceiaaGreatDoor

namespace Go.Proofs.YthbdpfccfcceiaaGreatDoor

/-- The i-th file of a log. -/
def fileAt (lg : List (List UInt8)) (i : Nat) : List UInt8 := openB i ++ ((lg.drop (4 * i)).take 4).flatMap frameB

theorem drop_take_snoc {α : Type} (l : List α) (x : α) (i : Nat) (h : 4 * i + 4 ≤ l.length) : ((l ++ [x]).drop (4 * i)).take 4 = (l.drop (4 * i)).take 4 := by
  rw [List.drop_append_of_le_length (by omega), List.take_append_of_le_length (by rw [List.length_drop]; omega)]

theorem filesB_at (lg : List (List UInt8)) : ∀ i, 4 * i < lg.length → (filesB lg)[i]? = some (fileAt lg i) := by
  induction lg using snoc_ind with
  | h0 => intro i hi; simp at hi
  | h1 l x ih =>
    intro i hi
    simp only [List.length_append, List.length_cons, List.length_nil] at hi
    have hlen := filesB_length l
    rw [filesB_snoc]
    unfold addF
    by_cases h4 : l.length % 4 = 0
    · rw [if_pos h4]
      by_cases hi2 : 4 * i < l.length
      · rw [List.getElem?_append_left (by omega), ih i hi2]
        unfold fileAt
        rw [drop_take_snoc l x i (by omega)]
      · have e : i = (filesB l).length := by omega
        rw [List.getElem?_append_right (by omega), ← e, Nat.sub_self]
        have e2 : l.length = 4 * i := by omega
        unfold fileAt
        rw [← e2, List.drop_left]
        simp
    · rw [if_neg h4]
      have hne : filesB l ≠ [] := filesB_ne h4
      have hlast : (filesB l).getLastD [] = fileAt l ((filesB l).length - 1) := by
        have h1 := ih ((filesB l).length - 1) (by omega)
        rw [List.getLastD_eq_getLast?, List.getLast?_eq_getElem?, h1]
        rfl
      by_cases hi2 : i < (filesB l).length - 1
      · rw [List.getElem?_append_left (by rw [List.length_dropLast]; omega), List.getElem?_dropLast, if_pos hi2, ih i (by omega)]
        unfold fileAt
        rw [drop_take_snoc l x i (by omega)]
      · have e : i = (filesB l).length - 1 := by omega
        rw [List.getElem?_append_right (by rw [List.length_dropLast]; omega), List.length_dropLast, ← e, Nat.sub_self, hlast, ← e]
        unfold fileAt
        rw [List.drop_append_of_le_length (by omega)]
        have hd : (l.drop (4 * i)).length ≤ 3 := by rw [List.length_drop]; omega
        rw [List.take_of_length_le (l := l.drop (4 * i)) (by omega), List.take_of_length_le (by simp; omega)]
        simp

/-- How many bytes the first records' files have. -/
def sizeB (lg : List (List UInt8)) (k : Nat) : Nat := bytesOf (filesB (lg.take k))

theorem sizeB_zero (lg : List (List UInt8)) : sizeB lg 0 = 0 := by simp [sizeB, filesB, filesN, bytesOf]

theorem sizeB_succ {lg : List (List UInt8)} {k : Nat} {b : List UInt8} (h : lg[k]? = some b) : sizeB lg (k + 1) = sizeB lg k + (frameB b).length + if k % 4 = 0 then 11 else 0 := by
  obtain ⟨hk, rfl⟩ := List.getElem?_eq_some_iff.1 h
  unfold sizeB
  have hl : (lg.take k).length = k := by rw [List.length_take]; omega
  rw [List.take_succ_eq_append_getElem hk, filesB_snoc, bytesOf_addF _ _ _ (fun h => filesB_ne h), hl]
  have hf := frameB_length lg[k]
  split <;> simp_all <;> omega

theorem sizeB_mono {lg : List (List UInt8)} : ∀ {a b : Nat}, a ≤ b → b ≤ lg.length → sizeB lg a ≤ sizeB lg b := by
  intro a b hab hb
  induction b with
  | zero => have : a = 0 := by omega
            subst this; exact Nat.le_refl _
  | succ b ih =>
    by_cases h : a = b + 1
    · subst h; exact Nat.le_refl _
    · have := sizeB_succ (List.getElem?_eq_getElem (show b < lg.length by omega))
      have := ih (by omega) (by omega)
      omega

theorem sizeB_lt {lg : List (List UInt8)} {a b : Nat} (hab : a < b) (hb : b ≤ lg.length) : sizeB lg a < sizeB lg b := by
  have h1 := sizeB_succ (List.getElem?_eq_getElem (show a < lg.length by omega))
  have h2 := sizeB_mono (lg := lg) (a := a + 1) (b := b) (by omega) hb
  rw [frameB_length] at h1
  omega

/-- Within a file. -/
theorem sizeB_in {lg : List (List UInt8)} {i : Nat} : ∀ {j : Nat}, j < 4 → 4 * i + j < lg.length → sizeB lg (4 * i + j + 1) = sizeB lg (4 * i) + 11 + (((lg.drop (4 * i)).take (j + 1)).flatMap frameB).length := by
  intro j
  induction j with
  | zero =>
    intro _ h
    rw [sizeB_succ (List.getElem?_eq_getElem h), if_pos (by omega)]
    have e : (lg.drop (4 * i)).take 1 = [lg[4 * i]] := by
      rw [List.drop_eq_getElem_cons (show 4 * i < lg.length by omega)]
      rfl
    simp only [Nat.add_zero, Nat.zero_add] at e ⊢
    rw [e]
    simp
    omega
  | succ j ih =>
    intro hj h
    have h1 := ih (by omega) (by omega)
    rw [show 4 * i + (j + 1) + 1 = (4 * i + j + 1) + 1 by omega, sizeB_succ (List.getElem?_eq_getElem (show 4 * i + j + 1 < lg.length by omega)), if_neg (by omega), h1]
    have e : (lg.drop (4 * i)).take (j + 1 + 1) = (lg.drop (4 * i)).take (j + 1) ++ [lg[4 * i + j + 1]] := by
      rw [List.take_succ_eq_append_getElem (by rw [List.length_drop]; omega), List.getElem_drop]
      congr 3
    rw [e]
    simp
    omega

theorem bytesOf_takeF {lg : List (List UInt8)} {q : Nat} (h : 4 * q ≤ lg.length) : bytesOf ((filesB lg).take q) = sizeB lg (4 * q) := by
  unfold sizeB
  congr 1
  apply List.ext_getElem?
  intro i
  have hl := filesB_length (lg.take (4 * q))
  rw [List.length_take] at hl
  rw [List.getElem?_take]
  split
  · rename_i hi
    rw [filesB_at lg i (by omega), filesB_at (lg.take (4 * q)) i (by rw [List.length_take]; omega)]
    unfold fileAt
    rw [List.drop_take, List.take_take, Nat.min_eq_left (by omega)]
  · rw [List.getElem?_eq_none (by omega)]

theorem firstB_at : ∀ (fs : List (List UInt8)) (n q : Nat) (f' : List UInt8), (firstB fs n)[q]? = some f' → ∃ f, fs[q]? = some f ∧ bytesOf (fs.take q) < n ∧ f' = f.take (n - bytesOf (fs.take q))
  | [], _, _, _, h => by simp [firstB] at h
  | g :: r, n, q, f', h => by
    unfold firstB at h
    split at h
    · simp at h
    · rename_i hn
      cases q with
      | zero =>
        simp at h
        exact ⟨g, by simp, by simp [bytesOf]; omega, by simp [bytesOf, h]⟩
      | succ q =>
        simp at h
        obtain ⟨f, h1, h2, h3⟩ := firstB_at r (n - g.length) q f' h
        have e : bytesOf ((g :: r).take (q + 1)) = g.length + bytesOf (r.take q) := by rw [List.take_succ_cons, bytesOf_cons]
        refine ⟨f, by simpa using h1, by rw [e]; omega, ?_⟩
        rw [e, h3]
        congr 1
        omega

theorem firstB_len : ∀ (fs : List (List UInt8)) (n q : Nat), q < fs.length → bytesOf (fs.take q) < n → q < (firstB fs n).length
  | [], _, _, h, _ => by simp at h
  | g :: r, n, q, h, hn => by
    unfold firstB
    have h0 : n ≠ 0 := by omega
    rw [if_neg h0]
    cases q with
    | zero => simp
    | succ q =>
      have e : bytesOf ((g :: r).take (q + 1)) = g.length + bytesOf (r.take q) := by rw [List.take_succ_cons, bytesOf_cons]
      rw [e] at hn
      have := firstB_len r (n - g.length) q (by simpa using h) (by omega)
      simpa using this

end Go.Proofs.YthbdpfccfcceiaaGreatDoor
