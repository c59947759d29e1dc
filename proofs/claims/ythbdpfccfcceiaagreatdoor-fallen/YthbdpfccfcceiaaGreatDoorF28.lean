/-
  What is left of a log by a crash, recovered: the store at one of its moments, not ahead of what was synced; and what both stores tell.
-/
import Derived.Test.YthbdpfccfcceiaaGreatDoorF27V1E3
import Derived.Test.YthbdpfccfcceiaaGreatDoorE5E6
namespace Go.Proofs.YthbdpfccfcceiaaGreatDoor

section
variable {es : List (List W3)} {n : Nat} {s s' : XS}

theorem crash_at {q : Nat} {f : List UInt8} (h : (firstB (filesB (lgF 1 es)) n)[q]? = some f) : 4 * q < es.length ∧ sizeB (lgF 1 es) (4 * q) < n ∧ f = (fileAt (lgF 1 es) q).take (n - sizeB (lgF 1 es) (4 * q)) := by
  obtain ⟨f0, h1, h2, h3⟩ := firstB_at _ _ _ _ h
  have hq := (List.getElem?_eq_some_iff.1 h1).1
  rw [filesB_length, lgF_length] at hq
  have hq' : 4 * q < es.length := by omega
  rw [filesB_at (lgF 1 es) q (by rw [lgF_length]; exact hq')] at h1
  injection h1 with h1
  subst h1
  rw [bytesOf_takeF (by rw [lgF_length]; omega)] at h2 h3
  exact ⟨hq', h2, h3⟩

theorem crash_fine (hE : ∀ ws ∈ es, ComOk ws) (hl : es.length ≤ 2000) : ∀ f ∈ firstB (filesB (lgF 1 es)) n, FileFine f := by
  intro f hf rs rest hr c r hu hk
  obtain ⟨q, hq⟩ := List.getElem?_of_mem hf
  obtain ⟨h1, _, rfl⟩ := crash_at hq
  rw [file_drop] at hr
  have hbl : ∀ ws ∈ (es.drop (4 * q)).take 4, ComOk ws := fun ws hw => hE ws (List.mem_of_mem_drop (List.mem_of_mem_take hw))
  have hlb : ((es.drop (4 * q)).take 4).length ≤ 4 := List.length_take_le _ _
  obtain ⟨i1, _, _, i4⟩ := reads_frames rs _ _ _ rest hbl (by omega) hr
  rw [i4] at hu
  obtain ⟨ws, bl', e1, _, e2, _⟩ := unseal_frames (fun ws hw => hbl ws (List.mem_of_mem_drop hw)) hu
  have hw : ComOk ws := hbl ws (List.mem_of_mem_drop (i := rs.length) (by rw [e1]; simp))
  rw [e2, (body_says _ ws hw (by omega)).2.2]
  rfl

theorem crash_small (hE : ∀ ws ∈ es, ComOk ws) : ∀ f ∈ firstB (filesB (lgF 1 es)) n, f.length ≤ 1000000 := by
  intro f hf
  obtain ⟨q, hq⟩ := List.getElem?_of_mem hf
  obtain ⟨h1, _, rfl⟩ := crash_at hq
  refine Nat.le_trans (m := (fileAt (lgF 1 es) q).length) (by rw [List.length_take]; omega) ?_
  rw [file_eq, List.length_append, openB_length]
  have hbl : ∀ ws ∈ (es.drop (4 * q)).take 4, ComOk ws := fun ws hw => hE ws (List.mem_of_mem_drop (List.mem_of_mem_take hw))
  have hlb : ((es.drop (4 * q)).take 4).length ≤ 4 := List.length_take_le _ _
  generalize (es.drop (4 * q)).take 4 = bl at hbl hlb
  have key : ∀ (bl : List (List W3)) (t : Nat), (∀ ws ∈ bl, ComOk ws) → ((lgF t bl).flatMap frameB).length ≤ bl.length * 406 := by
    intro bl
    induction bl with
    | nil => intro t _; simp [lgF]
    | cons ws r ih =>
      intro t h
      have h1 := ih (t + 1) (fun x hx => h x (by simp [hx]))
      have h2 := body_len t (h ws (by simp))
      have h3 := frameB_length (bodyC t ws)
      simp only [lgF, List.flatMap_cons, List.length_append, List.length_cons]
      omega
  have := key bl (1 + 4 * q) hbl
  omega

theorem crash_whole (hE : ∀ ws ∈ es, ComOk ws) (hl : es.length ≤ 2000) {s0 : XS} (h0 : HistE es 0 s0) : ¬ Damaged (firstB (filesB (lgF 1 es)) n) s0 := by
  rintro ⟨i, f, s1, s2, hi, hlt, hra, hrep⟩
  obtain ⟨a1, a2, a3⟩ := crash_at (List.getElem?_eq_getElem hlt)
  obtain ⟨b1, b2, rfl⟩ := crash_at hi
  have hlen : ((firstB (filesB (lgF 1 es)) n).take i).length = i := by rw [List.length_take]; omega
  have h1 := recAll_hist hE hl ((firstB (filesB (lgF 1 es)) n).take i) 0 s0 s1 (by omega) h0 (fun j f hj => by
    rw [List.getElem?_take] at hj
    split at hj
    · obtain ⟨_, _, e⟩ := crash_at hj
      rw [Nat.zero_add]
      exact ⟨_, e⟩
    · cases hj) hra
  rw [hlen, Nat.zero_add] at h1
  obtain ⟨j, c1, c2, c3, c4⟩ := rep_hist (i := i) hE hl (by omega) h1 hrep
  have hj : j < 4 := by
    rcases Nat.lt_or_ge j 4 with h | h
    · exact h
    · have := c3.2 (by omega)
      cases this
  have h2 := c4 hj (by omega)
  have h3 := sizeB_in (lg := lgF 1 es) (i := i) hj (by rw [lgF_length]; omega)
  have h4 := sizeB_mono (lg := lgF 1 es) (a := 4 * i + j + 1) (b := 4 * (i + 1)) (by omega) (by rw [lgF_length]; omega)
  omega

theorem crash_hist (hE : ∀ ws ∈ es, ComOk ws) (hl : es.length ≤ 2000) {s0 : XS} (h0 : HistE es 0 s0) (hr : Recovered (firstB (filesB (lgF 1 es)) n) s0 s') :
    ∃ k, HistE es k s' ∧ ∀ a, a ≤ es.length → sizeB (lgF 1 es) a ≤ n → a ≤ k := by
  have hfl : (filesB (lgF 1 es)).length = (es.length + 3) / 4 := by rw [filesB_length, lgF_length]
  rcases hr with ⟨e, rfl⟩ | ⟨l, f, s1, b, e, hra, hrep⟩
  · refine ⟨0, h0, fun a ha hs => ?_⟩
    rcases Nat.eq_zero_or_pos a with h | h
    · omega
    · exfalso
      have h1 := sizeB_lt (lg := lgF 1 es) h (by rw [lgF_length]; exact ha)
      have h2 := firstB_len (filesB (lgF 1 es)) n 0 (by omega) (by simp [bytesOf]; omega)
      rw [e] at h2
      simp at h2
  · have hq : (firstB (filesB (lgF 1 es)) n)[l.length]? = some f := by rw [e]; simp
    obtain ⟨b1, b2, rfl⟩ := crash_at hq
    have h1 := recAll_hist hE hl l 0 s0 s1 (by omega) h0 (fun j f hj => by
      have hj2 : (firstB (filesB (lgF 1 es)) n)[j]? = some f := by
        rw [e, List.getElem?_append_left (List.getElem?_eq_some_iff.1 hj).1]; exact hj
      obtain ⟨_, _, e⟩ := crash_at hj2
      rw [Nat.zero_add]
      exact ⟨_, e⟩) hra
    rw [Nat.zero_add] at h1
    obtain ⟨j, c1, c2, _, c4⟩ := rep_hist (i := l.length) hE hl (by omega) h1 hrep
    refine ⟨4 * l.length + j, c2, fun a ha hs => ?_⟩
    rcases Nat.lt_or_ge (4 * l.length + j) a with h | h
    · exfalso
      rcases Nat.lt_or_ge j 4 with hj | hj
      · have h2 := c4 hj (by omega)
        have h3 := sizeB_in (lg := lgF 1 es) (i := l.length) hj (by rw [lgF_length]; omega)
        have h4 := sizeB_mono (lg := lgF 1 es) (a := 4 * l.length + j + 1) (b := a) (by omega) (by rw [lgF_length]; exact ha)
        omega
      · have h2 := sizeB_lt (lg := lgF 1 es) (a := 4 * (l.length + 1)) (b := a) (by omega) (by rw [lgF_length]; exact ha)
        have h3 := firstB_len (filesB (lgF 1 es)) n (l.length + 1) (by omega) (by rw [bytesOf_takeF (by rw [lgF_length]; omega)]; omega)
        rw [e] at h3
        simp at h3
    · exact h

theorem momE_filter (k : ByteArray) {t : Int} : ∀ {a b : Nat}, a ≤ b → t ≤ a → (momE es b k).filter (fun m => decide (m ≤ t)) = (momE es a k).filter (fun m => decide (m ≤ t)) := by
  intro a b hab ht
  induction b with
  | zero => have : a = 0 := by omega
            subst this; rfl
  | succ b ih =>
    by_cases h : a = b + 1
    · subst h; rfl
    · rw [← ih (by omega)]
      simp only [momE]
      split
      · rw [List.filter_append, List.filter_cons_of_neg (by simp; omega)]; simp
      · rfl

theorem verE_same (k : ByteArray) {m : Int} : ∀ {a b : Nat}, a ≤ b → m ≤ a → verE es b k m = verE es a k m := by
  intro a b hab hm
  induction b with
  | zero => have : a = 0 := by omega
            subst this; rfl
  | succ b ih =>
    by_cases h : a = b + 1
    · subst h; rfl
    · rw [← ih (by omega)]
      simp only [verE]
      rw [if_neg (fun e => by have := e.1; omega)]

theorem hist_val {a b : Nat} (h : HistE es a s) (h' : HistE es b s') (hab : a ≤ b) (k : ByteArray) {t : Int} (ht : t ≤ a) : valAt s' k t = valAt s k t := by
  unfold valAt
  rw [h.mom, h'.mom, momE_filter k hab ht]
  cases e : ((momE es a k).filter (fun m => decide (m ≤ t))).getLast? with
  | none => rfl
  | some m =>
    have hm := (List.mem_filter.1 (List.mem_of_getLast? e)).2
    simp only [decide_eq_true_eq] at hm
    simp only [h.ver, h'.ver]
    rw [verE_same k hab (by omega)]

theorem momE_app (k : ByteArray) (x : List (List W3)) : ∀ {a : Nat}, a ≤ es.length → momE (es ++ x) a k = momE es a k := by
  intro a
  induction a with
  | zero => intro _; rfl
  | succ a ih =>
    intro h
    have e : (es ++ x).getD a [] = es.getD a [] := by simp only [List.getD, List.getElem?_append_left (show a < es.length by omega)]
    simp only [momE]
    rw [ih (by omega), e]
theorem verE_app (k : ByteArray) (m : Int) (x : List (List W3)) : ∀ {a : Nat}, a ≤ es.length → verE (es ++ x) a k m = verE es a k m := by
  intro a
  induction a with
  | zero => intro _; rfl
  | succ a ih =>
    intro h
    have e : (es ++ x).getD a [] = es.getD a [] := by simp only [List.getD, List.getElem?_append_left (show a < es.length by omega)]
    simp only [verE]
    rw [ih (by omega), e]
theorem HistE.app {a : Nat} (h : HistE es a s) (x : List (List W3)) : HistE (es ++ x) a s :=
  ⟨h.now, h.hor, fun k => by rw [h.mom, momE_app k x h.le], fun k m => by rw [h.ver, verE_app k m x h.le], by rw [h.lg, List.take_append_of_le_length h.le], by have := h.le; simp; omega⟩

theorem wrL_eq {wr : ByteArray → Option (ByteArray × Bool)} {ws : List W3} (h : WsOf wr ws) : wrL ws = wr := by
  funext k
  cases hk : wr k with
  | none =>
    cases hw : wrL ws k with
    | none => rfl
    | some v =>
      obtain ⟨x, hx, rfl⟩ := wrL_isSome (ws := ws) (k := k) (by rw [hw]; rfl)
      rw [h.at_ x hx] at hk
      cases hk
  | some v =>
    have hm := h.all k (by rw [hk]; rfl)
    obtain ⟨x, hx, rfl⟩ := List.mem_map.1 hm
    rw [wrL_at ws h.nodup x hx, ← h.at_ x hx, hk]

/-- A store behind a commit more. -/
theorem HistE.acted {a : Nat} (h : HistE es a s) (ha : a = es.length) {wr : ByteArray → Option (ByteArray × Bool)} {ws : List W3} (hw : WsOf wr ws) {l : XL} (hlg : l.lg = s.log.lg ++ [bodyC (s.now + 1).toNat ws]) (nv nm : Nat) : HistE (es ++ [ws]) (a + 1) (acted { s with log := l } wr nv nm) := by
  have h1 := (h.app [ws]).next (ws := ws) (by rw [ha]; simp) (l := l) (by rw [hlg, h.now]; congr 3) nv nm
  have e := wrL_eq hw
  refine ⟨h1.now, h1.hor, fun k => ?_, fun k m => ?_, h1.lg, h1.le⟩
  · rw [← h1.mom, e]
    simp [comm, Go.Proofs.YthbdpfccfcceiaaGreatDoor.acted, commd]
  · rw [← h1.ver, e]
    simp [comm, Go.Proofs.YthbdpfccfcceiaaGreatDoor.acted, commd]

end

end Go.Proofs.YthbdpfccfcceiaaGreatDoor
