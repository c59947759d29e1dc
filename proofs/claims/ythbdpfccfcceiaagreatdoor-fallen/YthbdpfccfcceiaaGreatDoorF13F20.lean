/-
  What was written reads back: of bytes alone.
  What doing a record makes of a store's plain state, and that it keeps what holds of it.
-/
import Derived.Test.YthbdpfccfcceiaaGreatDoorF10F11
import Derived.Test.YthbdpfccfcceiaaGreatDoorZ1Z2F19C3
import Derived.Test.YthbdpfccfcceiaaGreatDoorC4E1
namespace Go.Proofs.YthbdpfccfcceiaaGreatDoor
open Go.RowKit Go.Maps Go.Lib

theorem RS.take_app (l r : List UInt8) (n : Nat) (hn : l.length = n) : (⟨l ++ r, false⟩ : RS).take n = (some l, ⟨r, false⟩) := by
  subst hn
  simp [RS.take]

theorem RS.one_cons (b : UInt8) (r : List UInt8) : (⟨b :: r, false⟩ : RS).one = (b.toNat, ⟨r, false⟩) := by
  have h := RS.take_app [b] r 1 rfl
  unfold RS.one
  rw [show (b :: r) = [b] ++ r from rfl, h]
  rfl

theorem le4_four (t : Nat) (ht : t < 4294967296) : le4 (fourB t) = t := by
  unfold le4 fourB
  simp only [List.getD_cons_zero, List.getD_cons_succ, u8_toNat]
  omega

theorem RS.four_app (t : Nat) (ht : t < 4294967296) (r : List UInt8) : (⟨fourB t ++ r, false⟩ : RS).four = (t, ⟨r, false⟩) := by
  have h := RS.take_app (fourB t) r 4 rfl
  unfold RS.four
  rw [h]
  simp only [le4_four t ht]

theorem strB_data (x : ByteArray) : strB x.data.toList = x := by
  cases x; rfl

theorem RS.text_app (x : ByteArray) (hx : x.size ≤ 255) (r : List UInt8) : (⟨textB x ++ r, false⟩ : RS).text = (x.data.toList, ⟨r, false⟩) := by
  have h1 := RS.one_cons (u8 x.size) (x.data.toList ++ r)
  have e : (u8 x.size).toNat = x.size := by rw [u8_toNat]; omega
  rw [e] at h1
  have h2 := RS.take_app x.data.toList r x.size rfl
  unfold RS.text
  rw [show textB x ++ r = u8 x.size :: (x.data.toList ++ r) from rfl, h1]
  simp only [h2, Option.getD_some]

theorem RS.key_app (x : ByteArray) (hx : isKey x = true) (r : List UInt8) : (⟨textB x ++ r, false⟩ : RS).key = (x, ⟨r, false⟩) := by
  have h8 := isKey_le x hx
  unfold RS.key
  rw [RS.text_app x (by omega)]
  simp [strB_data, hx]

theorem RS.ver_app (v : ByteArray × Bool) (hv : v.1.size ≤ 20) (he : v.2 = true → v.1 = eb) (r : List UInt8) : (⟨verB v ++ r, false⟩ : RS).ver = (v, ⟨r, false⟩) := by
  obtain ⟨x, g⟩ := v
  cases g with
  | true =>
    have : x = eb := he rfl
    subst this
    have h := RS.one_cons 1 r
    unfold RS.ver
    rw [show verB (eb, true) ++ r = 1 :: r from rfl, h]
    rfl
  | false =>
    have h := RS.one_cons 0 (textB x ++ r)
    have hv' : x.size ≤ 20 := hv
    unfold RS.ver
    rw [show verB (x, false) ++ r = 0 :: (textB x ++ r) from rfl, h]
    simp [RS.text_app x (by omega), strB_data, hv']

/-- Writes that a store can have made. -/
def okW (x : ByteArray × ByteArray × Bool) : Prop := isKey x.1 = true ∧ x.2.1.size ≤ 20 ∧ (x.2.2 = true → x.2.1 = eb)

theorem RS.writes_app (ws : List (ByteArray × ByteArray × Bool)) (h : ∀ x ∈ ws, okW x) (r : List UInt8) : ∀ k, k ≤ ws.length → (⟨ws.flatMap writeB ++ r, false⟩ : RS).writes k = (ws.take k, ⟨(ws.drop k).flatMap writeB ++ r, false⟩)
  | 0, _ => by simp [RS.writes]
  | k + 1, hk => by
    have ih := RS.writes_app ws h r k (by omega)
    obtain ⟨x, hx⟩ : ∃ x, ws[k]? = some x := ⟨ws[k], List.getElem?_eq_getElem (by omega)⟩
    obtain ⟨hk2, hx2⟩ := List.getElem?_eq_some_iff.1 hx
    have hxw := h x (List.mem_of_getElem? hx)
    have hd : ws.drop k = x :: ws.drop (k + 1) := by rw [← hx2]; exact (List.getElem_cons_drop ..).symm
    have e : (ws.drop k).flatMap writeB ++ r = textB x.1 ++ (verB x.2 ++ ((ws.drop (k + 1)).flatMap writeB ++ r)) := by
      rw [hd]; simp [writeB]
    show ((RS.writes _ k).1 ++ [((RS.writes _ k).2.key.1, (RS.writes _ k).2.key.2.ver.1)], (RS.writes _ k).2.key.2.ver.2) = _
    rw [ih]
    dsimp only
    rw [e, RS.key_app x.1 hxw.1]
    dsimp only
    rw [RS.ver_app x.2 hxw.2.1 hxw.2.2]
    rw [List.take_succ_eq_append_getElem hk2, hx2]

theorem unseal_seal (c r : List UInt8) : unsealB (sealB c ++ r) c.length = some (c, r) := by
  have h1 : (sealB c ++ r).take c.length = c := by simp [sealB]
  have h2 : ((sealB c ++ r).drop c.length).take 4 = fourB (sumB c) := by
    simp only [sealB, List.append_assoc, List.drop_left]
    rw [List.take_append_of_le_length (by simp [fourB_length])]
    exact List.take_of_length_le (by simp [fourB_length])
  have h3 : (sealB c ++ r).drop (c.length + 4) = r := by
    rw [← sealB_length, List.drop_left]
  unfold unsealB
  rw [h1, h2, h3, le4_four _ (sumB_lt c)]
  rw [if_neg]
  rintro (h | h)
  · rw [List.length_append, sealB_length] at h; omega
  · exact h rfl

end Go.Proofs.YthbdpfccfcceiaaGreatDoor

namespace Go.Proofs.YthbdpfccfcceiaaGreatDoor
open Go.RowKit Go.Maps Go.Lib

theorem RS.take_wr {s : RS} {n : Nat} (h : (s.take n).2.wr = false) : s.wr = false := by
  unfold RS.take at h
  split at h
  · cases h
  · rename_i hq
    cases hw : s.wr with
    | false => rfl
    | true => exact absurd (Or.inl hw) hq
theorem RS.one_wr {s : RS} (h : s.one.2.wr = false) : s.wr = false := RS.take_wr h
theorem RS.text_wr {s : RS} (h : s.text.2.wr = false) : s.wr = false := RS.one_wr (RS.take_wr h)
theorem RS.key_wr {s : RS} (h : s.key.2.wr = false) : s.wr = false ∧ isKey s.key.1 = true := by
  unfold RS.key at h ⊢
  dsimp only at h ⊢
  split at h
  · rename_i hk
    exact ⟨RS.text_wr h, hk⟩
  · cases h
theorem RS.ver_wr {s : RS} (h : s.ver.2.wr = false) : s.wr = false ∧ s.ver.1.1.size ≤ 20 ∧ (s.ver.1.2 = true → s.ver.1.1 = eb) := by
  by_cases q0 : s.one.1 = 0
  · have e : s.ver = ((strB s.one.2.text.1, false), if (strB s.one.2.text.1).size ≤ 20 then s.one.2.text.2 else s.one.2.text.2.bad) := by unfold RS.ver; rw [if_pos q0]
    rw [e] at h ⊢
    dsimp only at h ⊢
    split at h
    · rename_i hq
      exact ⟨RS.one_wr (RS.text_wr h), hq, fun e => by cases e⟩
    · cases h
  · by_cases q1 : s.one.1 = 1
    · have e : s.ver = ((eb, true), s.one.2) := by unfold RS.ver; rw [if_neg q0, if_pos q1]
      rw [e] at h ⊢
      exact ⟨RS.one_wr h, by show eb.size ≤ 20; decide, fun _ => rfl⟩
    · have e : s.ver = ((eb, false), s.one.2.bad) := by unfold RS.ver; rw [if_neg q0, if_neg q1]
      rw [e] at h
      cases h
theorem RS.writes_ok {s : RS} : ∀ {n : Nat}, (s.writes n).2.wr = false → ∀ x ∈ (s.writes n).1, okW x
  | 0, _, x, hx => by cases hx
  | n + 1, h, x, hx => by
    have h1 := RS.ver_wr h
    have h2 := RS.key_wr h1.1
    rcases List.mem_append.1 hx with hx | hx
    · exact RS.writes_ok h2.1 x hx
    · rw [List.mem_singleton] at hx
      subst hx
      exact ⟨h2.2, h1.2⟩

/-- A record that may be. -/
def RecOk (k : Nat) (ws : List W3) : Prop := (k = 72 ∧ ws = []) ∨ (k = 67 ∧ (ws.map Prod.fst).Pairwise blt ∧ 1 ≤ ws.length ∧ ws.length ≤ 10 ∧ ∀ x ∈ ws, okW x)

theorem RecIs.ok {body : List UInt8} {k t : Nat} {ws : List W3} (h : RecIs body k t ws) : RecOk k ws := by
  rcases h with ⟨h1, _, _, h2, _⟩ | ⟨h1, _, _, h2, h3, h4, h5, h6⟩
  · exact Or.inl ⟨h1, h2⟩
  · refine Or.inr ⟨h1, h4, h5, h6, ?_⟩
    rw [h2]
    refine RS.writes_ok ?_
    have : (bodyW body).2.done = true := h3
    unfold RS.done at this
    simp at this
    exact this.1

theorem ReadsAs.ok : ∀ {l : List RecV} {bs rest : List UInt8}, ReadsAs bs l rest → ∀ r ∈ l, RecOk r.k r.ws
  | [], _, _, _, r, hr => by cases hr
  | a :: l, bs, rest, ⟨m, ⟨_, c, _, hc⟩, h2⟩, r, hr => by
    rcases List.mem_cons.1 hr with rfl | hr
    · exact hc.ok
    · exact ReadsAs.ok h2 r hr

theorem pairwise_nodup {l : List ByteArray} (h : l.Pairwise blt) : l.Nodup := h.imp (fun {a b} hab e => by subst e; exact blt_irrefl _ hab)

/-- What a record makes of a store. -/
def Did (r : RecV) (s s' : XS) : Prop :=
  ∃ l : XL, l.sy = s.log.sy ∧ ((r.k = 72 ∧ l.lg = s.log.lg ++ [bodyH r.t] ∧ s' = { s with hor := r.t, log := l }) ∨
    (r.k ≠ 72 ∧ l.lg = s.log.lg ++ [bodyC r.t r.ws] ∧ ∃ nv nm, nv ≤ s.nv + r.ws.length ∧ nm ≤ s.nm + r.ws.length ∧ s' = comm { s with log := l } ⟨0, wrL r.ws, 0⟩ (fun _ => false) nv nm))

/-- Records, each of which may follow, done one behind the other. -/
def DoneAll : List RecV → XS → XS → Prop
  | [], s, s' => s' = s
  | r :: l, s, s' => mayF s r.k r.t = true ∧ ∃ s1, Did r s s1 ∧ DoneAll l s1 s'

theorem DoneAll.snoc {r : RecV} {s2 : XS} : ∀ {l : List RecV} {s s1 : XS}, DoneAll l s s1 → mayF s1 r.k r.t = true → Did r s1 s2 → DoneAll (l ++ [r]) s s2
  | [], s, s1, h, hm, hd => by
    have h : s1 = s := h
    subst h
    exact ⟨hm, s2, hd, rfl⟩
  | a :: l, s, s1, ⟨h1, q, h2, h3⟩, hm, hd => ⟨h1, q, h2, DoneAll.snoc h3 hm hd⟩

section
variable {s s' : XS}

theorem wrL_isSome {ws : List W3} {k : ByteArray} (h : (wrL ws k).isSome = true) : ∃ x ∈ ws, x.1 = k := by
  rw [wrL_some, List.any_eq_true] at h
  obtain ⟨x, hx, e⟩ := h
  exact ⟨x, hx, by simpa using e⟩

theorem bodyC_le {t : Nat} {ws : List W3} (h : ∀ x ∈ ws, okW x) (hl : ws.length ≤ 10) : (bodyC t ws).length ≤ 400 := by
  have := bodyC_length_le t ws (fun x hx => ⟨isKey_le x.1 (h x hx).1, (h x hx).2.1⟩)
  omega

theorem XOk.did (ok : XOk s) (hno : ∀ n, s.txs n = none) {r : RecV} (hr : RecOk r.k r.ws) (hm : mayF s r.k r.t = true) (hd : Did r s s') : XOk s' ∧ (∀ n, s'.txs n = none) ∧ s'.bk = s.bk ∧ s'.begun = s.begun := by
  obtain ⟨l, hsy, h⟩ := hd
  have a1 := ok.now
  have a2 := ok.hor
  have a3 := ok.lgl
  rcases h with ⟨hk, hlg, rfl⟩ | ⟨hk, hlg, nv, nm, hnv, hnm, rfl⟩
  · simp only [mayF, hk, if_true, Bool.and_eq_true, decide_eq_true_eq] at hm
    refine ⟨⟨a1, ⟨by show 0 ≤ (r.t : Int); omega, hm.2⟩, ok.begun, ok.up, ok.mom, ok.ver, ok.key, fun n x e => ?_, ok.nm, ok.nv, ?_, fun b hb => ?_, ?_⟩, hno, rfl, rfl⟩
    · have e' : s.txs n = some x := e
      rw [hno] at e'; cases e'
    · show (l.lg.length : Int) ≤ s.now + r.t
      rw [hlg]; simp; omega
    · have hb' : b ∈ l.lg := hb
      rw [hlg] at hb'
      rcases List.mem_append.1 hb' with h3 | h3
      · exact ok.lgb b h3
      · rw [List.mem_singleton] at h3; subst h3; rw [bodyH_length]; omega
    · show l.sy ≤ bytesOf (filesB l.lg)
      rw [hlg, hsy]
      exact Nat.le_trans ok.sy (bytesOf_snoc _ _)
  · rcases hr with ⟨h1, _⟩ | ⟨h1, hpw, hl1, hl2, hok⟩
    · exact absurd h1 hk
    · rw [mayF, if_neg hk] at hm
      simp only [Bool.and_eq_true, decide_eq_true_eq] at hm
      have hw : ∀ k, (wrL r.ws k).isSome = true → isKey k = true := fun k h => by
        obtain ⟨x, hx, rfl⟩ := wrL_isSome h
        exact (hok x hx).1
      refine ⟨⟨⟨by show 0 ≤ s.now + 1; omega, by show s.now + 1 ≤ 2000; omega⟩, ⟨a2.1, by show s.hor ≤ s.now + 1; omega⟩, ok.begun, fun k => ?_, fun k m hm' => ?_, fun k m => ?_, fun k hk' => ?_, fun n t1 e1 => ?_, ?_, ?_, ?_, fun b hb => ?_, ?_⟩, hno, rfl, rfl⟩
      · simp only [comm, Bool.not_false, Bool.and_true]
        split
        · rw [List.pairwise_append]
          exact ⟨ok.up k, by simp, fun a ha b hb => by simp at hb; have := ok.mom k a ha; omega⟩
        · exact ok.up k
      · simp only [comm, Bool.not_false, Bool.and_true] at hm' ⊢
        split at hm'
        · rcases List.mem_append.1 hm' with h1 | h1
          · have := ok.mom k m h1; omega
          · simp at h1; omega
        · have := ok.mom k m hm'; omega
      · simp only [comm, Bool.not_false, Bool.and_true]
        by_cases hwk : (wrL r.ws k).isSome = true
        · rw [if_pos hwk]
          by_cases em : m = s.now + 1
          · subst em; simp [hwk]
          · simp only [em, false_and, if_false, List.mem_append, List.mem_singleton, or_false]
            exact ok.ver k m
        · rw [if_neg hwk, if_neg (fun h => hwk h.2)]
          exact ok.ver k m
      · simp only [comm, Bool.not_false, Bool.and_true] at hk'
        split at hk'
        · rename_i hwk; exact hw k hwk
        · exact ok.key k hk'
      · have e' : s.txs n = some t1 := e1
        rw [hno] at e'; cases e'
      · have := ok.nm
        show (nm : Int) ≤ 10 * (s.now + 1)
        omega
      · have := ok.nv
        show (nv : Int) ≤ 10 * (s.now + 1)
        omega
      · show (l.lg.length : Int) ≤ s.now + 1 + s.hor
        rw [hlg]; simp; omega
      · have hb' : b ∈ l.lg := hb
        rw [hlg] at hb'
        rcases List.mem_append.1 hb' with h3 | h3
        · exact ok.lgb b h3
        · rw [List.mem_singleton] at h3; subst h3; exact bodyC_le hok hl2
      · show l.sy ≤ bytesOf (filesB l.lg)
        rw [hlg, hsy]
        exact Nat.le_trans ok.sy (bytesOf_snoc _ _)

end

end Go.Proofs.YthbdpfccfcceiaaGreatDoor
