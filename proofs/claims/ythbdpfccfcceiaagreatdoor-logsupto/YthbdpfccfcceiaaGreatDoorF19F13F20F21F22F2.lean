/-
  Whether a store could write a record next: mayFollow.
  What was written reads back: of bytes alone.
  What doing a record makes of a store's plain state, and that it keeps what holds of it.
  What a file's records say is done: replay.
  replay, walked.
  The first so many bytes of a log: (*Journal).first.
-/
import Derived.Test.YthbdpfccfcceiaaGreatDoorF17F18
import Derived.Test.YthbdpfccfcceiaaGreatDoorT0T1C3J2J3N1
import Derived.Test.YthbdpfccfcceiaaGreatDoorZ2G7G11
import Derived.Test.YthbdpfccfcceiaaGreatDoorF5F6F7F8F9F10F11
import Derived.Test.YthbdpfccfcceiaaGreatDoorV7E1V8
import Derived.Test.YthbdpfccfcceiaaGreatDoorF1DA1DA2DA3
namespace Go.Proofs.YthbdpfccfcceiaaGreatDoor
open Go.RowKit Go.Maps Go.Lib

def mayF (s : XS) (k t : Nat) : Bool := if k = 72 then decide (s.hor < (t : Int)) && decide ((t : Int) ≤ s.now) else decide ((t : Int) = s.now + 1) && decide (s.now < 2000)

section
variable {own own' : Nat → Lab} {c : Nat} {w w' : World} {p : Nat} {s : XS} {mo ph mv mm : Nat} {pt mw : Int → Nat} {sl : ByteArray → Value}
variable {R : Ending → World → Prop}

set_option maxRecDepth 20000 in
set_option maxHeartbeats 1000000 in
theorem x_mayFollow (h : XR own c w p s mo ph mv mm pt mw sl) (hn : 0 ≤ s.now ∧ s.now ≤ 2000) (k t : Nat) (hk : k < 256) (a : Option Addr) (n cu : Nat)
    (hR : ∀ w', Kp (fun _ => False) w w' → R (.returned (.bool (mayF s k t))) w') :
    Calls Tryz.prog 76 #[.pointer (some ⟨p, 0, none⟩), .agg #[.int .u8 k, .int .i64 t, .slice a n cu]] w R := by
  have kA := Kp.alloc (fun _ => False) w (.cells #[.int .u8 k, .int .i64 t, .slice a n cu] 110)
  have hA := h.kept kA
  have c1 : (w.alloc (.cells #[.int .u8 k, .int .i64 t, .slice a n cu] 110)).cell? ⟨p, 1, none⟩ = some (.int .i64 s.hor) := cell_of hA.store 1
  have c2 : (w.alloc (.cells #[.int .u8 k, .int .i64 t, .slice a n cu] 110)).cell? ⟨p, 2, none⟩ = some (.int .i64 s.now) := cell_of hA.store 2
  have bA := heap_alloc_new w (.cells #[.int .u8 k, .int .i64 t, .slice a n cu] 110)
  have d0 : (w.alloc (.cells #[.int .u8 k, .int .i64 t, .slice a n cu] 110)).cell? ⟨w.heap.size, 0, none⟩ = some (.int .u8 k) := cell_of bA 0
  have d1 : (w.alloc (.cells #[.int .u8 k, .int .i64 t, .slice a n cu] 110)).cell? ⟨w.heap.size, 1, none⟩ = some (.int .i64 t) := cell_of bA 1
  have hw : IntKind.i64.wrap (s.now + 1) = s.now + 1 := IntWalk.i64_in _ (by omega)
  have hw' : wrap64 (s.now + 1) = s.now + 1 := IntWalk.i64_left _ ▸ hw
  have HR := hid_of hR
  have KA := hid_of kA
  have fin : ∀ b : Bool, mayF s k t = b → ∀ w', Kp (fun _ => False) (w.alloc (.cells #[.int .u8 k, .int .i64 t, .slice a n cu] 110)) w' → R (.returned (.bool b)) w' := fun b e w' k' => e ▸ HR.out w' (KA.out.trans k' (fun _ _ h => h))
  have FIN := hid_of fin
  clear h hR hA kA bA fin
  generalize hAA : w.alloc (.cells #[.int .u8 k, .int .i64 t, .slice a n cu] 110) = A at c1 c2 d0 d1 FIN KA
  have hk' : (k : Int) < 256 := by omega
  by_cases q : k = 72
  · have q' : ((k : Int) == 72) = true := by simp [q]
    by_cases q1 : s.hor < (t : Int)
    · have e1 : decide (s.hor < (t : Int)) = true := by simpa using q1
      by_cases q2 : (t : Int) ≤ s.now
      · have e2 : decide ((t : Int) ≤ s.now) = true := by simpa using q2
        have HF := hid_of (FIN.out true (by simp [mayF, q, q1, q2]))
        clear q q1 q2
        go_enter Tryz.func76, Tryz.ntmps76
        go_wp2_with fail
        go_quiet (fail)
        all_goals go_wp2_with fail
        all_goals exact HF.out _ (Kp.drewN _ _ _)
      · have e2 : decide ((t : Int) ≤ s.now) = false := by simpa using q2
        have HF := hid_of (FIN.out false (by simp [mayF, q, q1, q2]))
        clear q q1 q2
        go_enter Tryz.func76, Tryz.ntmps76
        go_wp2_with fail
        go_quiet (fail)
        all_goals go_wp2_with fail
        all_goals exact HF.out _ (Kp.drewN _ _ _)
    · have e1 : decide (s.hor < (t : Int)) = false := by simpa using q1
      have HF := hid_of (FIN.out false (by simp [mayF, q, q1]))
      clear q q1
      go_enter Tryz.func76, Tryz.ntmps76
      go_wp2_with fail
      go_quiet (fail)
      all_goals go_wp2_with fail
      all_goals exact HF.out _ (Kp.drewN _ _ _)
  · have q' : ((k : Int) == 72) = false := by simp; omega
    by_cases q1 : (t : Int) = s.now + 1
    · have e1 : ((t : Int) == s.now + 1) = true := by simpa using q1
      by_cases q2 : s.now < 2000
      · have e2 : decide (s.now < 2000) = true := by simpa using q2
        have HF := hid_of (FIN.out true (by simp [mayF, q, q1, q2]))
        clear q q1 q2
        go_enter Tryz.func76, Tryz.ntmps76
        go_wp2_with fail
        go_quiet (fail)
        all_goals go_wp2_with fail
        all_goals exact HF.out _ (Kp.drewN _ _ _)
      · have e2 : decide (s.now < 2000) = false := by simpa using q2
        have HF := hid_of (FIN.out false (by simp [mayF, q, q1, q2]))
        clear q q1 q2
        go_enter Tryz.func76, Tryz.ntmps76
        go_wp2_with fail
        go_quiet (fail)
        all_goals go_wp2_with fail
        all_goals exact HF.out _ (Kp.drewN _ _ _)
    · have e1 : ((t : Int) == s.now + 1) = false := by simpa using q1
      have HF := hid_of (FIN.out false (by simp [mayF, q, q1]))
      clear q q1
      go_enter Tryz.func76, Tryz.ntmps76
      go_wp2_with fail
      go_quiet (fail)
      all_goals go_wp2_with fail
      all_goals exact HF.out _ (Kp.drewN _ _ _)

end

end Go.Proofs.YthbdpfccfcceiaaGreatDoor

namespace Go.Proofs.YthbdpfccfcceiaaGreatDoor
open Go.RowKit Go.Maps Go.Lib

theorem RS.take_app (l r : List UInt8) (n : Nat) (hn : l.length = n) : (⟨l ++ r, false⟩ : RS).take n = (some l, ⟨r, false⟩) := by
  subst hn
  simp [RS.take]

theorem RS.one_cons (b : UInt8) (r : List UInt8) : (⟨b :: r, false⟩ : RS).one = (b.toNat, ⟨r, false⟩) := by
  have h := RS.take_app [b] r 1 rfl
  unfold RS.one
  rw [show (b :: r) = [b] ++ r from rfl, h]
  rfl

theorem le4_four (t : Nat) (ht : t < 4294967296) : le4 (fourB t) = t := by
  unfold le4 fourB
  simp only [List.getD_cons_zero, List.getD_cons_succ, u8_toNat]
  omega

theorem RS.four_app (t : Nat) (ht : t < 4294967296) (r : List UInt8) : (⟨fourB t ++ r, false⟩ : RS).four = (t, ⟨r, false⟩) := by
  have h := RS.take_app (fourB t) r 4 rfl
  unfold RS.four
  rw [h]
  simp only [le4_four t ht]

theorem strB_data (x : ByteArray) : strB x.data.toList = x := by
  cases x; rfl

theorem RS.text_app (x : ByteArray) (hx : x.size ≤ 255) (r : List UInt8) : (⟨textB x ++ r, false⟩ : RS).text = (x.data.toList, ⟨r, false⟩) := by
  have h1 := RS.one_cons (u8 x.size) (x.data.toList ++ r)
  have e : (u8 x.size).toNat = x.size := by rw [u8_toNat]; omega
  rw [e] at h1
  have h2 := RS.take_app x.data.toList r x.size rfl
  unfold RS.text
  rw [show textB x ++ r = u8 x.size :: (x.data.toList ++ r) from rfl, h1]
  simp only [h2, Option.getD_some]

theorem RS.key_app (x : ByteArray) (hx : isKey x = true) (r : List UInt8) : (⟨textB x ++ r, false⟩ : RS).key = (x, ⟨r, false⟩) := by
  have h8 := isKey_le x hx
  unfold RS.key
  rw [RS.text_app x (by omega)]
  simp [strB_data, hx]

theorem RS.ver_app (v : ByteArray × Bool) (hv : v.1.size ≤ 20) (he : v.2 = true → v.1 = eb) (r : List UInt8) : (⟨verB v ++ r, false⟩ : RS).ver = (v, ⟨r, false⟩) := by
  obtain ⟨x, g⟩ := v
  cases g with
  | true =>
    have : x = eb := he rfl
    subst this
    have h := RS.one_cons 1 r
    unfold RS.ver
    rw [show verB (eb, true) ++ r = 1 :: r from rfl, h]
    rfl
  | false =>
    have h := RS.one_cons 0 (textB x ++ r)
    have hv' : x.size ≤ 20 := hv
    unfold RS.ver
    rw [show verB (x, false) ++ r = 0 :: (textB x ++ r) from rfl, h]
    simp [RS.text_app x (by omega), strB_data, hv']

/-- Writes that a store can have made. -/
def okW (x : ByteArray × ByteArray × Bool) : Prop := isKey x.1 = true ∧ x.2.1.size ≤ 20 ∧ (x.2.2 = true → x.2.1 = eb)

theorem RS.writes_app (ws : List (ByteArray × ByteArray × Bool)) (h : ∀ x ∈ ws, okW x) (r : List UInt8) : ∀ k, k ≤ ws.length → (⟨ws.flatMap writeB ++ r, false⟩ : RS).writes k = (ws.take k, ⟨(ws.drop k).flatMap writeB ++ r, false⟩)
  | 0, _ => by simp [RS.writes]
  | k + 1, hk => by
    have ih := RS.writes_app ws h r k (by omega)
    obtain ⟨x, hx⟩ : ∃ x, ws[k]? = some x := ⟨ws[k], List.getElem?_eq_getElem (by omega)⟩
    obtain ⟨hk2, hx2⟩ := List.getElem?_eq_some_iff.1 hx
    have hxw := h x (List.mem_of_getElem? hx)
    have hd : ws.drop k = x :: ws.drop (k + 1) := by rw [← hx2]; exact (List.getElem_cons_drop ..).symm
    have e : (ws.drop k).flatMap writeB ++ r = textB x.1 ++ (verB x.2 ++ ((ws.drop (k + 1)).flatMap writeB ++ r)) := by
      rw [hd]; simp [writeB]
    show ((RS.writes _ k).1 ++ [((RS.writes _ k).2.key.1, (RS.writes _ k).2.key.2.ver.1)], (RS.writes _ k).2.key.2.ver.2) = _
    rw [ih]
    dsimp only
    rw [e, RS.key_app x.1 hxw.1]
    dsimp only
    rw [RS.ver_app x.2 hxw.2.1 hxw.2.2]
    rw [List.take_succ_eq_append_getElem hk2, hx2]

theorem unseal_seal (c r : List UInt8) : unsealB (sealB c ++ r) c.length = some (c, r) := by
  have h1 : (sealB c ++ r).take c.length = c := by simp [sealB]
  have h2 : ((sealB c ++ r).drop c.length).take 4 = fourB (sumB c) := by
    simp only [sealB, List.append_assoc, List.drop_left]
    rw [List.take_append_of_le_length (by simp [fourB_length])]
    exact List.take_of_length_le (by simp [fourB_length])
  have h3 : (sealB c ++ r).drop (c.length + 4) = r := by
    rw [← sealB_length, List.drop_left]
  unfold unsealB
  rw [h1, h2, h3, le4_four _ (sumB_lt c)]
  rw [if_neg]
  rintro (h | h)
  · rw [List.length_append, sealB_length] at h; omega
  · exact h rfl

end Go.Proofs.YthbdpfccfcceiaaGreatDoor

namespace Go.Proofs.YthbdpfccfcceiaaGreatDoor
open Go.RowKit Go.Maps Go.Lib

theorem RS.take_wr {s : RS} {n : Nat} (h : (s.take n).2.wr = false) : s.wr = false := by
  unfold RS.take at h
  split at h
  · cases h
  · rename_i hq
    cases hw : s.wr with
    | false => rfl
    | true => exact absurd (Or.inl hw) hq
theorem RS.one_wr {s : RS} (h : s.one.2.wr = false) : s.wr = false := RS.take_wr h
theorem RS.text_wr {s : RS} (h : s.text.2.wr = false) : s.wr = false := RS.one_wr (RS.take_wr h)
theorem RS.key_wr {s : RS} (h : s.key.2.wr = false) : s.wr = false ∧ isKey s.key.1 = true := by
  unfold RS.key at h ⊢
  dsimp only at h ⊢
  split at h
  · rename_i hk
    exact ⟨RS.text_wr h, hk⟩
  · cases h
theorem RS.ver_wr {s : RS} (h : s.ver.2.wr = false) : s.wr = false ∧ s.ver.1.1.size ≤ 20 ∧ (s.ver.1.2 = true → s.ver.1.1 = eb) := by
  by_cases q0 : s.one.1 = 0
  · have e : s.ver = ((strB s.one.2.text.1, false), if (strB s.one.2.text.1).size ≤ 20 then s.one.2.text.2 else s.one.2.text.2.bad) := by unfold RS.ver; rw [if_pos q0]
    rw [e] at h ⊢
    dsimp only at h ⊢
    split at h
    · rename_i hq
      exact ⟨RS.one_wr (RS.text_wr h), hq, fun e => by cases e⟩
    · cases h
  · by_cases q1 : s.one.1 = 1
    · have e : s.ver = ((eb, true), s.one.2) := by unfold RS.ver; rw [if_neg q0, if_pos q1]
      rw [e] at h ⊢
      exact ⟨RS.one_wr h, by show eb.size ≤ 20; decide, fun _ => rfl⟩
    · have e : s.ver = ((eb, false), s.one.2.bad) := by unfold RS.ver; rw [if_neg q0, if_neg q1]
      rw [e] at h
      cases h
theorem RS.writes_ok {s : RS} : ∀ {n : Nat}, (s.writes n).2.wr = false → ∀ x ∈ (s.writes n).1, okW x
  | 0, _, x, hx => by cases hx
  | n + 1, h, x, hx => by
    have h1 := RS.ver_wr h
    have h2 := RS.key_wr h1.1
    rcases List.mem_append.1 hx with hx | hx
    · exact RS.writes_ok h2.1 x hx
    · rw [List.mem_singleton] at hx
      subst hx
      exact ⟨h2.2, h1.2⟩

/-- A record that may be. -/
def RecOk (k : Nat) (ws : List W3) : Prop := (k = 72 ∧ ws = []) ∨ (k = 67 ∧ (ws.map Prod.fst).Pairwise blt ∧ 1 ≤ ws.length ∧ ws.length ≤ 10 ∧ ∀ x ∈ ws, okW x)

theorem RecIs.ok {body : List UInt8} {k t : Nat} {ws : List W3} (h : RecIs body k t ws) : RecOk k ws := by
  rcases h with ⟨h1, _, _, h2, _⟩ | ⟨h1, _, _, h2, h3, h4, h5, h6⟩
  · exact Or.inl ⟨h1, h2⟩
  · refine Or.inr ⟨h1, h4, h5, h6, ?_⟩
    rw [h2]
    refine RS.writes_ok ?_
    have : (bodyW body).2.done = true := h3
    unfold RS.done at this
    simp at this
    exact this.1

theorem ReadsAs.ok : ∀ {l : List RecV} {bs rest : List UInt8}, ReadsAs bs l rest → ∀ r ∈ l, RecOk r.k r.ws
  | [], _, _, _, r, hr => by cases hr
  | a :: l, bs, rest, ⟨m, ⟨_, c, _, hc⟩, h2⟩, r, hr => by
    rcases List.mem_cons.1 hr with rfl | hr
    · exact hc.ok
    · exact ReadsAs.ok h2 r hr

theorem pairwise_nodup {l : List ByteArray} (h : l.Pairwise blt) : l.Nodup := h.imp (fun {a b} hab e => by subst e; exact blt_irrefl _ hab)

/-- What a record makes of a store. -/
def Did (r : RecV) (s s' : XS) : Prop :=
  ∃ l : XL, l.sy = s.log.sy ∧ ((r.k = 72 ∧ l.lg = s.log.lg ++ [bodyH r.t] ∧ s' = { s with hor := r.t, log := l }) ∨
    (r.k ≠ 72 ∧ l.lg = s.log.lg ++ [bodyC r.t r.ws] ∧ ∃ nv nm, nv ≤ s.nv + r.ws.length ∧ nm ≤ s.nm + r.ws.length ∧ s' = comm { s with log := l } ⟨0, wrL r.ws, 0⟩ (fun _ => false) nv nm))

/-- Records, each of which may follow, done one behind the other. -/
def DoneAll : List RecV → XS → XS → Prop
  | [], s, s' => s' = s
  | r :: l, s, s' => mayF s r.k r.t = true ∧ ∃ s1, Did r s s1 ∧ DoneAll l s1 s'

theorem DoneAll.snoc {r : RecV} {s2 : XS} : ∀ {l : List RecV} {s s1 : XS}, DoneAll l s s1 → mayF s1 r.k r.t = true → Did r s1 s2 → DoneAll (l ++ [r]) s s2
  | [], s, s1, h, hm, hd => by
    have h : s1 = s := h
    subst h
    exact ⟨hm, s2, hd, rfl⟩
  | a :: l, s, s1, ⟨h1, q, h2, h3⟩, hm, hd => ⟨h1, q, h2, DoneAll.snoc h3 hm hd⟩

section
variable {s s' : XS}

theorem wrL_isSome {ws : List W3} {k : ByteArray} (h : (wrL ws k).isSome = true) : ∃ x ∈ ws, x.1 = k := by
  rw [wrL_some, List.any_eq_true] at h
  obtain ⟨x, hx, e⟩ := h
  exact ⟨x, hx, by simpa using e⟩

theorem bodyC_le {t : Nat} {ws : List W3} (h : ∀ x ∈ ws, okW x) (hl : ws.length ≤ 10) : (bodyC t ws).length ≤ 400 := by
  have := bodyC_length_le t ws (fun x hx => ⟨isKey_le x.1 (h x hx).1, (h x hx).2.1⟩)
  omega

theorem XOk.did (ok : XOk s) (hno : ∀ n, s.txs n = none) {r : RecV} (hr : RecOk r.k r.ws) (hm : mayF s r.k r.t = true) (hd : Did r s s') : XOk s' ∧ (∀ n, s'.txs n = none) ∧ s'.bk = s.bk ∧ s'.begun = s.begun := by
  obtain ⟨l, hsy, h⟩ := hd
  have a1 := ok.now
  have a2 := ok.hor
  have a3 := ok.lgl
  rcases h with ⟨hk, hlg, rfl⟩ | ⟨hk, hlg, nv, nm, hnv, hnm, rfl⟩
  · simp only [mayF, hk, if_true, Bool.and_eq_true, decide_eq_true_eq] at hm
    refine ⟨⟨a1, ⟨by show 0 ≤ (r.t : Int); omega, hm.2⟩, ok.begun, ok.up, ok.mom, ok.ver, ok.key, fun n x e => ?_, ok.nm, ok.nv, ?_, fun b hb => ?_, ?_⟩, hno, rfl, rfl⟩
    · have e' : s.txs n = some x := e
      rw [hno] at e'; cases e'
    · show (l.lg.length : Int) ≤ s.now + r.t
      rw [hlg]; simp; omega
    · have hb' : b ∈ l.lg := hb
      rw [hlg] at hb'
      rcases List.mem_append.1 hb' with h3 | h3
      · exact ok.lgb b h3
      · rw [List.mem_singleton] at h3; subst h3; rw [bodyH_length]; omega
    · show l.sy ≤ bytesOf (filesB l.lg)
      rw [hlg, hsy]
      exact Nat.le_trans ok.sy (bytesOf_snoc _ _)
  · rcases hr with ⟨h1, _⟩ | ⟨h1, hpw, hl1, hl2, hok⟩
    · exact absurd h1 hk
    · rw [mayF, if_neg hk] at hm
      simp only [Bool.and_eq_true, decide_eq_true_eq] at hm
      have hw : ∀ k, (wrL r.ws k).isSome = true → isKey k = true := fun k h => by
        obtain ⟨x, hx, rfl⟩ := wrL_isSome h
        exact (hok x hx).1
      refine ⟨⟨⟨by show 0 ≤ s.now + 1; omega, by show s.now + 1 ≤ 2000; omega⟩, ⟨a2.1, by show s.hor ≤ s.now + 1; omega⟩, ok.begun, fun k => ?_, fun k m hm' => ?_, fun k m => ?_, fun k hk' => ?_, fun n t1 e1 => ?_, ?_, ?_, ?_, fun b hb => ?_, ?_⟩, hno, rfl, rfl⟩
      · simp only [comm, Bool.not_false, Bool.and_true]
        split
        · rw [List.pairwise_append]
          exact ⟨ok.up k, by simp, fun a ha b hb => by simp at hb; have := ok.mom k a ha; omega⟩
        · exact ok.up k
      · simp only [comm, Bool.not_false, Bool.and_true] at hm' ⊢
        split at hm'
        · rcases List.mem_append.1 hm' with h1 | h1
          · have := ok.mom k m h1; omega
          · simp at h1; omega
        · have := ok.mom k m hm'; omega
      · simp only [comm, Bool.not_false, Bool.and_true]
        by_cases hwk : (wrL r.ws k).isSome = true
        · rw [if_pos hwk]
          by_cases em : m = s.now + 1
          · subst em; simp [hwk]
          · simp only [em, false_and, if_false, List.mem_append, List.mem_singleton, or_false]
            exact ok.ver k m
        · rw [if_neg hwk, if_neg (fun h => hwk h.2)]
          exact ok.ver k m
      · simp only [comm, Bool.not_false, Bool.and_true] at hk'
        split at hk'
        · rename_i hwk; exact hw k hwk
        · exact ok.key k hk'
      · have e' : s.txs n = some t1 := e1
        rw [hno] at e'; cases e'
      · have := ok.nm
        show (nm : Int) ≤ 10 * (s.now + 1)
        omega
      · have := ok.nv
        show (nv : Int) ≤ 10 * (s.now + 1)
        omega
      · show (l.lg.length : Int) ≤ s.now + 1 + s.hor
        rw [hlg]; simp; omega
      · have hb' : b ∈ l.lg := hb
        rw [hlg] at hb'
        rcases List.mem_append.1 hb' with h3 | h3
        · exact ok.lgb b h3
        · rw [List.mem_singleton] at h3; subst h3; exact bodyC_le hok hl2
      · show l.sy ≤ bytesOf (filesB l.lg)
        rw [hlg, hsy]
        exact Nat.le_trans ok.sy (bytesOf_snoc _ _)

end

end Go.Proofs.YthbdpfccfcceiaaGreatDoor

namespace Go.Proofs.YthbdpfccfcceiaaGreatDoor
open Go.RowKit Go.Maps Go.Lib

section
variable {own own' : Nat → Lab} {c : Nat} {w w' : World} {p : Nat} {s : XS}
variable {R : Ending → World → Prop}

theorem x_do_rec (h : XE own c w p s) (ok : XOk s) (hT : Tab w) (hN : TabN own c) (r : RecV) (hr : RecOk r.k r.ws) (hlt : r.t < 4294967296) (hhor : r.k = 72 → r.u = .slice none 0 0) {base : Nat} (hw : WR base w r.u r.ws) (hown : ∀ b, r.u.ownBlock = some b → (own b).c ≠ c) (hm : mayF s r.k r.t = true)
    (hR : ∀ w' own' s', Kp (fun b => (own b).c = c) w w' → (∀ b, b < w.heap.size → own' b = own b) → XE own' c w' p s' → Did r s s' → R (.returned (.tuple #[])) w') :
    Calls Tryz.prog 46 #[.pointer (some ⟨p, 0, none⟩), .agg #[.int .u8 r.k, .int .i64 r.t, r.u]] w R := by
  obtain ⟨mo, ph, mv, mm, pt, mw, sl, h⟩ := h
  have a1 := ok.now
  have a2 := ok.hor
  have a3 := ok.lgl
  have a4 := ok.nv
  have a5 := ok.nm
  by_cases hk : r.k = 72
  · rw [hk, hhor hk]
    refine x_do_hor h hT hN r.t hlt (by omega) ok.lgb (fun w' own' l' k ho hlg hsy hx => hR w' own' _ k ho ⟨mo, ph, mv, mm, pt, mw, sl, hx⟩ ⟨l', hsy, Or.inl ⟨hk, hlg, rfl⟩⟩)
  · rcases hr with ⟨h1, _⟩ | ⟨h1, hpw, hl1, hl2, hok⟩
    · exact absurd h1 hk
    · rw [h1]
      rw [mayF, if_neg hk] at hm
      simp only [Bool.and_eq_true, decide_eq_true_eq] at hm
      have hu : r.u.oneCell' = true := by
        obtain ⟨a, cap, e⟩ := ownsRow_slice hw
        rw [e]; rfl
      refine x_do_commit h hT hN r.u r.ws hu hw.rd (fun e => by rw [e] at hl1; simp at hl1) (pairwise_nodup hpw) hl2 (fun x hx => ⟨isKey_le x.1 (hok x hx).1, (hok x hx).2.1⟩) hown (by omega) ok.lgb ⟨a1.1, hm.2⟩ (fun k => by have := ok.len k; omega) (by omega) (by omega) r.t hm.1 (fun w' own' sl' l' nv nm k ho hlg hsy hnv hnm hx => hR w' own' _ k ho ⟨mo, ph, mv, mm, pt, mw, sl', hx⟩ ⟨l', hsy, Or.inr ⟨hk, hlg, nv, nm, hnv, hnm, rfl⟩⟩)

theorem flat3 {α : Type} (f : α → List Value) (hf : ∀ a, (f a).length = 3) : ∀ (l : List α) (i : Nat) (a : α), l[i]? = some a → ∀ j, j < 3 → (l.flatMap f)[i * 3 + j]? = (f a)[j]?
  | [], _, _, h, _, _ => by simp at h
  | y :: r, 0, a, h, j, hj => by
    simp at h
    subst h
    rw [List.flatMap_cons, List.getElem?_append_left (by rw [hf]; omega)]
    simp
  | y :: r, i + 1, a, h, j, hj => by
    have ih := flat3 f hf r i a (by simpa using h) j hj
    rw [List.flatMap_cons, List.getElem?_append_right (by rw [hf]; omega), hf]
    rw [show (i + 1) * 3 + j - 3 = i * 3 + j by omega]
    exact ih

theorem RecsR.kp {base : Nat} {v : Value} {l : List RecV} {S : Nat → Prop} (h : RecsR base w v l) (k : Kp S w w') (hs : ∀ b, base ≤ b → b < w.heap.size → ¬ S b) : RecsR base w' v l :=
  ⟨ownsRow_kp h.row k (fun b e => hs b (h.row.lt b e).1 (h.row.lt b e).2), fun r hr => ownsRow_kp (h.wr r hr) k (fun b e => hs b ((h.wr r hr).lt b e).1 ((h.wr r hr).lt b e).2), h.hor, h.lt⟩

theorem RecsR.cell {base g n cap : Nat} {l : List RecV} (h : RecsR base w (.slice (some ⟨g, 0, none⟩) n cap) l) {i : Nat} {r : RecV} (hi : l[i]? = some r) :
    w.cell? ⟨g, i * 3, none⟩ = some (.int .u8 r.k) ∧ w.cell? ⟨g, i * 3 + 1, none⟩ = some (.int .i64 r.t) ∧ w.cell? ⟨g, i * 3 + 2, none⟩ = some r.u := by
  have hc := World.ownsRow.cells h.row (g := g) rfl
  have hf := flat3 RecV.cells (fun _ => rfl) l i r hi
  refine ⟨?_, ?_, ?_⟩
  · have := hc (i * 3 + 0) _ (hf 0 (by omega))
    rw [addr_add, Nat.zero_add] at this
    exact this
  · have := hc (i * 3 + 1) _ (hf 1 (by omega))
    rw [addr_add, Nat.zero_add] at this
    exact this
  · have := hc (i * 3 + 2) _ (hf 2 (by omega))
    rw [addr_add, Nat.zero_add] at this
    exact this

/-- What replay makes of a file. -/
def Replayed (bs : List UInt8) (num : Nat) (s s' : XS) (b : Bool) : Prop :=
  (cutO bs ≠ some num ∧ s' = s ∧ b = false) ∨ ∃ l rest, FileIs bs num l rest ∧
    ((∃ (i : Nat) (r : RecV), l[i]? = some r ∧ DoneAll (l.take i) s s' ∧ mayF s' r.k r.t = false ∧ b = false) ∨ (DoneAll l s s' ∧ b = (decide (rest = []) && decide (l.length = 4))))

structure MidP (own : Nat → Lab) (c : Nat) (w1 : World) (p : Nat) (s : XS) (l : List RecV) (i : Nat) (wr : World) (own' : Nat → Lab) (s' : XS) : Prop where
  x : XE own' c wr p s'
  ok : XOk s'
  txs : ∀ n, s'.txs n = none
  bk : s'.bk = s.bk
  beg : s'.begun = s.begun
  done : DoneAll (l.take i) s s'
  kp : Kp (fun b => (own b).c = c) w1 wr
  old : ∀ b, b < w1.heap.size → own' b = own b

end

end Go.Proofs.YthbdpfccfcceiaaGreatDoor

namespace Go.Proofs.YthbdpfccfcceiaaGreatDoor
open Go.RowKit Go.Maps Go.Lib

section
variable {own own' : Nat → Lab} {c : Nat} {w w' : World} {p : Nat} {s : XS}
variable {R : Ending → World → Prop}

theorem MidP.step {own : Nat → Lab} {w1 wr w3 : World} {l : List RecV} {i : Nat} {own3 : Nat → Lab} {s1 s3 : XS} {r : RecV} (h : MidP own c w1 p s l i wr own' s1) (hi : l[i]? = some r) (hr : RecOk r.k r.ws) (hm : mayF s1 r.k r.t = true)
    {w2 : World} (k2 : Kp (fun _ => False) wr w2) (k3 : Kp (fun b => (own' b).c = c) w2 w3) (ho : ∀ b, b < w2.heap.size → own3 b = own' b) (hx : XE own3 c w3 p s3) (hd : Did r s1 s3) : MidP own c w1 p s l (i + 1) w3 own3 s3 := by
  obtain ⟨h1, h2, h3, h4⟩ := h.ok.did h.txs hr hm hd
  have hlt : i < l.length := (List.getElem?_eq_some_iff.1 hi).1
  refine ⟨hx, h1, h2, h3.trans h.bk, h4.trans h.beg, ?_, (h.kp.trans (k2.mono (S' := fun b => (own b).c = c) (fun _ _ e => e.elim)) (fun _ _ e => e)).trans k3 (fun b hb e => ?_), fun b hb => ?_⟩
  · have e : l.take (i + 1) = l.take i ++ [r] := by
      rw [List.take_succ_eq_append_getElem hlt, (List.getElem?_eq_some_iff.1 hi).2]
    rw [e]
    exact h.done.snoc hm hd
  · have hb' : own' b = own b := h.old b hb
    rw [hb'] at e
    exact e
  · have := h.kp.size
    have := k2.size
    rw [ho b (by omega)]
    exact h.old b hb

theorem xe_kept (h : XE own c w p s) (k : Kp (fun _ => False) w w') : XE own c w' p s := by
  obtain ⟨mo, ph, mv, mm, pt, mw, sl, h⟩ := h
  exact ⟨mo, ph, mv, mm, pt, mw, sl, h.kept k⟩
theorem Tab.kpN (h : Tab w) (k : Kp (fun b => (own b).c = c) w w') (hN : TabN own c) : Tab w' :=
  h.block (k.block 0 h.lt.1 hN.1) (k.block 1 h.lt.2 hN.2)
theorem tabN_of (h : Tab w) (hN : TabN own c) (ho : ∀ b, b < w.heap.size → own' b = own b) : TabN own' c := by
  unfold TabN
  rw [ho 0 h.lt.1, ho 1 h.lt.2]
  exact hN

set_option maxRecDepth 20000 in
set_option maxHeartbeats 2000000 in
theorem x_replay (h : XE own c w p s) (ok : XOk s) (hno : ∀ n, s.txs n = none) (hT : Tab w) (hN : TabN own c) (v : Value) (bs : List UInt8) (g : Nat) (hv : RdN w v bs g) (hl : bs.length ≤ 1100000) (num : Nat) (hnum : num < 4294967296)
    (hR : ∀ w' own' s' (b : Bool), Kp (fun b => (own b).c = c) w w' → (∀ b, b < w.heap.size → own' b = own b) → XE own' c w' p s' → XOk s' → (∀ n, s'.txs n = none) → s'.bk = s.bk → s'.begun = s.begun → Replayed bs num s s' b → R (.returned (.bool b)) w') :
    Calls Tryz.prog 41 #[.pointer (some ⟨p, 0, none⟩), v, .int .i64 num] w R := by
  have H := hid_of h
  have OK := hid_of ok
  have HNO := hid_of hno
  have HT := hid_of hT
  have HN := hid_of hN
  have HV := hid_of hv
  have HL := hid_of hl
  have HR := hid_of hR
  clear h ok hno hT hN hv hl hR
  go_enter Tryz.func41, Tryz.ntmps41
  go_wp2_with (first
    | (go_at_call 75; refine read_any v bs g w HV.out HT.out HL.out ?_ ?_)
    | fail)
  · intro e w1 hk1
    have HF1 := hid_of (HR.out w1 own s false (hk1.own_of (fun _ h => h.elim)) (fun _ _ => rfl) (by obtain ⟨mo, ph, mv, mm, pt, mw, sl, h⟩ := H.out; exact ⟨mo, ph, mv, mm, pt, mw, sl, h.kept hk1⟩) OK.out HNO.out rfl rfl (Or.inl ⟨by rw [e]; simp, rfl, rfl⟩))
    clear e hk1
    by_cases q : num = 0
    · subst q
      go_wp2_with fail
      go_loopw [23] (fun v23 wr => v23 = .int .i64 0 ∧ wr = w1) (fun _ _ => 0)
      case atStart => exact ⟨rfl, rfl⟩
      case round =>
        obtain ⟨rfl, rfl⟩ := hrel
        go_wp2_with fail
        exact HF1.out
    · have q' : ((0 : Int) == num) = false := by simp; omega
      clear q
      go_wp2_with fail
      exact HF1.out
  · intro n l rest v1 w1 hfi hk1 hrs
    obtain ⟨pu, cu, rfl⟩ := ownsRow_slice hrs.row
    have HX1 : Hid (XE (outer own c w.heap.size) c w1 p s) := by
      obtain ⟨mo, ph, mv, mm, pt, mw, sl, h⟩ := H.out
      exact ⟨mo, ph, mv, mm, pt, mw, sl, h.outer hk1⟩
    have HT1 := hid_of (HT.out.kept hk1)
    have HN1 := hid_of (HN.out.outer HT.out)
    have HK1 := hid_of hk1
    have HFI := hid_of hfi
    have HRS := hid_of hrs
    have hl4 : (l.length : Int) ≤ 4 := by have := hfi.le; omega
    clear hfi hk1 hrs
    by_cases q : n = num
    · subst q
      have qq : ((n : Int) == n) = true := by simp
      go_wp2_with fail
      go_loopw [23] (fun v23 wr => ∃ (i : Nat) (own' : Nat → Lab) (s' : XS), i ≤ l.length ∧ v23 = .int .i64 i ∧ MidP (outer own c w.heap.size) c w1 p s l i wr own' s') (fun v23 _ => l.length - (intOf v23).toNat)
      case atStart => exact ⟨0, _, s, Nat.zero_le _, rfl, HX1.out, OK.out, HNO.out, rfl, rfl, rfl, Kp.refl _ _, fun _ _ => rfl⟩
      case round =>
        obtain ⟨i, own2, s2, hi, rfl, hM⟩ := hrel
        have HM := hid_of hM
        have HKW : Hid (Kp (fun b => (own b).c = c) w wr) := (HK1.out.own_of (fun _ h => h.elim)).trans hM.kp (fun b hb e => by rw [outer_old hb] at e; exact e)
        have HOLD : Hid (∀ b, b < w.heap.size → own2 b = own b) := fun b hb => by
          rw [hM.old b (Nat.lt_of_lt_of_le hb HK1.out.size), outer_old hb]
        clear hM
        by_cases hlt : i < l.length
        · have hlt' : (i : Int) < l.length := by omega
          obtain ⟨gr, cr, cur, er, _, _⟩ := ownsRow_some HRS.out.row (by omega)
          injection er with er _ ecu
          subst er
          obtain ⟨r, hri⟩ : ∃ r, l[i]? = some r := ⟨l[i], List.getElem?_eq_getElem hlt⟩
          have hrs := HRS.out.kp HM.out.kp (fun b h1 _ e => outer_new h1 e)
          obtain ⟨c0, c1, c2⟩ := hrs.cell hri
          have hmem := List.mem_of_getElem? hri
          have HRO := hid_of (HFI.out.recs.ok r hmem)
          have HRT := hid_of (hrs.lt r hmem)
          have HRH := hid_of (hrs.hor r hmem)
          have HRW := hid_of (hrs.wr r hmem)
          have HWO : Hid (∀ b, r.u.ownBlock = some b → (own2 b).c ≠ c) := fun b e => by
            have h1 := (HRS.out.wr r hmem).lt b e
            rw [HM.out.old b h1.2]
            exact outer_new h1.1
          obtain ⟨a3, c3, eu⟩ := ownsRow_slice HRW.out
          have HRI := hid_of hri
          have HRK : Hid (r.k < 256) := by
            show _ < _
            rcases HRO.out with ⟨h, _⟩ | ⟨h, _⟩ <;> omega
          have hrk' : (r.k : Int) < 256 := by have := HRK.out; omega
          have hrt' : (r.t : Int) < 4294967296 := by have := HRT.out; omega
          rw [eu] at c2
          obtain ⟨mo, ph, mv, mm, pt, mw, sl, hx2⟩ := HM.out.x
          have kB := Kp.alloc (fun _ => False) wr (.cells #[.int .u8 r.k, .int .i64 r.t, .slice a3 r.ws.length c3] 110)
          have bB := heap_alloc_new wr (.cells #[.int .u8 r.k, .int .i64 r.t, .slice a3 r.ws.length c3] 110)
          have HXB := hid_of (hx2.kept kB)
          have KB := hid_of kB
          have BB := hid_of bB
          have EU := hid_of eu
          clear hrs hmem hx2 kB bB hri hlt ecu eu
          by_cases hm : mayF s2 r.k r.t = true
          · go_wp2_with (first
              | (go_at_call 76; refine x_mayFollow HXB.out HM.out.ok.now r.k r.t HRK.out a3 r.ws.length c3 ?_; intro w3 hk3; rw [hm]; have K3 := hid_of (KB.out.trans hk3 (fun _ _ h => h)); have b3 := (hk3.block _ (block_lt BB.out) (fun e => e)).trans BB.out; have d0 : w3.cell? ⟨wr.heap.size, 0, none⟩ = some (.int .u8 r.k) := cell_of b3 0; have d1 : w3.cell? ⟨wr.heap.size, 1, none⟩ = some (.int .i64 r.t) := cell_of b3 1; have d2 : w3.cell? ⟨wr.heap.size, 2, none⟩ = some (.slice a3 r.ws.length c3) := cell_of b3 2; clear hk3 b3)
              | (go_at_call 46; rw [← EU.out]; refine x_do_rec (xe_kept HM.out.x K3.out) HM.out.ok (HT1.out.kpN HM.out.kp HN1.out |>.kept K3.out) (tabN_of HT1.out HN1.out HM.out.old) r HRO.out HRT.out HRH.out (ownsRow_kp HRW.out K3.out (fun _ _ e => e)) HWO.out hm ?_; intro w4 own4 s4 hk4 ho4 hx4 hd4; have HM4 := hid_of (HM.out.step HRI.out HRO.out hm K3.out hk4 ho4 hx4 hd4); clear hk4 ho4 hx4 hd4)
              | fail)
            go_roundw
            case rel => exact ⟨i + 1, own4, s4, by omega, by go_num, HM4.out⟩
            case measure => simp [intOf]; omega
          · have hm' : mayF s2 r.k r.t = false := by simpa using hm
            clear hm
            go_wp2_with (first
              | (go_at_call 76; refine x_mayFollow HXB.out HM.out.ok.now r.k r.t HRK.out a3 r.ws.length c3 ?_; intro w3 hk3; rw [hm']; have K3 := hid_of (KB.out.trans hk3 (fun _ _ h => h)); clear hk3)
              | fail)
            exact HR.out _ own2 s2 false (HKW.out.trans (K3.out.own_of (fun _ h => h.elim)) (fun _ _ h => h)) HOLD.out (xe_kept HM.out.x K3.out) HM.out.ok HM.out.txs HM.out.bk HM.out.beg (Or.inr ⟨l, rest, HFI.out, Or.inl ⟨i, r, HRI.out, HM.out.done, hm', rfl⟩⟩)
        · have hie : i = l.length := by omega
          subst hie
          have hdone : DoneAll l s s2 := by have := HM.out.done; rw [List.take_length] at this; exact this
          have HFN := hid_of (fun b hb => HR.out wr own2 s2 b HKW.out HOLD.out HM.out.x HM.out.ok HM.out.txs HM.out.bk HM.out.beg (Or.inr ⟨l, rest, HFI.out, Or.inr ⟨hdone, hb⟩⟩))
          clear hdone hi hlt
          by_cases q0 : rest = []
          · have e0 : decide (rest = []) = true := by simpa using q0
            by_cases q4 : l.length = 4
            · have HF1 := hid_of (HFN.out true (by simp [q0, q4]))
              have e4 : ((l.length : Int) == 4) = true := by simp; omega
              rw [e0]
              clear q0 q4
              go_wp2_with fail
              exact HF1.out
            · have HF1 := hid_of (HFN.out false (by simp [q4]))
              have e4 : ((l.length : Int) == 4) = false := by simp; omega
              rw [e0]
              clear q0 q4
              go_wp2_with fail
              exact HF1.out
          · have e0 : decide (rest = []) = false := by simpa using q0
            have HF1 := hid_of (HFN.out false (by simp [q0]))
            rw [e0]
            clear q0
            go_wp2_with fail
            exact HF1.out
    · have q' : ((n : Int) == num) = false := by simp; omega
      have HF1 := hid_of (HR.out w1 own s false (HK1.out.own_of (fun _ h => h.elim)) (fun _ _ => rfl) (by obtain ⟨mo, ph, mv, mm, pt, mw, sl, h⟩ := H.out; exact ⟨mo, ph, mv, mm, pt, mw, sl, h.kept HK1.out⟩) OK.out HNO.out rfl rfl (Or.inl ⟨by rw [HFI.out.num]; simpa using q, rfl, rfl⟩))
      clear q
      go_wp2_with fail
      exact HF1.out

end

end Go.Proofs.YthbdpfccfcceiaaGreatDoor

namespace Go.Proofs.YthbdpfccfcceiaaGreatDoor
open Go.RowKit Go.Maps Go.Lib

/-- append of one row onto a row of rows. -/
theorem wpF_append {ops : Array Oper} {rest : List Oper} {o : Oper} {a : Act} {Q : Exit → Act → World → Prop} (w : World) (hgd : o.guard = none) (s x : Operand)
    (ho : o.op = .call { callee := .builtin .append, args := #[s, x], argTypes := #[37, 37] })
    (base : Nat) (v : Value) (n : Nat) (xs : List Value) (hs : a.eval s = v) (hown : w.ownsRow base 48 1 v n xs) (g : Nat) (u : Value) (hx : a.eval x = .slice (some ⟨g, 0, none⟩) 1 1) (hu : w.cell? ⟨g, 0, none⟩ = some u) (h1 : u.oneCell' = true) (hl : n ≤ 1100000) (hb : base ≤ w.heap.size)
    (h : ∀ v' w', w'.ownsRow base 48 1 v' (n + 1) (xs ++ [u]) → Kp (fun b => v.ownBlock = some b) w w' → (v'.ownBlock = v.ownBlock ∨ v'.ownBlock = some w.heap.size) → wpList Tryz.prog ops Q rest (a.put o.dst v') w') :
    wpList Tryz.prog ops Q (o :: rest) a w := by
  obtain ⟨i0, hi, hz0, hz1, hz2⟩ := info_parts infoRow
  refine wpList_append_own_at _ hgd s x 37 ho base 48 i0 (.slice none 0 0) 1 24 Tryz.underlying37 hi hz0 hz1 hz2 rfl (by decide) v n xs hs hown ⟨g, 0, none⟩ 1 1 [u] hx rfl (fun j y hj => ?_) (by simpa using h1) (by unfold maxLen; omega) (by omega) hb (fun v' w' r1 r2 _ r4 => h v' w' r1 (Kp.of_grown r2 (fun _ e => e)) r4)
  match j, hj with
  | 0, hj => simp at hj; subst hj; rw [addr_add]; exact hu

theorem firstB_length_le : ∀ (fs : List (List UInt8)) (n : Nat), (firstB fs n).length ≤ fs.length
  | [], _ => by simp [firstB]
  | f :: r, n => by
    have := firstB_length_le r (n - f.length)
    unfold firstB
    split <;> simp <;> omega

theorem toNats (bs : List UInt8) : (bs.map fun b => (b.toNat : Int)).map (Value.int .u8) = bs.map b8 := by simp [b8, Function.comp_def]

section
variable {R : Ending → World → Prop}

theorem cloneB (g o cap : Nat) (bs : List UInt8) (w : World) (hl : bs.length ≤ 1000000000) (hc : ∀ j, j < bs.length → w.cell? ⟨g, o + j, none⟩ = some (b8 (bs.getD j 0)))
    (hR : ∀ v' w', BR w.heap.size w' v' bs → Kp (fun _ => False) w w' → R (.returned v') w') :
    Calls Tryz.prog 130 #[.slice (some ⟨g, o, none⟩) bs.length cap] w R := by
  refine (Tryz.bytes_Clone_at ⟨g, o, none⟩ bs.length cap (bs.map fun b => (b.toNat : Int)) w (by simp) (by omega) (fun i hi => ?_)).mono ?_
  · rw [addr_add, hc i hi]
    simp [b8, List.getD, List.getElem?_eq_getElem hi]
  · rintro e w' ⟨v', rfl, h1, _, h3⟩
    refine hR v' w' ?_ (Kp.of_below h3 _)
    rw [toNats] at h1
    exact h1

/-- How the memory lies while the first bytes are copied. -/
structure MidF (w : World) (fs : List (List UInt8)) (n k : Nat) (wr : World) (v5 : Value) (lv' : List Value) : Prop where
  kp : Kp (fun _ => False) w wr
  fr : FR w.heap.size wr v5 (firstB (fs.take k) n) lv'

set_option maxRecDepth 20000 in
set_option maxHeartbeats 2000000 in
theorem first_any (p o : Nat) (fv : Value) (fs : List (List UInt8)) (lv : List Value) (n : Nat) (w : World) (c0 : w.cell? ⟨p, o, none⟩ = some fv) (hJ : JR w fv fs lv) (hne : ∀ f ∈ fs, f ≠ []) (hl : bytesOf fs ≤ 1000000000) (hfl : fs.length ≤ 1100000) (hn : n ≤ 1000000000)
    (hR : ∀ v' lv' w', FR w.heap.size w' v' (firstB fs n) lv' → Kp (fun _ => False) w w' → R (.returned v') w') :
    Calls Tryz.prog 77 #[.pointer (some ⟨p, o, none⟩), .int .i64 n] w R := by
  obtain ⟨hrow, hat⟩ := hJ
  have HAT := hid_of hat
  have HROW := hid_of hrow
  have HR := hid_of hR
  have HL := hid_of hl
  have HNE := hid_of hne
  have hfl' : (fs.length : Int) ≤ 1100000 := by omega
  have hn' : (n : Int) ≤ 1000000000 := by omega
  have hlen : lv.length = fs.length := by simpa using hrow.1
  have HLEN := hid_of hlen
  have HFL := hid_of hfl
  by_cases h0 : fs.length = 0
  · have e0 : fs = [] := List.eq_nil_of_length_eq_zero h0
    subst e0
    obtain ⟨pf, cap, rfl⟩ := ownsRow_slice hrow
    clear hrow hat hR hl h0 hlen hfl hfl' hne
    go_enter Tryz.func77, Tryz.ntmps77
    go_wp2_with fail
    go_loop [5, 14] (fun v5 v14 => v5 = .slice none 0 0 ∧ v14 = .int .i64 0) (fun _ _ => 0)
    case atStart => exact ⟨rfl, rfl⟩
    case round =>
      obtain ⟨rfl, rfl⟩ := hrel
      go_wp2_with fail
      exact HR.out _ [] _ (FR.nil _ _) (Kp.refl _ _)
  · obtain ⟨g, cap, cur, rfl, _, _⟩ := ownsRow_some hrow (by omega)
    clear hrow hat hR hl h0 hlen hne hfl
    go_enter Tryz.func77, Tryz.ntmps77
    go_wp2_with fail
    go_loopw [1, 5, 14] (fun v1 v5 v14 wr => ∃ (k : Nat) (lv' : List Value), k ≤ fs.length ∧ v14 = .int .i64 k ∧ v1 = .int .i64 (n - bytesOf (fs.take k) : Nat) ∧ MidF w fs n k wr v5 lv') (fun _ _ v14 _ => fs.length - (intOf v14).toNat)
    case atStart => exact ⟨0, [], Nat.zero_le _, rfl, by simp [bytesOf], Kp.refl _ _, FR.nil _ _⟩
    case round =>
      obtain ⟨k, lv', hk, rfl, rfl, hM⟩ := hrel
      by_cases hlt : k < fs.length
      · obtain ⟨f, hf⟩ : ∃ f, fs[k]? = some f := ⟨fs[k], List.getElem?_eq_getElem hlt⟩
        obtain ⟨u, hu⟩ : ∃ u, lv[k]? = some u := ⟨lv[k]'(by rw [HLEN.out]; exact hlt), List.getElem?_eq_getElem (by rw [HLEN.out]; exact hlt)⟩
        have hcw := ownsRow_cell HROW.out k u hu
        have hc : wr.cell? ⟨g, k, none⟩ = some u := (hM.kp.cell (World.block_lt_of_cell? _ _ hcw) (fun e => e)).trans hcw
        have hfne := HNE.out f (List.mem_of_getElem? hf)
        have hbr := (HAT.out k u f hu hf)
        obtain ⟨gu, capu, rfl⟩ := hbr.form hfne
        obtain ⟨pu, capu2, eu, hrd⟩ := (hbr.kept hM.kp).rd
        obtain ⟨gu2, ou, epu, hcc⟩ := hrd hfne
        have hfcap : f.length ≤ capu := by
          rcases hbr.2 with ⟨e, _⟩ | ⟨_, c2, _, e, _, _, h2, _⟩
          · cases e
          · injection e with _ _ e3; omega
        rw [epu] at eu
        injection eu with eu1 eu2 eu3
        injection eu1 with eu1
        injection eu1 with e1 e2 e3
        subst e1; subst e2; subst eu3
        clear eu2 epu e3
        have HCC := hid_of hcc
        have HM := hid_of hM
        have HF := hid_of hf
        have hfl2 : f.length ≤ 1000000000 := by have := length_le_bytesOf (List.mem_of_getElem? hf); have := HL.out; omega
        have hfl3 : (f.length : Int) ≤ 1000000000 := by omega
        have hkl : (k : Int) < fs.length := by omega
        clear hcw hbr hM hu hf hrd hcc
        by_cases hz : n - bytesOf (fs.take k) = 0
        · have HZ := hid_of hz
          rw [hz]
          go_wp2_with fail
          refine HR.out _ lv' _ ?_ HM.out.kp
          rw [firstB_done fs n k (by have := HZ.out; omega)]
          exact HM.out.fr
        · have HZ := hid_of hz
          have HE : Hid (∃ q, n - bytesOf (fs.take k) = q + 1) := ⟨n - bytesOf (fs.take k) - 1, by show _ = _; omega⟩
          obtain ⟨q, hq⟩ := HE.out
          have HQ := hid_of hq
          rw [hq]
          have hq0 : (((q + 1 : Nat) : Int) == 0) = false := by simp; omega
          have hqn : ((q : Int) + 1) ≤ 1000000000 := by omega
          have HMIN : Hid (∃ m : Nat, m = min (q + 1) f.length) := ⟨_, rfl⟩
          obtain ⟨m, hm⟩ := HMIN.out
          have hmin : min ((q : Int) + 1) (f.length : Int) = (m : Int) := by omega
          have HMM := hid_of hm
          have hm1 : (m : Int) ≤ f.length := by omega
          have hm2 : (m : Int) ≤ (q : Int) + 1 := by omega
          have hm0 : (0 : Int) ≤ m := by omega
          have hmc : (m : Int) ≤ capu := by omega
          have HTAKE : Hid ((f.take m).length = m) := by show _ = _; rw [List.length_take]; omega
          have HCT : Hid (∀ j, j < (f.take m).length → wr.cell? ⟨gu, 0 + j, none⟩ = some (b8 ((f.take m).getD j 0))) := fun j hj => by
            have hj' : j < m := by rw [HTAKE.out] at hj; exact hj
            rw [HCC.out j (by omega)]
            simp [List.getD, hj']
          clear hz hq hm
          have HM1 := hid_of hm1
          have HM2 := hid_of hm2
          have HFN := hid_of hfne
          clear hm1 hm2 hqn hm0 hfne
          go_wp2_with (first
            | (go_at_call 130; have HC0 := cloneB (R := fun e w1 => ∃ v1, e = .returned v1 ∧ BR wr.heap.size w1 v1 (f.take m) ∧ Kp (fun _ => False) wr w1) gu 0 capu (f.take m) wr (by have := HTAKE.out; omega) HCT.out (fun v1 w1 h1 h2 => ⟨v1, rfl, h1, h2⟩); rw [HTAKE.out] at HC0; refine HC0.mono ?_; rintro e w1 ⟨v1, rfl, hv1, hk1⟩; have HV1 := hid_of hv1; have HK1 := hid_of hk1; obtain ⟨g1, cap1, rfl⟩ := hv1.form (by intro e; have h1 := HTAKE.out; rw [e] at h1; have h2 := HMM.out; have h3 := List.length_pos_iff.2 HFN.out; simp at h1; omega); rw [HTAKE.out]; clear hv1 hk1 HC0)
            | (at_builtin; refine wpF_append _ rfl _ _ rfl w.heap.size u5 _ lv' rfl (HM.out.fr.kept (HK1.out.trans (Kp.alloc _ _ _) (fun _ _ h => h))).row w1.heap.size (.slice (some ⟨g1, 0, none⟩) m cap1) rfl (cell_of (heap_alloc_new w1 _) 0) rfl (by have := firstB_length_le (fs.take k) n; have := List.length_take_le k fs; have := HFL.out; omega) (by have := HM.out.kp.size; have := HK1.out.size; simp; omega) ?_; intro v2 w2 hr2 hk2 hl2; have HR2 := hid_of hr2; have HK2 := hid_of hk2; clear hr2 hk2 hl2)
            | go_in)
          have hB := bytesOf_take fs k f HF.out
          have hQ := HQ.out
          have hMm := HMM.out
          have h5 := HM2.out
          have hw : wrap64 ((q : Int) + 1 - m) = (q : Int) + 1 - m := by unfold wrap64; omega
          refine ⟨⟨k + 1, lv' ++ [.slice (some ⟨g1, 0, none⟩) m cap1], by omega, by go_num, ?_, ?_, ?_⟩, by simp [intOf]; omega⟩
          · rw [hw, show ((q : Int) + 1 - m) = ((n - bytesOf (fs.take (k + 1)) : Nat) : Int) by omega]
          · exact ((HM.out.kp.trans HK1.out (fun _ _ h => h)).trans (Kp.alloc _ _ _) (fun _ _ h => h)).trans HK2.out (fun b hb e => by have := (HM.out.fr.row.lt b e).1; omega)
          · have hstep := firstB_step fs n k f HF.out (by omega)
            rw [hstep]
            have htk : f.take (n - bytesOf (fs.take k)) = f.take m := by rw [hQ, hMm]; exact List.take_eq_take_min
            rw [htk]
            have hb1 : BR wr.heap.size (w1.alloc (.cells #[.slice (some ⟨g1, 0, none⟩) m cap1] 48)) (.slice (some ⟨g1, 0, none⟩) m cap1) (f.take m) := by
              have h := HV1.out
              rw [HTAKE.out] at h
              exact h.kept (Kp.alloc _ _ _)
            exact FR.snoc (w := wr) (HM.out.fr.kept (HK1.out.trans (Kp.alloc _ _ _) (fun _ _ h => h))) hb1 (fun b e => (HM.out.fr.row.lt b e).2) (fun i x hx b e => ((HM.out.fr.at_ i x _ hx (List.getElem?_eq_getElem (by rw [← HM.out.fr.len]; exact (List.getElem?_eq_some_iff.1 hx).1))).lt b e).2) HM.out.kp.size HR2.out HK2.out
      · have hk' : k = fs.length := by omega
        subst hk'
        go_wp2_with fail
        refine HR.out _ lv' _ ?_ hM.kp
        have := hM.fr
        rw [List.take_length] at this
        exact this

end

end Go.Proofs.YthbdpfccfcceiaaGreatDoor
