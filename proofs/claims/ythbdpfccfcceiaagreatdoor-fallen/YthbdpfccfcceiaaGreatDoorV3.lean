/-
  Retain, told of the store's plain state: who pins.
-/
import Derived.Test.YthbdpfccfcceiaaGreatDoorF27V1E3
import Derived.Test.YthbdpfccfcceiaaGreatDoorC2J2
namespace Go.Proofs.YthbdpfccfcceiaaGreatDoor
open Go.RowKit Go.Maps

/-- A transaction that is not over sees less than a moment, or a backup that is not done needs one. -/
def pinX (s : XS) (t : Int) : Prop := (∃ n x, s.txs n = some x ∧ x.sees < t) ∨ ∃ n b, s.bk.un n = some b ∧ b.needs < t

theorem encO_inv {txs : Int → Option XT} {pt : Int → Nat} {key v : Value} (h : encI (fun n => (txs n).map fun _ => Value.pointer (some ⟨pt n, 0, none⟩)) key = some v) :
    ∃ (n : Int) (q : Nat), key = (fun n : Int => Value.int .i64 n) n ∧ v = (fun q : Nat => Value.pointer (some ⟨q, 0, none⟩)) q := by
  unfold encI at h
  split at h
  · rename_i n
    dsimp only at h
    cases e : txs n with
    | none => rw [e] at h; cases h
    | some x => rw [e] at h; cases h; exact ⟨n, pt n, rfl, rfl⟩
  · cases h

theorem encU_inv {un : Int → Option XB} {key v : Value} (h : encI (fun n => (un n).map fun b => Value.pointer (some ⟨b.pb, 0, none⟩)) key = some v) :
    ∃ (n : Int) (q : Nat), key = (fun n : Int => Value.int .i64 n) n ∧ v = (fun q : Nat => Value.pointer (some ⟨q, 0, none⟩)) q := by
  unfold encI at h
  split at h
  · rename_i n
    dsimp only at h
    cases e : un n with
    | none => rw [e] at h; cases h
    | some x => rw [e] at h; cases h; exact ⟨n, x.pb, rfl, rfl⟩
  · cases h

section
variable {own own' : Nat → Lab} {c : Nat} {w w' : World} {p : Nat} {s : XS} {mo ph mv mm : Nat} {pt mw : Int → Nat} {sl : ByteArray → Value}
variable {R : Ending → World → Prop}

set_option maxRecDepth 20000 in
set_option maxHeartbeats 1000000 in
theorem x_pinned (h : XR own c w p s mo ph mv mm pt mw sl) (t : Int)
    (h0 : ¬ pinX s t → ∀ w', Kp (fun _ => False) w w' → R (.returned (.bool false)) w')
    (h1 : pinX s t → ∀ w', Kp (fun _ => False) w w' → R (.returned (.bool true)) w') :
    Calls Tryz.prog 45 #[.pointer (some ⟨p, 0, none⟩), .int .i64 t] w R := by
  have c2 : w.cell? ⟨p, 7, none⟩ = some (.map (some mo)) := cell_of h.store 7
  have hw := h.opn
  have H := hid_of h
  have H0 := hid_of h0
  have H1 := hid_of h1
  clear h0 h1 h
  go_enter Tryz.func45, Tryz.ntmps45
  go_wp2_with (first
    | (at_range; refine wpL_range _ rfl _ 99 rfl 3 129 kInt Tryz.underlying99 mo s.nopen _ rfl hw ?_; intro w0 hrg0 hg0 hs0)
    | go_in)
  go_frame
  go_loopw [6] (fun _ wr => ∃ (left : Value → Bool) (cnt : Nat), frng wr Tryz.prog 3 mo w.heap.size s.nopen (encI fun n => (s.txs n).map fun _ => Value.pointer (some ⟨pt n, 0, none⟩)) left cnt ∧ Kp (fun _ => False) w wr ∧ ∀ n x, s.txs n = some x → left (.int .i64 n) = false → t ≤ x.sees)
    (fun _ wr => wr.rangeLeft mo w.heap.size)
  case atStart => exact ⟨_, _, hrg0, Kp.of_grown hg0 (fun _ h => by cases h), fun n x hx hl => by rw [encI_at, hx] at hl; cases hl⟩
  case round =>
    obtain ⟨left, cnt, hrg, hkp, hdone⟩ := hrel
    have HD := hid_of hdone
    clear hdone
    go_wp2_with (first
      | (at_next; refine wpL_next _ rfl _ rfl 3 kInt (fun n : Int => Value.int .i64 n) (fun q : Nat => Value.pointer (some ⟨q, 0, none⟩)) mo w.heap.size s.nopen _ left cnt (fun key v hv => ?inv) rfl hrg ?_ ?_)
      | go_in)
    case inv =>
      first | exact encO_inv hv | (obtain ⟨n, q, e1, e2⟩ := encO_inv hv; exact ⟨⟨n, e1⟩, ⟨q, e2⟩⟩)
    · intro _ hl0
      obtain ⟨wo, rfl⟩ : ∃ wo, wo = wr := ⟨wr, rfl⟩
      have HT0 : Hid (∀ n x, s.txs n = some x → t ≤ x.sees) := fun n x hx => HD.out n x hx (hl0 _)
      have HKP := hid_of hkp
      have hx1 := H.out.kept hkp
      have d5 : wo.cell? ⟨p, 9, none⟩ = some (.map (some s.bk.mu)) := cell_of hx1.store 9
      have hu := hx1.bks.und
      have HX1 := hid_of hx1
      clear hl0 HD hx1 hrg
      go_wp2_with (first
        | (at_range; refine wpL_range _ rfl _ 100 rfl 3 148 kInt Tryz.underlying100 s.bk.mu s.bk.nb _ rfl hu ?_; intro w5 hrg5 hg5 hs5)
        | go_in)
      go_frame
      go_loopw [8] (fun _ wq => ∃ (left : Value → Bool) (cnt : Nat), frng wq Tryz.prog 3 s.bk.mu wo.heap.size s.bk.nb (encI fun n => (s.bk.un n).map fun b => Value.pointer (some ⟨b.pb, 0, none⟩)) left cnt ∧ Kp (fun _ => False) wo wq ∧ ∀ n b, s.bk.un n = some b → left (.int .i64 n) = false → t ≤ b.needs)
        (fun _ wq => wq.rangeLeft s.bk.mu wo.heap.size)
      case atStart => exact ⟨_, _, hrg5, Kp.of_grown hg5 (fun _ h => by cases h), fun n x hx hl => by rw [encI_at, hx] at hl; cases hl⟩
      case round =>
        obtain ⟨left, cnt, hrg, hkp5, hdone⟩ := hrel
        have HD := hid_of hdone
        clear hdone
        go_wp2_with (first
          | (at_next; refine wpL_next _ rfl _ rfl 3 kInt (fun n : Int => Value.int .i64 n) (fun q : Nat => Value.pointer (some ⟨q, 0, none⟩)) s.bk.mu wo.heap.size s.bk.nb _ left cnt (fun key v hv => ?inv) rfl hrg ?_ ?_)
          | go_in)
        case inv =>
          first | exact encU_inv hv | (obtain ⟨n, q, e1, e2⟩ := encU_inv hv; exact ⟨⟨n, e1⟩, ⟨q, e2⟩⟩)
        · intro _ hl0
          have HL0 := hid_of hl0
          clear hl0
          go_wp2
          refine H0.out (fun hp => ?_) _ (HKP.out.trans hkp5 (fun _ _ h => h))
          rcases hp with ⟨n, x, hx, hlt⟩ | ⟨n, b, hb, hlt⟩
          · have := HT0.out n x hx; omega
          · have := HD.out n b hb (HL0.out _); omega
        · intro n q w1 cnt1 hlk hfk left' hrg1 hl1 hl2 hlt hg1 hs1 hen
          obtain ⟨x, hx, hq⟩ : ∃ x, s.bk.un n = some x ∧ q = x.pb := by
            rw [encI_at] at hfk
            cases e : s.bk.un n with
            | none => rw [e] at hfk; cases hfk
            | some x => rw [e] at hfk; simp at hfk; exact ⟨x, rfl, hfk.symm⟩
          subst hq
          have hkp1 : Kp (fun _ => False) wo w1 := hkp5.trans (Kp.of_grown (S := fun b => b = wo.heap.size) hg1 (fun b hb => by cases hb; rfl)) (fun b hb e => by omega)
          have d1 : w1.cell? ⟨x.pb, 0, none⟩ = some (.int .i64 x.needs) := cell_of ((HX1.out.kept hkp1).bks.blk n x hx) 0
          clear hfk hlk
          by_cases hch : x.needs < t
          · have hd : decide (x.needs < t) = true := by simpa using hch
            have HC := hid_of hch
            clear hch
            go_wp2
            exact H1.out (Or.inr ⟨n, x, hx, HC.out⟩) _ (HKP.out.trans hkp1 (fun _ _ h => h))
          · have hd : decide (x.needs < t) = false := by simpa using hch
            have HC := hid_of hch
            clear hch
            go_wp2
            go_roundw
            case rel =>
              refine ⟨left', cnt1, hrg1, hkp1, fun n' x' hx' hl' => ?_⟩
              by_cases en : n' = n
              · subst en; rw [hx] at hx'; cases hx'; have := HC.out; omega
              · exact HD.out n' x' hx' (by rw [← hl2 _ (fun e => en (by injection e))]; exact hl')
            case measure => rw [hrg1.left_eq, hrg.left_eq]; exact hlt
    · intro n q w1 cnt1 hlk hfk left' hrg1 hl1 hl2 hlt hg1 hs1 hen
      obtain ⟨x, hx, hq⟩ : ∃ x, s.txs n = some x ∧ q = pt n := by
        rw [encI_at] at hfk
        cases e : s.txs n with
        | none => rw [e] at hfk; cases hfk
        | some x => rw [e] at hfk; simp at hfk; exact ⟨x, rfl, hfk.symm⟩
      subst hq
      have hkp1 : Kp (fun _ => False) w w1 := hkp.trans (Kp.of_grown (S := fun b => b = w.heap.size) hg1 (fun b hb => by cases hb; rfl)) (fun b hb e => by omega)
      have d1 : w1.cell? ⟨pt n, 0, none⟩ = some (.int .i64 x.sees) := cell_of ((H.out.kept hkp1).tx n x hx) 0
      clear hfk hlk
      by_cases hch : x.sees < t
      · have hd : decide (x.sees < t) = true := by simpa using hch
        have HC := hid_of hch
        clear hch
        go_wp2
        exact H1.out (Or.inl ⟨n, x, hx, HC.out⟩) _ hkp1
      · have hd : decide (x.sees < t) = false := by simpa using hch
        have HC := hid_of hch
        clear hch
        go_wp2
        go_roundw
        case rel =>
          refine ⟨left', cnt1, hrg1, hkp1, fun n' x' hx' hl' => ?_⟩
          by_cases en : n' = n
          · subst en; rw [hx] at hx'; cases hx'; have := HC.out; omega
          · exact HD.out n' x' hx' (by rw [← hl2 _ (fun e => en (by injection e))]; exact hl')
        case measure => rw [hrg1.left_eq, hrg.left_eq]; exact hlt

theorem x_do_hint (h : XR own c w p s mo ph mv mm pt mw sl) (hT : Tab w) (hN : TabN own c) (t : Int) (ht : 0 ≤ t ∧ t ≤ 100000) (hl : s.log.lg.length ≤ 4999) (hbs : ∀ b ∈ s.log.lg, b.length ≤ 400)
    (hR : ∀ w' own' l', Kp (fun b => (own b).c = c) w w' → (∀ b, b < w.heap.size → own' b = own b) → l'.lg = s.log.lg ++ [bodyH t.toNat] → l'.sy = s.log.sy →
      XR own' c w' p { s with hor := t, log := l' } mo ph mv mm pt mw sl → R (.returned (.tuple #[])) w') :
    Calls Tryz.prog 46 #[.pointer (some ⟨p, 0, none⟩), .agg #[.int .u8 72, .int .i64 t, .slice none 0 0]] w R := by
  have e : (t.toNat : Int) = t := by omega
  have := x_do_hor (R := R) h hT hN t.toNat (by omega) hl hbs (fun w' own' l' h1 h2 h3 h4 h5 => hR w' own' l' h1 h2 h3 h4 (by rw [e] at h5; exact h5))
  rw [e] at this
  exact this

set_option maxRecDepth 20000 in
set_option maxHeartbeats 1000000 in
theorem x_retain (h : XR own c w p s mo ph mv mm pt mw sl) (hT : Tab w) (hN : TabN own c) (t : Int) (hnow : 0 ≤ s.hor ∧ s.now ≤ 2000) (hl : s.log.lg.length ≤ 4999) (hbs : ∀ b ∈ s.log.lg, b.length ≤ 400)
    (h1 : t < s.hor ∨ s.now < t → R (.returned (.int .i64 1)) w)
    (h2 : ¬ t < s.hor → ¬ s.now < t → pinX s t → ∀ w', Kp (fun _ => False) w w' → R (.returned (.int .i64 8)) w')
    (h3 : ¬ t < s.hor → ¬ s.now < t → ¬ pinX s t → ∀ w' own' l', Kp (fun b => (own b).c = c) w w' → (∀ b, b < w.heap.size → own' b = own b) → (l'.lg = if s.hor < t then s.log.lg ++ [bodyH t.toNat] else s.log.lg) → l'.sy = s.log.sy → XR own' c w' p { s with hor := t, log := l' } mo ph mv mm pt mw sl → R (.returned (.int .i64 0)) w') :
    Calls Tryz.prog 21 #[.pointer (some ⟨p, 0, none⟩), .int .i64 t] w R := by
  have H := hid_of h
  clear h
  by_cases q1 : t < s.hor
  · have HR := hid_of (h1 (Or.inl q1))
    have Q1 := hid_of q1
    clear h1 h2 h3 q1
    go_enter Tryz.func21, Tryz.ntmps21
    go_wp2_with (first
      | (go_at_call 44; refine x_covers H.out t (fun _ => ?_) (fun q _ => by have := Q1.out; omega) (fun q _ => by have := Q1.out; omega))
      | go_in)
    exact HR.out
  · by_cases q2 : s.now < t
    · have HR := hid_of (h1 (Or.inr q2))
      have Q1 := hid_of q1
      have Q2 := hid_of q2
      clear h1 h2 h3 q1 q2
      go_enter Tryz.func21, Tryz.ntmps21
      go_wp2_with (first
        | (go_at_call 44; refine x_covers H.out t (fun q => by have := Q1.out; omega) (fun _ _ => ?_) (fun _ q => by have := Q2.out; omega))
        | go_in)
      exact HR.out
    · have Q1 := hid_of q1
      have Q2 := hid_of q2
      by_cases q3 : pinX s t
      · have HR := hid_of (h2 q1 q2 q3)
        have Q3 := hid_of q3
        clear h1 h2 h3 q1 q2 q3
        go_enter Tryz.func21, Tryz.ntmps21
        go_wp2_with (first
          | (go_at_call 44; refine x_covers H.out t (fun q => by have := Q1.out; omega) (fun _ q => by have := Q2.out; omega) (fun _ _ => ?_))
          | (go_at_call 45; refine x_pinned H.out t (fun q => absurd Q3.out q) (fun _ w1 hk1 => ?_); have HK1 := hid_of hk1; clear hk1)
          | go_in)
        exact HR.out w1 HK1.out
      · have HR := hid_of (h3 q1 q2 q3)
        have Q3 := hid_of q3
        have HT := hid_of hT
        have HN := hid_of hN
        have HNOW := hid_of hnow
        have HL := hid_of hl
        have HBS := hid_of hbs
        by_cases q4 : s.hor < t
        · have Q4 := hid_of q4
          have hq4 : s.hor < t := q4
          clear h1 h2 h3 q1 q2 q3 hT hN hnow hl hbs q4
          go_enter Tryz.func21, Tryz.ntmps21
          go_wp2_with (first
            | (go_at_call 44; refine x_covers H.out t (fun q => by have := Q1.out; omega) (fun _ q => by have := Q2.out; omega) (fun _ _ => ?_))
            | (go_at_call 45; refine x_pinned H.out t (fun _ w1 hk1 => ?_) (fun q => absurd q Q3.out); have HK1 := hid_of hk1; have c1 : w1.cell? ⟨p, 1, none⟩ = some (.int .i64 s.hor) := cell_of (H.out.kept hk1).store 1; clear hk1)
            | (go_at_call 46; refine x_do_hint (H.out.kept HK1.out) (HT.out.kept HK1.out) HN.out t (by have := HNOW.out; have := Q1.out; have := Q2.out; omega) HL.out HBS.out ?_; intro w2 own2 l2 hk2 ho2 hl2 hs2 hx2; have HK2 := hid_of hk2; have HO2 := hid_of ho2; have HL2 := hid_of hl2; have HS2 := hid_of hs2; have HX2 := hid_of hx2; clear hk2 ho2 hl2 hs2 hx2)
            | go_in)
          exact HR.out w2 own2 l2 ((HK1.out.own_of (fun _ h => h.elim)).trans HK2.out (fun _ _ h => h)) (fun b hb => HO2.out b (Nat.lt_of_lt_of_le hb HK1.out.size)) (by rw [if_pos Q4.out]; exact HL2.out) HS2.out HX2.out
        · have Q4 := hid_of q4
          have hq4 : ¬ s.hor < t := q4
          clear h1 h2 h3 q1 q2 q3 hT hN hnow hl hbs q4
          go_enter Tryz.func21, Tryz.ntmps21
          go_wp2_with (first
            | (go_at_call 44; refine x_covers H.out t (fun q => by have := Q1.out; omega) (fun _ q => by have := Q2.out; omega) (fun _ _ => ?_))
            | (go_at_call 45; refine x_pinned H.out t (fun _ w1 hk1 => ?_) (fun q => absurd q Q3.out); have HK1 := hid_of hk1; have c1 : w1.cell? ⟨p, 1, none⟩ = some (.int .i64 s.hor) := cell_of (H.out.kept hk1).store 1; clear hk1)
            | go_in)
          have e : t = s.hor := by have := Q1.out; have := Q4.out; omega
          refine HR.out w1 own s.log (HK1.out.own_of (fun _ h => h.elim)) (fun _ _ => rfl) (by rw [if_neg (by have := Q4.out; omega)]) rfl ?_
          rw [e]
          exact H.out.kept HK1.out

end

end Go.Proofs.YthbdpfccfcceiaaGreatDoor
