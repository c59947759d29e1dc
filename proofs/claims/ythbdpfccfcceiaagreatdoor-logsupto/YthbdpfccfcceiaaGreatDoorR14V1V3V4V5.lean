/-
  The document's answer: Ask and Range: a list of versions at a moment of a span.
  What may be asked by moments: covers, AsOf, Retain's answers, Stored, told of the store's plain state.
  Retain, told of the store's plain state: who pins.
  How many of a key's versions may go: (*History).spent, told of the store's plain state.
  The keys of which a version may go: (*History).spentKeys, told of the store's plain state.
-/
import Derived.Test.YthbdpfccfcceiaaGreatDoorR11R12
import Derived.Test.YthbdpfccfcceiaaGreatDoorC2L1L2Q1Q2
import Derived.Test.YthbdpfccfcceiaaGreatDoorT0T1C3J2J3N1
import Derived.Test.YthbdpfccfcceiaaGreatDoorQ3Q4Q5
namespace Go.Proofs.YthbdpfccfcceiaaGreatDoor
open Go.RowKit

section
variable {w : World}
variable {R : Ending → World → Prop}

set_option maxRecDepth 20000 in
set_option maxHeartbeats 1000000 in
theorem ask_any {base e : Nat} (l : List YV) (v : Value) (lo hi t : Int) (key : ByteArray) (hl : l.length < 1000000) (hkl : key.size ≤ maxLen) (hrow : w.ownsRow base e 4 v l.length (cellsV l))
    (h1 : isKey key = false → R (.returned (.tuple #[.string eb, .int .i64 1])) w)
    (h2 : isKey key = true → t < lo → R (.returned (.tuple #[.string eb, .int .i64 6])) w)
    (h3 : isKey key = true → ¬ t < lo → hi < t → R (.returned (.tuple #[.string eb, .int .i64 7])) w)
    (h4 : isKey key = true → ¬ t < lo → ¬ hi < t → ∀ r w', AtIs l t key r → r.2 = false → Kp (fun _ => False) w w' → R (.returned (.tuple #[.string eb, .int .i64 5])) w')
    (h5 : isKey key = true → ¬ t < lo → ¬ hi < t → ∀ r w', AtIs l t key r → r.2 = true → Kp (fun _ => False) w w' → R (.returned (.tuple #[.string r.1, .int .i64 0])) w') :
    Calls Tryz.prog 97 #[v, .int .i64 lo, .int .i64 hi, .int .i64 t, .string key] w R := by
  have HK : Hid (key.size ≤ maxLen) := hkl
  have HL : Hid (l.length < 1000000) := hl
  have HW : Hid (w.ownsRow base e 4 v l.length (cellsV l)) := hrow
  obtain ⟨av, cap, rfl, _⟩ := row_len hrow
  cases hb : isKey key with
  | false =>
    have HR := h1 hb
    clear h1 h2 h3 h4 h5 hkl hl hrow
    go_enter Tryz.func97, Tryz.ntmps97
    go_wp2_with (first
      | (go_at_call 151; refine (refKey_any _ _ HK.out).mono ?_; rintro e w' ⟨rfl, rfl⟩)
      | go_in)
    exact HR
  | true =>
    by_cases ht : t < lo
    · have HR := h2 hb ht
      clear h1 h2 h3 h4 h5 hkl hl hrow
      go_enter Tryz.func97, Tryz.ntmps97
      go_wp2_with (first
        | (go_at_call 151; refine (refKey_any _ _ HK.out).mono ?_; rintro e w' ⟨rfl, rfl⟩)
        | go_in)
      exact HR
    · by_cases hh : hi < t
      · have HR := h3 hb ht hh
        clear h1 h2 h3 h4 h5 hkl hl hrow
        go_enter Tryz.func97, Tryz.ntmps97
        go_wp2_with (first
          | (go_at_call 151; refine (refKey_any _ _ HK.out).mono ?_; rintro e w' ⟨rfl, rfl⟩)
          | go_in)
        exact HR
      · have HR4 : Hid (∀ r w', AtIs l t key r → r.2 = false → Kp (fun _ => False) w w' → R (.returned (.tuple #[.string eb, .int .i64 5])) w') := h4 hb ht hh
        have HR5 : Hid (∀ r w', AtIs l t key r → r.2 = true → Kp (fun _ => False) w w' → R (.returned (.tuple #[.string r.1, .int .i64 0])) w') := h5 hb ht hh
        clear h1 h2 h3 h4 h5 hkl hl hrow
        go_enter Tryz.func97, Tryz.ntmps97
        go_wp2_with (first
          | (go_at_call 151; refine (refKey_any _ _ HK.out).mono ?_; rintro e w' ⟨rfl, rfl⟩)
          | (go_at_call 152; refine at_any l _ t key _ HL.out HW.out (fun r w1 hr hk1 => ?_); obtain ⟨r1, r2⟩ := r; have HSE : Hid _ := hr; clear hr; cases r2)
          | go_in)
        · exact HR4.out _ w1 HSE.out rfl hk1
        · exact HR5.out _ w1 HSE.out rfl hk1

/-- What a function of the keys must be to tell what a list has at a moment. -/
def ToldBy (l : List YV) (t : Int) (g : ByteArray → ByteArray × Bool) : Prop := ∀ k r, AtIs l t k r → r.2 = (g k).2 ∧ (r.2 = true → r.1 = (g k).1)

set_option maxRecDepth 20000 in
set_option maxHeartbeats 4000000 in
theorem range_any {base e : Nat} (l : List YV) (v : Value) (lo hi t : Int) (f u : ByteArray) (g : ByteArray → ByteArray × Bool) (hg : ToldBy l t g) (hl : l.length < 1000000) (hrow : w.ownsRow base e 4 v l.length (cellsV l))
    (h1 : t < lo → R (.returned (.tuple #[.slice none 0 0, .int .i64 6])) w)
    (h2 : ¬ t < lo → hi < t → R (.returned (.tuple #[.slice none 0 0, .int .i64 7])) w)
    (h3 : ¬ t < lo → ¬ hi < t → ∀ w' v' (ks : List ByteArray), Kp (fun _ => False) w w' → ks.Pairwise blt → (∀ k, k ∈ ks ↔ (∃ y ∈ l, y.key = k) ∧ inR f u k = true) → ks.length ≤ l.length →
      w'.ownsRow w.heap.size 105 2 v' (ks.filterMap (pairOf g)).length (cells2 (ks.filterMap (pairOf g))) → R (.returned (.tuple #[v', .int .i64 0])) w') :
    Calls Tryz.prog 99 #[v, .int .i64 lo, .int .i64 hi, .int .i64 t, .string f, .string u] w R := by
  obtain ⟨al, cl, hvl⟩ := vrow_of hrow
  have hval := hvl.val
  subst hval
  by_cases ht : t < lo
  · have HR := h1 ht
    clear h1 h2 h3 hg hl hrow hvl
    go_enter Tryz.func99, Tryz.ntmps99
    go_wp2
    exact HR
  · by_cases hh : hi < t
    · have HR := h2 ht hh
      clear h1 h2 h3 hg hl hrow hvl
      go_enter Tryz.func99, Tryz.ntmps99
      go_wp2
      exact HR
    · have HR : Hid (∀ w' v' (ks : List ByteArray), Kp (fun _ => False) w w' → ks.Pairwise blt → (∀ k, k ∈ ks ↔ (∃ y ∈ l, y.key = k) ∧ inR f u k = true) → ks.length ≤ l.length →
          w'.ownsRow w.heap.size 105 2 v' (ks.filterMap (pairOf g)).length (cells2 (ks.filterMap (pairOf g))) → R (.returned (.tuple #[v', .int .i64 0])) w') := h3 ht hh
      have HG : Hid (ToldBy l t g) := hg
      have HL : Hid (l.length < 1000000) := hl
      have HW : Hid (w.ownsRow base e 4 (.slice al l.length cl) l.length (cellsV l)) := hrow
      have HVL : Hid (VRow w (.slice al l.length cl) l al cl) := hvl
      have HNIL : Hid (VRow w (.slice none 0 0) [] none 0) := ⟨rfl, fun j hj => absurd hj (by simp)⟩
      obtain ⟨i0, hi0, hz0, hz1, hz2⟩ := info_parts infoPair
      have HI : Hid (Tryz.prog.info? 105 = some i0 ∧ i0.zero = some (.agg #[.string ⟨#[]⟩, .string ⟨#[]⟩]) ∧ i0.size = 2 ∧ i0.bytes = 32) := ⟨hi0, hz0, hz1, hz2⟩
      clear h1 h2 h3 hg hl hrow hvl hi0 hz0 hz1 hz2
      go_enter Tryz.func99, Tryz.ntmps99
      go_wp2_with (first
        | (go_at_call 153; refine keys_any l [] (.slice al l.length cl) (.slice none 0 0) al none cl 0 f u w HL.out (by decide) HVL.out HNIL.out ?_; intro w1 v1 ks hk1 hrow hsort hmem hlen; have HK1 : Hid (Kp (fun _ => False) w w1) := hk1; have hrow' : w1.ownsRow w.heap.size 9 1 v1 ks.length (ks.map Value.string) := hrow; obtain ⟨a1, cap1, rfl, hcell⟩ := row_cell hrow'; have HC : Hid _ := hcell; have HSO : Hid (ks.Pairwise blt) := hsort; have HME : Hid _ := hmem; have HLE : Hid _ := hlen; clear hcell hrow hsort hmem hlen hrow' hk1)
        | fail)
      go_loopw [15, 16] (fun v15 v16 wr => ∃ i : Nat, i ≤ ks.length ∧ v16 = .int .i64 i ∧ Kp (fun _ => False) w1 wr ∧ wr.ownsRow w1.heap.size 105 2 v15 ((ks.take i).filterMap (pairOf g)).length (cells2 ((ks.take i).filterMap (pairOf g))))
        (fun _ v16 _ => ks.length - (intOf v16).toNat)
      case atStart => exact ⟨0, Nat.zero_le _, rfl, Kp.refl _ _, World.ownsRow_nil _ _ _ _⟩
      case round =>
        obtain ⟨i, hile, rfl, hkp, hown⟩ := hrel
        by_cases hlt : i < ks.length
        · obtain ⟨gk, rfl, hg1, hg2, hcell⟩ := HC.out (fun h => by rw [h] at hlt; simp at hlt)
          have hck : wr.cell? ⟨gk, i, none⟩ = some (.string ks[i]) := (hkp.cell (a := ⟨gk, i, none⟩) hg2 (fun h => h)).trans (hcell i hlt)
          have htk : ks.take (i + 1) = ks.take i ++ [ks[i]] := List.take_succ_eq_append_getElem hlt
          have HT2 : Hid _ := htk
          have hlt' : (i : Int) < ks.length := by omega
          have hi1 : (i : Int) ≤ 2000000 := by have h1 := HLE.out; have h2 := HL.out; rw [List.length_nil, Nat.add_zero] at h1; omega
          have hlenps : Hid (((ks.take i).filterMap (pairOf g)).length ≤ 2000000) := by
            show _ ≤ _
            have h1 := List.length_filterMap_le (pairOf g) (ks.take i)
            have h2 : (ks.take i).length ≤ i := by simp [List.length_take]; omega
            omega
          have HROW : Hid (wr.ownsRow base e 4 (.slice al l.length cl) l.length (cellsV l)) := ownsRow_kp HW.out (HK1.out.trans hkp (fun _ _ h => h)) (fun _ _ h => h)
          have HKP : Hid (Kp (fun _ => False) w1 wr) := hkp
          generalize hkeq : ks[i] = k at *
          clear htk hkp hcell
          cases hs : (g k).2
          · go_wp2_with (first
              | (go_at_call 152; refine at_any l _ t k wr HL.out HROW.out (fun r w2 hr hk2 => ?_); have HK2 : Hid (Kp (fun _ => False) wr w2) := hk2; have hgk := HG.out k r hr; rw [hs] at hgk; obtain ⟨r1, r2⟩ := r; obtain ⟨hgk1, hgk2⟩ := hgk; clear hk2 hr; dsimp only at hgk1 hgk2; subst hgk1)
              | go_in)
            go_roundw
            case rel =>
              refine ⟨i + 1, by omega, by go_num, HKP.out.trans HK2.out (fun _ _ h => h), ?_⟩
              have hp0 : (ks.take (i + 1)).filterMap (pairOf g) = (ks.take i).filterMap (pairOf g) := by rw [HT2.out, List.filterMap_append]; simp [pairOf, hs]
              rw [hp0]
              exact ownsRow_kp hown HK2.out (fun _ _ h => h)
            case measure => simp [intOf]; omega
          · go_wp2_with (first
              | (go_at_call 152; refine at_any l _ t k wr HL.out HROW.out (fun r w2 hr hk2 => ?_); have HK2 : Hid (Kp (fun _ => False) wr w2) := hk2; have hgk := HG.out k r hr; rw [hs] at hgk; obtain ⟨r1, r2⟩ := r; obtain ⟨hgk1, hgk2⟩ := hgk; have hown2 := ownsRow_kp hown hk2 (fun _ _ h => h); have hck2 := (hk2.cell (a := ⟨gk, i, none⟩) (World.block_lt_of_cell? wr _ hck) (fun h => h)).trans hck; clear hk2 hr; dsimp only at hgk1 hgk2; subst hgk1; have hgk3 := hgk2 rfl; clear hgk2; subst hgk3)
              | (at_builtin; refine wpList_append_own_at _ rfl _ _ 43 rfl w1.heap.size 105 i0 (.agg #[.string ⟨#[]⟩, .string ⟨#[]⟩]) 2 32 Tryz.underlying43 HI.out.1 HI.out.2.1 HI.out.2.2.1 HI.out.2.2.2 rfl (by decide) _ _ _ rfl (hown2.alloc _) ⟨w2.heap.size, 0, none⟩ 1 1 [.string k, .string (g k).1] rfl rfl (two_new _ _ _ _) (by simp [Value.oneCell']) (by have := hlenps.out; unfold maxLen; omega) (by have := hlenps.out; omega) (by have := HKP.out.size; have := HK2.out.size; simp; omega) ?_; intro v' w3 hown' hgrow hnil hloc)
              | go_in)
            have hb1 : ∀ b, Value.ownBlock u15 = some b → w1.heap.size ≤ b := fun b hb => (hown2.lt b hb).1
            go_roundw
            case rel =>
              refine ⟨i + 1, by omega, by go_num, ((HKP.out.trans HK2.out (fun _ _ h => h)).trans ((Kp.alloc (fun b => Value.ownBlock u15 = some b) w2 _).trans (Kp.of_grown (S := fun b => Value.ownBlock u15 = some b) hgrow (fun _ h => h)) (fun _ _ h => h)) (fun b hb h => by have := hb1 b h; omega)), ?_⟩
              have hp0 : (ks.take (i + 1)).filterMap (pairOf g) = (ks.take i).filterMap (pairOf g) ++ [(k, (g k).1)] := by rw [HT2.out, List.filterMap_append]; simp [pairOf, hs]
              rw [hp0, List.length_append, ← cells2_snoc]
              exact hown'
            case measure => simp [intOf]; omega
        · have hie : i = ks.length := by omega
          subst hie
          rw [List.take_length] at hown
          go_wp2_with fail
          refine HR.out wr u15 ks (HK1.out.trans hkp (fun _ _ h => h)) HSO.out (by simpa using HME.out) (by simpa using HLE.out) ⟨hown.1, hown.2.imp id (fun ⟨g, cap, cur, e1, e2, e3⟩ => ⟨g, cap, cur, e1, Nat.le_trans HK1.out.size e2, e3⟩)⟩

end

end Go.Proofs.YthbdpfccfcceiaaGreatDoor

namespace Go.Proofs.YthbdpfccfcceiaaGreatDoor
open Go.RowKit Go.Maps

section
variable {own own' : Nat → Lab} {c : Nat} {w w' : World} {p : Nat} {s : XS} {mo ph mv mm : Nat} {pt mw : Int → Nat} {sl : ByteArray → Value}
variable {R : Ending → World → Prop}

set_option maxRecDepth 20000 in
set_option maxHeartbeats 400000 in
theorem x_covers (h : XR own c w p s mo ph mv mm pt mw sl) (t : Int)
    (h1 : t < s.hor → R (.returned (.int .i64 6)) w)
    (h2 : ¬ t < s.hor → s.now < t → R (.returned (.int .i64 7)) w)
    (h3 : ¬ t < s.hor → ¬ s.now < t → R (.returned (.int .i64 0)) w) :
    Calls Tryz.prog 44 #[.pointer (some ⟨p, 0, none⟩), .int .i64 t] w R := by
  have c1 : w.cell? ⟨p, 1, none⟩ = some (.int .i64 s.hor) := cell_of h.store 1
  have c2 : w.cell? ⟨p, 2, none⟩ = some (.int .i64 s.now) := cell_of h.store 2
  clear h
  by_cases q1 : t < s.hor
  · have d1 : decide (t < s.hor) = true := by simpa using q1
    have HR := hid_of (h1 q1)
    clear h1 h2 h3
    go_enter Tryz.func44, Tryz.ntmps44
    go_wp2
    exact HR.out
  · have d1 : decide (t < s.hor) = false := by simpa using q1
    by_cases q2 : s.now < t
    · have d2 : decide (s.now < t) = true := by simpa using q2
      have HR := hid_of (h2 q1 q2)
      clear h1 h2 h3
      go_enter Tryz.func44, Tryz.ntmps44
      go_wp2
      exact HR.out
    · have d2 : decide (s.now < t) = false := by simpa using q2
      have HR := hid_of (h3 q1 q2)
      clear h1 h2 h3
      go_enter Tryz.func44, Tryz.ntmps44
      go_wp2
      exact HR.out

set_option maxRecDepth 20000 in
set_option maxHeartbeats 400000 in
theorem x_asof0 (h : XR own c w p s mo ph mv mm pt mw sl) (t : Int) (key : ByteArray) (hkl : key.size ≤ maxLen) (hm : ∀ k, MomOk s k)
    (h1 : isKey key = false → R (.returned (.tuple #[.string eb, .int .i64 1])) w)
    (h2 : isKey key = true → t < s.hor → R (.returned (.tuple #[.string eb, .int .i64 6])) w)
    (h3 : isKey key = true → ¬ t < s.hor → s.now < t → R (.returned (.tuple #[.string eb, .int .i64 7])) w)
    (h4 : isKey key = true → ¬ t < s.hor → ¬ s.now < t → (valAt s key t).2 = false → ∀ w', Kp (fun _ => False) w w' → R (.returned (.tuple #[.string eb, .int .i64 5])) w')
    (h5 : isKey key = true → ¬ t < s.hor → ¬ s.now < t → (valAt s key t).2 = true → ∀ w', Kp (fun _ => False) w w' → R (.returned (.tuple #[.string (valAt s key t).1, .int .i64 0])) w') :
    Calls Tryz.prog 56 #[.pointer (some ⟨p, 0, none⟩), .int .i64 t, .string key] w R := by
  have H := hid_of h
  have HK := hid_of hkl
  have HM := hid_of hm
  have c3 : w.cell? ⟨p, 0, none⟩ = some (.pointer (some ⟨ph, 0, none⟩)) := cell_of h.store 0
  clear h hkl hm
  cases hb : isKey key with
  | false =>
    have HR := hid_of (h1 hb)
    clear h1 h2 h3 h4 h5
    go_enter Tryz.func56, Tryz.ntmps56
    go_wp2_with (first
      | (go_at_call 67; refine (isKey_any _ _ HK.out).mono ?_; rintro e w' ⟨rfl, rfl⟩)
      | go_in)
    exact HR.out
  | true =>
    have hk8 := isKey_le key hb
    have HK8 := hid_of hk8
    clear hk8
    by_cases q1 : t < s.hor
    · have HR := hid_of (h2 hb q1)
      have Q1 := hid_of q1
      clear h1 h2 h3 h4 h5 q1
      go_enter Tryz.func56, Tryz.ntmps56
      go_wp2_with (first
        | (go_at_call 67; refine (isKey_any _ _ HK.out).mono ?_; rintro e w' ⟨rfl, rfl⟩)
        | (go_at_call 44; refine x_covers H.out t (fun _ => ?_) (fun q _ => by have := Q1.out; omega) (fun q _ => by have := Q1.out; omega))
        | go_in)
      exact HR.out
    · by_cases q2 : s.now < t
      · have HR := hid_of (h3 hb q1 q2)
        have Q1 := hid_of q1
        have Q2 := hid_of q2
        clear h1 h2 h3 h4 h5 q1 q2
        go_enter Tryz.func56, Tryz.ntmps56
        go_wp2_with (first
          | (go_at_call 67; refine (isKey_any _ _ HK.out).mono ?_; rintro e w' ⟨rfl, rfl⟩)
          | (go_at_call 44; refine x_covers H.out t (fun q => by have := Q1.out; omega) (fun _ _ => ?_) (fun _ q => by have := Q2.out; omega))
          | go_in)
        exact HR.out
      · have Q1 := hid_of q1
        have Q2 := hid_of q2
        cases hv : (valAt s key t).2 with
        | false =>
          have HR := hid_of (h4 hb q1 q2 hv)
          clear h1 h2 h3 h4 h5 q1 q2
          go_enter Tryz.func56, Tryz.ntmps56
          go_wp2_with (first
            | (go_at_call 67; refine (isKey_any _ _ HK.out).mono ?_; rintro e w' ⟨rfl, rfl⟩)
            | (go_at_call 44; refine x_covers H.out t (fun q => by have := Q1.out; omega) (fun _ q => by have := Q2.out; omega) (fun _ _ => ?_))
            | (go_at_call 91; refine x_value H.out key t HK8.out (HM.out key).len (HM.out key).up (HM.out key).ver (fun w1 hk1 => ?_); have HK1 := hid_of hk1; clear hk1)
            | go_in)
          exact HR.out w1 HK1.out
        | true =>
          have HR := hid_of (h5 hb q1 q2 hv)
          clear h1 h2 h3 h4 h5 q1 q2
          go_enter Tryz.func56, Tryz.ntmps56
          go_wp2_with (first
            | (go_at_call 67; refine (isKey_any _ _ HK.out).mono ?_; rintro e w' ⟨rfl, rfl⟩)
            | (go_at_call 44; refine x_covers H.out t (fun q => by have := Q1.out; omega) (fun _ q => by have := Q2.out; omega) (fun _ _ => ?_))
            | (go_at_call 91; refine x_value H.out key t HK8.out (HM.out key).len (HM.out key).up (HM.out key).ver (fun w1 hk1 => ?_); have HK1 := hid_of hk1; clear hk1)
            | go_in)
          exact HR.out w1 HK1.out

set_option maxRecDepth 20000 in
set_option maxHeartbeats 400000 in
theorem x_asof (t : Int) (key : ByteArray)
    (hR : Calls Tryz.prog 56 #[.pointer (some ⟨p, 0, none⟩), .int .i64 t, .string key] w fun e w' => ∃ (a : ByteArray) (b : Int), e = .returned (.tuple #[.string a, .int .i64 b]) ∧ R (.returned (.tuple #[.string a, .int .i64 b])) w') :
    Calls Tryz.prog 29 #[.pointer (some ⟨p, 0, none⟩), .int .i64 t, .string key] w R := by
  have HR := hid_of hR
  clear hR
  go_enter Tryz.func29, Tryz.ntmps29
  go_wp2_with (first
    | (go_at_call 56; refine Calls.mono HR.out ?_; rintro e w1 ⟨a, b, rfl, hr⟩; have HR1 := hid_of hr; clear hr)
    | go_in)
  exact HR1.out

set_option maxRecDepth 20000 in
set_option maxHeartbeats 400000 in
theorem x_stored (h : XR own c w p s mo ph mv mm pt mw sl) (hR : R (.returned (.int .i64 s.nv)) w) :
    Calls Tryz.prog 112 #[.pointer (some ⟨p, 0, none⟩)] w R := by
  have c3 : w.cell? ⟨p, 0, none⟩ = some (.pointer (some ⟨ph, 0, none⟩)) := cell_of h.store 0
  have d0 : w.cell? ⟨ph, 0, none⟩ = some (.map (some mv)) := cell_of h.hist 0
  have hv := h.vers
  have HR := hid_of hR
  have hS : Hid (Calls Tryz.prog 163 #[.pointer (some ⟨ph, 0, none⟩)] w (fun e w' => e = .returned (.int .i64 s.nv) ∧ w' = w)) := by
    show Calls _ _ _ _ _
    clear h hR HR
    go_enter Tryz.func163, Tryz.ntmps163
    go_wp2_with (first
      | (at_len; refine wpL_len _ rfl _ 206 rfl 225 138 Tryz.underlying206 mv s.nv _ rfl hv ?_)
      | go_in)
    go_ret
    exact ⟨rfl, rfl⟩
  clear h hR hv
  go_enter Tryz.func112, Tryz.ntmps112
  go_wp2_with (first
    | (go_at_call 163; refine Calls.mono hS.out ?_; rintro e w1 ⟨rfl, rfl⟩)
    | go_in)
  exact HR.out

end

end Go.Proofs.YthbdpfccfcceiaaGreatDoor

namespace Go.Proofs.YthbdpfccfcceiaaGreatDoor
open Go.RowKit Go.Maps

/-- A transaction that is not over sees less than a moment, or a backup that is not done needs one. -/
def pinX (s : XS) (t : Int) : Prop := (∃ n x, s.txs n = some x ∧ x.sees < t) ∨ ∃ n b, s.bk.un n = some b ∧ b.needs < t

theorem encO_inv {txs : Int → Option XT} {pt : Int → Nat} {key v : Value} (h : encI (fun n => (txs n).map fun _ => Value.pointer (some ⟨pt n, 0, none⟩)) key = some v) :
    ∃ (n : Int) (q : Nat), key = (fun n : Int => Value.int .i64 n) n ∧ v = (fun q : Nat => Value.pointer (some ⟨q, 0, none⟩)) q := by
  unfold encI at h
  split at h
  · rename_i n
    dsimp only at h
    cases e : txs n with
    | none => rw [e] at h; cases h
    | some x => rw [e] at h; cases h; exact ⟨n, pt n, rfl, rfl⟩
  · cases h

theorem encU_inv {un : Int → Option XB} {key v : Value} (h : encI (fun n => (un n).map fun b => Value.pointer (some ⟨b.pb, 0, none⟩)) key = some v) :
    ∃ (n : Int) (q : Nat), key = (fun n : Int => Value.int .i64 n) n ∧ v = (fun q : Nat => Value.pointer (some ⟨q, 0, none⟩)) q := by
  unfold encI at h
  split at h
  · rename_i n
    dsimp only at h
    cases e : un n with
    | none => rw [e] at h; cases h
    | some x => rw [e] at h; cases h; exact ⟨n, x.pb, rfl, rfl⟩
  · cases h

section
variable {own own' : Nat → Lab} {c : Nat} {w w' : World} {p : Nat} {s : XS} {mo ph mv mm : Nat} {pt mw : Int → Nat} {sl : ByteArray → Value}
variable {R : Ending → World → Prop}

set_option maxRecDepth 20000 in
set_option maxHeartbeats 1000000 in
theorem x_pinned (h : XR own c w p s mo ph mv mm pt mw sl) (t : Int)
    (h0 : ¬ pinX s t → ∀ w', Kp (fun _ => False) w w' → R (.returned (.bool false)) w')
    (h1 : pinX s t → ∀ w', Kp (fun _ => False) w w' → R (.returned (.bool true)) w') :
    Calls Tryz.prog 45 #[.pointer (some ⟨p, 0, none⟩), .int .i64 t] w R := by
  have c2 : w.cell? ⟨p, 7, none⟩ = some (.map (some mo)) := cell_of h.store 7
  have hw := h.opn
  have H := hid_of h
  have H0 := hid_of h0
  have H1 := hid_of h1
  clear h0 h1 h
  go_enter Tryz.func45, Tryz.ntmps45
  go_wp2_with (first
    | (at_range; refine wpL_range _ rfl _ 99 rfl 3 129 kInt Tryz.underlying99 mo s.nopen _ rfl hw ?_; intro w0 hrg0 hg0 hs0)
    | go_in)
  go_frame
  go_loopw [6] (fun _ wr => ∃ (left : Value → Bool) (cnt : Nat), frng wr Tryz.prog 3 mo w.heap.size s.nopen (encI fun n => (s.txs n).map fun _ => Value.pointer (some ⟨pt n, 0, none⟩)) left cnt ∧ Kp (fun _ => False) w wr ∧ ∀ n x, s.txs n = some x → left (.int .i64 n) = false → t ≤ x.sees)
    (fun _ wr => wr.rangeLeft mo w.heap.size)
  case atStart => exact ⟨_, _, hrg0, Kp.of_grown hg0 (fun _ h => by cases h), fun n x hx hl => by rw [encI_at, hx] at hl; cases hl⟩
  case round =>
    obtain ⟨left, cnt, hrg, hkp, hdone⟩ := hrel
    have HD := hid_of hdone
    clear hdone
    go_wp2_with (first
      | (at_next; refine wpL_next _ rfl _ rfl 3 kInt (fun n : Int => Value.int .i64 n) (fun q : Nat => Value.pointer (some ⟨q, 0, none⟩)) mo w.heap.size s.nopen _ left cnt (fun key v hv => ?inv) rfl hrg ?_ ?_)
      | go_in)
    case inv =>
      first | exact encO_inv hv | (obtain ⟨n, q, e1, e2⟩ := encO_inv hv; exact ⟨⟨n, e1⟩, ⟨q, e2⟩⟩)
    · intro _ hl0
      obtain ⟨wo, rfl⟩ : ∃ wo, wo = wr := ⟨wr, rfl⟩
      have HT0 : Hid (∀ n x, s.txs n = some x → t ≤ x.sees) := fun n x hx => HD.out n x hx (hl0 _)
      have HKP := hid_of hkp
      have hx1 := H.out.kept hkp
      have d5 : wo.cell? ⟨p, 9, none⟩ = some (.map (some s.bk.mu)) := cell_of hx1.store 9
      have hu := hx1.bks.und
      have HX1 := hid_of hx1
      clear hl0 HD hx1 hrg
      go_wp2_with (first
        | (at_range; refine wpL_range _ rfl _ 100 rfl 3 148 kInt Tryz.underlying100 s.bk.mu s.bk.nb _ rfl hu ?_; intro w5 hrg5 hg5 hs5)
        | go_in)
      go_frame
      go_loopw [8] (fun _ wq => ∃ (left : Value → Bool) (cnt : Nat), frng wq Tryz.prog 3 s.bk.mu wo.heap.size s.bk.nb (encI fun n => (s.bk.un n).map fun b => Value.pointer (some ⟨b.pb, 0, none⟩)) left cnt ∧ Kp (fun _ => False) wo wq ∧ ∀ n b, s.bk.un n = some b → left (.int .i64 n) = false → t ≤ b.needs)
        (fun _ wq => wq.rangeLeft s.bk.mu wo.heap.size)
      case atStart => exact ⟨_, _, hrg5, Kp.of_grown hg5 (fun _ h => by cases h), fun n x hx hl => by rw [encI_at, hx] at hl; cases hl⟩
      case round =>
        obtain ⟨left, cnt, hrg, hkp5, hdone⟩ := hrel
        have HD := hid_of hdone
        clear hdone
        go_wp2_with (first
          | (at_next; refine wpL_next _ rfl _ rfl 3 kInt (fun n : Int => Value.int .i64 n) (fun q : Nat => Value.pointer (some ⟨q, 0, none⟩)) s.bk.mu wo.heap.size s.bk.nb _ left cnt (fun key v hv => ?inv) rfl hrg ?_ ?_)
          | go_in)
        case inv =>
          first | exact encU_inv hv | (obtain ⟨n, q, e1, e2⟩ := encU_inv hv; exact ⟨⟨n, e1⟩, ⟨q, e2⟩⟩)
        · intro _ hl0
          have HL0 := hid_of hl0
          clear hl0
          go_wp2
          refine H0.out (fun hp => ?_) _ (HKP.out.trans hkp5 (fun _ _ h => h))
          rcases hp with ⟨n, x, hx, hlt⟩ | ⟨n, b, hb, hlt⟩
          · have := HT0.out n x hx; omega
          · have := HD.out n b hb (HL0.out _); omega
        · intro n q w1 cnt1 hlk hfk left' hrg1 hl1 hl2 hlt hg1 hs1 hen
          obtain ⟨x, hx, hq⟩ : ∃ x, s.bk.un n = some x ∧ q = x.pb := by
            rw [encI_at] at hfk
            cases e : s.bk.un n with
            | none => rw [e] at hfk; cases hfk
            | some x => rw [e] at hfk; simp at hfk; exact ⟨x, rfl, hfk.symm⟩
          subst hq
          have hkp1 : Kp (fun _ => False) wo w1 := hkp5.trans (Kp.of_grown (S := fun b => b = wo.heap.size) hg1 (fun b hb => by cases hb; rfl)) (fun b hb e => by omega)
          have d1 : w1.cell? ⟨x.pb, 0, none⟩ = some (.int .i64 x.needs) := cell_of ((HX1.out.kept hkp1).bks.blk n x hx) 0
          clear hfk hlk
          by_cases hch : x.needs < t
          · have hd : decide (x.needs < t) = true := by simpa using hch
            have HC := hid_of hch
            clear hch
            go_wp2
            exact H1.out (Or.inr ⟨n, x, hx, HC.out⟩) _ (HKP.out.trans hkp1 (fun _ _ h => h))
          · have hd : decide (x.needs < t) = false := by simpa using hch
            have HC := hid_of hch
            clear hch
            go_wp2
            go_roundw
            case rel =>
              refine ⟨left', cnt1, hrg1, hkp1, fun n' x' hx' hl' => ?_⟩
              by_cases en : n' = n
              · subst en; rw [hx] at hx'; cases hx'; have := HC.out; omega
              · exact HD.out n' x' hx' (by rw [← hl2 _ (fun e => en (by injection e))]; exact hl')
            case measure => rw [hrg1.left_eq, hrg.left_eq]; exact hlt
    · intro n q w1 cnt1 hlk hfk left' hrg1 hl1 hl2 hlt hg1 hs1 hen
      obtain ⟨x, hx, hq⟩ : ∃ x, s.txs n = some x ∧ q = pt n := by
        rw [encI_at] at hfk
        cases e : s.txs n with
        | none => rw [e] at hfk; cases hfk
        | some x => rw [e] at hfk; simp at hfk; exact ⟨x, rfl, hfk.symm⟩
      subst hq
      have hkp1 : Kp (fun _ => False) w w1 := hkp.trans (Kp.of_grown (S := fun b => b = w.heap.size) hg1 (fun b hb => by cases hb; rfl)) (fun b hb e => by omega)
      have d1 : w1.cell? ⟨pt n, 0, none⟩ = some (.int .i64 x.sees) := cell_of ((H.out.kept hkp1).tx n x hx) 0
      clear hfk hlk
      by_cases hch : x.sees < t
      · have hd : decide (x.sees < t) = true := by simpa using hch
        have HC := hid_of hch
        clear hch
        go_wp2
        exact H1.out (Or.inl ⟨n, x, hx, HC.out⟩) _ hkp1
      · have hd : decide (x.sees < t) = false := by simpa using hch
        have HC := hid_of hch
        clear hch
        go_wp2
        go_roundw
        case rel =>
          refine ⟨left', cnt1, hrg1, hkp1, fun n' x' hx' hl' => ?_⟩
          by_cases en : n' = n
          · subst en; rw [hx] at hx'; cases hx'; have := HC.out; omega
          · exact HD.out n' x' hx' (by rw [← hl2 _ (fun e => en (by injection e))]; exact hl')
        case measure => rw [hrg1.left_eq, hrg.left_eq]; exact hlt

theorem x_do_hint (h : XR own c w p s mo ph mv mm pt mw sl) (hT : Tab w) (hN : TabN own c) (t : Int) (ht : 0 ≤ t ∧ t ≤ 100000) (hl : s.log.lg.length ≤ 4999) (hbs : ∀ b ∈ s.log.lg, b.length ≤ 400)
    (hR : ∀ w' own' l', Kp (fun b => (own b).c = c) w w' → (∀ b, b < w.heap.size → own' b = own b) → l'.lg = s.log.lg ++ [bodyH t.toNat] → l'.sy = s.log.sy →
      XR own' c w' p { s with hor := t, log := l' } mo ph mv mm pt mw sl → R (.returned (.tuple #[])) w') :
    Calls Tryz.prog 46 #[.pointer (some ⟨p, 0, none⟩), .agg #[.int .u8 72, .int .i64 t, .slice none 0 0]] w R := by
  have e : (t.toNat : Int) = t := by omega
  have := x_do_hor (R := R) h hT hN t.toNat (by omega) hl hbs (fun w' own' l' h1 h2 h3 h4 h5 => hR w' own' l' h1 h2 h3 h4 (by rw [e] at h5; exact h5))
  rw [e] at this
  exact this

set_option maxRecDepth 20000 in
set_option maxHeartbeats 1000000 in
theorem x_retain (h : XR own c w p s mo ph mv mm pt mw sl) (hT : Tab w) (hN : TabN own c) (t : Int) (hnow : 0 ≤ s.hor ∧ s.now ≤ 2000) (hl : s.log.lg.length ≤ 4999) (hbs : ∀ b ∈ s.log.lg, b.length ≤ 400)
    (h1 : t < s.hor ∨ s.now < t → R (.returned (.int .i64 1)) w)
    (h2 : ¬ t < s.hor → ¬ s.now < t → pinX s t → ∀ w', Kp (fun _ => False) w w' → R (.returned (.int .i64 8)) w')
    (h3 : ¬ t < s.hor → ¬ s.now < t → ¬ pinX s t → ∀ w' own' l', Kp (fun b => (own b).c = c) w w' → (∀ b, b < w.heap.size → own' b = own b) → (l'.lg = if s.hor < t then s.log.lg ++ [bodyH t.toNat] else s.log.lg) → l'.sy = s.log.sy → XR own' c w' p { s with hor := t, log := l' } mo ph mv mm pt mw sl → R (.returned (.int .i64 0)) w') :
    Calls Tryz.prog 21 #[.pointer (some ⟨p, 0, none⟩), .int .i64 t] w R := by
  have H := hid_of h
  clear h
  by_cases q1 : t < s.hor
  · have HR := hid_of (h1 (Or.inl q1))
    have Q1 := hid_of q1
    clear h1 h2 h3 q1
    go_enter Tryz.func21, Tryz.ntmps21
    go_wp2_with (first
      | (go_at_call 44; refine x_covers H.out t (fun _ => ?_) (fun q _ => by have := Q1.out; omega) (fun q _ => by have := Q1.out; omega))
      | go_in)
    exact HR.out
  · by_cases q2 : s.now < t
    · have HR := hid_of (h1 (Or.inr q2))
      have Q1 := hid_of q1
      have Q2 := hid_of q2
      clear h1 h2 h3 q1 q2
      go_enter Tryz.func21, Tryz.ntmps21
      go_wp2_with (first
        | (go_at_call 44; refine x_covers H.out t (fun q => by have := Q1.out; omega) (fun _ _ => ?_) (fun _ q => by have := Q2.out; omega))
        | go_in)
      exact HR.out
    · have Q1 := hid_of q1
      have Q2 := hid_of q2
      by_cases q3 : pinX s t
      · have HR := hid_of (h2 q1 q2 q3)
        have Q3 := hid_of q3
        clear h1 h2 h3 q1 q2 q3
        go_enter Tryz.func21, Tryz.ntmps21
        go_wp2_with (first
          | (go_at_call 44; refine x_covers H.out t (fun q => by have := Q1.out; omega) (fun _ q => by have := Q2.out; omega) (fun _ _ => ?_))
          | (go_at_call 45; refine x_pinned H.out t (fun q => absurd Q3.out q) (fun _ w1 hk1 => ?_); have HK1 := hid_of hk1; clear hk1)
          | go_in)
        exact HR.out w1 HK1.out
      · have HR := hid_of (h3 q1 q2 q3)
        have Q3 := hid_of q3
        have HT := hid_of hT
        have HN := hid_of hN
        have HNOW := hid_of hnow
        have HL := hid_of hl
        have HBS := hid_of hbs
        by_cases q4 : s.hor < t
        · have Q4 := hid_of q4
          have hq4 : s.hor < t := q4
          clear h1 h2 h3 q1 q2 q3 hT hN hnow hl hbs q4
          go_enter Tryz.func21, Tryz.ntmps21
          go_wp2_with (first
            | (go_at_call 44; refine x_covers H.out t (fun q => by have := Q1.out; omega) (fun _ q => by have := Q2.out; omega) (fun _ _ => ?_))
            | (go_at_call 45; refine x_pinned H.out t (fun _ w1 hk1 => ?_) (fun q => absurd q Q3.out); have HK1 := hid_of hk1; have c1 : w1.cell? ⟨p, 1, none⟩ = some (.int .i64 s.hor) := cell_of (H.out.kept hk1).store 1; clear hk1)
            | (go_at_call 46; refine x_do_hint (H.out.kept HK1.out) (HT.out.kept HK1.out) HN.out t (by have := HNOW.out; have := Q1.out; have := Q2.out; omega) HL.out HBS.out ?_; intro w2 own2 l2 hk2 ho2 hl2 hs2 hx2; have HK2 := hid_of hk2; have HO2 := hid_of ho2; have HL2 := hid_of hl2; have HS2 := hid_of hs2; have HX2 := hid_of hx2; clear hk2 ho2 hl2 hs2 hx2)
            | go_in)
          exact HR.out w2 own2 l2 ((HK1.out.own_of (fun _ h => h.elim)).trans HK2.out (fun _ _ h => h)) (fun b hb => HO2.out b (Nat.lt_of_lt_of_le hb HK1.out.size)) (by rw [if_pos Q4.out]; exact HL2.out) HS2.out HX2.out
        · have Q4 := hid_of q4
          have hq4 : ¬ s.hor < t := q4
          clear h1 h2 h3 q1 q2 q3 hT hN hnow hl hbs q4
          go_enter Tryz.func21, Tryz.ntmps21
          go_wp2_with (first
            | (go_at_call 44; refine x_covers H.out t (fun q => by have := Q1.out; omega) (fun _ q => by have := Q2.out; omega) (fun _ _ => ?_))
            | (go_at_call 45; refine x_pinned H.out t (fun _ w1 hk1 => ?_) (fun q => absurd q Q3.out); have HK1 := hid_of hk1; have c1 : w1.cell? ⟨p, 1, none⟩ = some (.int .i64 s.hor) := cell_of (H.out.kept hk1).store 1; clear hk1)
            | go_in)
          have e : t = s.hor := by have := Q1.out; have := Q4.out; omega
          refine HR.out w1 own s.log (HK1.out.own_of (fun _ h => h.elim)) (fun _ _ => rfl) (by rw [if_neg (by have := Q4.out; omega)]) rfl ?_
          rw [e]
          exact H.out.kept HK1.out

end

end Go.Proofs.YthbdpfccfcceiaaGreatDoor

namespace Go.Proofs.YthbdpfccfcceiaaGreatDoor
open Go.RowKit Go.Maps

theorem kp_dr {w w' : World} (h : w' = w ∨ w' = w.drew ∨ ∃ q, w' = w.drewN q) : Kp (fun _ => False) w w' := by
  rcases h with rfl | rfl | ⟨q, rfl⟩
  · exact Kp.refl _ _
  · exact Kp.drew _ _
  · exact Kp.drewN _ _ _

theorem run_deleted (v : ByteArray) (g : Bool) (w : World) : (Instr.field 138 (.agg #[.string v, .bool g]) 1).run Tryz.prog w = .ok (.bool g) w := by kernel_rfl

section
variable {R : Ending → World → Prop}

set_option maxRecDepth 20000 in
set_option maxHeartbeats 400000 in
theorem spent_empty (ph mm n : Nat) (f : Value → Option Value) (key : ByteArray) (t : Int) (w : World) (c1 : w.cell? ⟨ph, 1, none⟩ = some (.map (some mm))) (hown : fmap w Tryz.prog 9 mm n f)
    (hlen : key.size ≤ 8) (a : Option Addr) (cap : Nat) (hf : (f (.string key)).getD (.slice none 0 0) = .slice a 0 cap)
    (hR : ∀ w', Kp (fun _ => False) w w' → R (.returned (.int .i64 0)) w') :
    Calls Tryz.prog 81 #[.pointer (some ⟨ph, 0, none⟩), .string key, .int .i64 t] w R := by
  have hkey : Hid _ := WideMaps.keyOf_string_mk Tryz.underlying9 (show key.size ≤ maxLen by unfold maxLen; omega)
  have HR := hid_of hR
  clear hlen hR
  go_enter Tryz.func81, Tryz.ntmps81
  go_wp2_with (first
    | (at_lookup; refine wpL_lookup _ rfl _ _ 207 rfl 9 26 kStr Tryz.underlying207 (zInts _) mm n f rfl hown (.string key) _ rfl hkey.out _ hf ?_)
    | (go_at_call 134; refine upto_empty _ _ _ _ ?_)
    | go_in)
  go_quiet (fail)
  go_wp2
  exact HR.out _ (Kp.drewN (fun _ => False) _ _)

set_option maxRecDepth 20000 in
set_option maxHeartbeats 400000 in
theorem spent_none (ph mm n : Nat) (f : Value → Option Value) (key : ByteArray) (t : Int) (w : World) (c1 : w.cell? ⟨ph, 1, none⟩ = some (.map (some mm))) (hown : fmap w Tryz.prog 9 mm n f)
    (hlen : key.size ≤ 8) (g cap : Nat) (zs : List Int) (hf : (f (.string key)).getD (.slice none 0 0) = .slice (some ⟨g, 0, none⟩) zs.length cap) (hl : zs.length < 1000000)
    (hc : ∀ j, j < zs.length → w.cell? ⟨g, j, none⟩ = some (.int .i64 (zs.getD j 0))) (hs : zs.Pairwise (· < ·)) (h0 : zs.countP (fun m => decide (m ≤ t)) = 0)
    (hR : ∀ w', Kp (fun _ => False) w w' → R (.returned (.int .i64 0)) w') :
    Calls Tryz.prog 81 #[.pointer (some ⟨ph, 0, none⟩), .string key, .int .i64 t] w R := by
  have hkey : Hid _ := WideMaps.keyOf_string_mk Tryz.underlying9 (show key.size ≤ maxLen by unfold maxLen; omega)
  have HR := hid_of hR
  have hB := hid_of (fun (R : Ending → World → Prop) => upto_row (R := R) g cap zs t w 0 hl hc hs h0)
  clear hlen hR hc hs h0
  go_enter Tryz.func81, Tryz.ntmps81
  go_wp2_with (first
    | (at_lookup; refine wpL_lookup _ rfl _ _ 207 rfl 9 26 kStr Tryz.underlying207 (zInts _) mm n f rfl hown (.string key) _ rfl hkey.out _ hf ?_)
    | (go_at_call 134; refine hB.out _ (fun q => ?_))
    | go_in)
  go_quiet (fail)
  go_wp2
  exact HR.out _ ((Kp.drewN _ w q).trans (Kp.drewN (fun _ => False) _ _) (fun _ _ h => h))

set_option maxRecDepth 20000 in
set_option maxHeartbeats 1000000 in
theorem spent_some (ph mv mm n nv : Nat) (f fv : Value → Option Value) (key : ByteArray) (t : Int) (w : World) (c0 : w.cell? ⟨ph, 0, none⟩ = some (.map (some mv))) (c1 : w.cell? ⟨ph, 1, none⟩ = some (.map (some mm)))
    (hown : fmap w Tryz.prog 9 mm n f) (hver : fmap w Tryz.prog 225 mv nv fv)
    (hlen : key.size ≤ 8) (g cap : Nat) (zs : List Int) (hf : (f (.string key)).getD (.slice none 0 0) = .slice (some ⟨g, 0, none⟩) zs.length cap) (hl : zs.length < 1000000)
    (hc : ∀ j, j < zs.length → w.cell? ⟨g, j, none⟩ = some (.int .i64 (zs.getD j 0))) (hs : zs.Pairwise (· < ·))
    (idx : Nat) (hidx : zs.countP (fun m => decide (m ≤ t)) = idx + 1)
    (m : Int) (hm : zs.getD idx 0 = m) (hwm : (Lit.int .i64 m).wf = true) (val : ByteArray) (gone : Bool) (hv : fv (.agg #[.string key, .int .i64 m]) = some (.agg #[.string val, .bool gone]))
    (h1 : gone = true → ∀ w', Kp (fun _ => False) w w' → R (.returned (.int .i64 (idx + 1))) w')
    (h2 : gone = false → ∀ w', Kp (fun _ => False) w w' → R (.returned (.int .i64 idx)) w') :
    Calls Tryz.prog 81 #[.pointer (some ⟨ph, 0, none⟩), .string key, .int .i64 t] w R := by
  have hkey : Hid _ := WideMaps.keyOf_string_mk Tryz.underlying9 (show key.size ≤ maxLen by unfold maxLen; omega)
  have H1 := hid_of h1
  have H2 := hid_of h2
  have hB := hid_of (fun (R : Ending → World → Prop) => upto_row (R := R) g cap zs t w (idx + 1) hl hc hs hidx)
  have hlt : idx < zs.length := by have := List.countP_le_length (p := fun m => decide (m ≤ t)) (l := zs); omega
  have hcm := hc idx hlt
  rw [hm] at hcm
  obtain ⟨kl, hkl⟩ := keyPlace key m (by unfold maxLen; omega) hwm
  have hlk : Hid (∀ W : World, W.heap[mv]? = w.heap[mv]? → (Instr.lookup 206 (.map (some mv)) (.agg #[.string key, .int .i64 m]) false).run Tryz.prog W = .ok (.agg #[.string val, .bool gone]) W) := fun W hW => by
    have := (hver.of_block hW).look false kPlace Tryz.underlying206 (zVer W) hkl
    rw [hv] at this
    simpa using this
  have hmv := hver.lt
  have hlt' : (idx : Int) < zs.length := by omega
  have hi0 : (idx : Int) ≤ 1000000 := by omega
  have hwrp : IntKind.i64.wrap (idx : Int) = (idx : Int) := IntWalk.i64_in _ (by omega)
  clear hlen h1 h2 hc hs hidx hm hwm hv hkl hver hlt hl
  generalize zs.length = L at hf hB hlt'
  have hne0 : ((idx : Int) + 1 == 0) = false := by simp; omega
  cases gone
  all_goals
    go_enter Tryz.func81, Tryz.ntmps81
    go_wp2_with (first
      | (at_lookup; refine wpL_lookup _ rfl _ _ 207 rfl 9 26 kStr Tryz.underlying207 (zInts _) mm n f rfl hown (.string key) _ rfl hkey.out _ hf ?_)
      | (go_at_call 134; refine hB.out _ (fun q => ?_); rw [show ((idx + 1 : Nat) : Int) = (idx : Int) + 1 from rfl])
      | go_in)
    generalize hW : w.drewN q = W
    have a0 : W.cell? ⟨ph, 0, none⟩ = some (.map (some mv)) := by rw [← hW]; exact c0
    have a1 : W.cell? ⟨g, idx, none⟩ = some (.int .i64 m) := by rw [← hW]; exact hcm
    have l0 := fun q => hlk.out (W.drewN q) (by rw [← hW]; rfl)
    have kk : Kp (fun _ => False) w W := by rw [← hW]; exact Kp.drewN _ _ _
    have hfld := run_deleted
    clear hlk hW hown c0 c1 hcm
    go_quiet (fail)
    clear l0 a0 a1
    go_wp2
  · exact H2.out trivial _ (kk.trans (Kp.drewN (fun _ => False) _ _) (fun _ _ h => h))
  · exact H1.out trivial _ (kk.trans (Kp.drewN (fun _ => False) _ _) (fun _ _ h => h))

end

/-- How many of a key's versions may go. -/
def spentX (s : XS) (k : ByteArray) (t : Int) : Nat :=
  match ((s.mom k).filter (fun m => decide (m ≤ t))).getLast? with
  | none => 0
  | some m => if ((s.ver k m).getD (eb, false)).2 = true then (s.mom k).countP (fun m => decide (m ≤ t)) else (s.mom k).countP (fun m => decide (m ≤ t)) - 1

section
variable {own own' : Nat → Lab} {c : Nat} {w w' : World} {p : Nat} {s : XS} {mo ph mv mm : Nat} {pt mw : Int → Nat} {sl : ByteArray → Value}
variable {R : Ending → World → Prop}

theorem x_spent (h : XR own c w p s mo ph mv mm pt mw sl) (key : ByteArray) (t : Int) (hlen : key.size ≤ 8) (hm : MomOk s key)
    (hR : ∀ w', Kp (fun _ => False) w w' → R (.returned (.int .i64 (spentX s key t))) w') :
    Calls Tryz.prog 81 #[.pointer (some ⟨ph, 0, none⟩), .string key, .int .i64 t] w R := by
  have hl := hm.len
  have hs := hm.up
  have hw := hm.ver
  have c0 : w.cell? ⟨ph, 0, none⟩ = some (.map (some mv)) := cell_of h.hist 0
  have c1 : w.cell? ⟨ph, 1, none⟩ = some (.map (some mm)) := cell_of h.hist 1
  by_cases hm : s.mom key = []
  · have hv : spentX s key t = 0 := by simp [spentX, hm]
    rw [hv] at hR
    exact spent_empty ph mm s.nm _ key t w c1 h.moms hlen none 0 (by rw [encS_at, if_pos hm]; rfl) hR
  · obtain ⟨g, cap, hv, hc⟩ := ownsRow_cells (h.row key hm) hm
    have hf : ((encS fun k => if s.mom k = [] then none else some (sl k)) (.string key)).getD (.slice none 0 0) = .slice (some ⟨g, 0, none⟩) (s.mom key).length cap := by rw [encS_at, if_neg hm, hv]; rfl
    have hft := filter_take (s.mom key) t hs
    by_cases h0 : (s.mom key).countP (fun m => decide (m ≤ t)) = 0
    · have hval : spentX s key t = 0 := by simp [spentX, hft, h0]
      rw [hval] at hR
      exact spent_none ph mm s.nm _ key t w c1 h.moms hlen g cap (s.mom key) hf hl hc hs h0 hR
    · obtain ⟨idx, hidx⟩ : ∃ idx, (s.mom key).countP (fun m => decide (m ≤ t)) = idx + 1 := ⟨_, (Nat.succ_pred_eq_of_ne_zero h0).symm⟩
      have hle : idx + 1 ≤ (s.mom key).length := by rw [← hidx]; exact List.countP_le_length
      have hmem : (s.mom key).getD idx 0 ∈ s.mom key := by
        simp only [List.getD, List.getElem?_eq_getElem (show idx < (s.mom key).length by omega), Option.getD_some]
        exact List.getElem_mem _
      obtain ⟨hwf, hsome⟩ := hw _ hmem
      obtain ⟨v, hv'⟩ := Option.isSome_iff_exists.1 hsome
      have hlast : ((s.mom key).filter (fun m => decide (m ≤ t))).getLast? = some ((s.mom key).getD idx 0) := by
        rw [hft, hidx, List.getLast?_eq_getElem?, List.length_take, Nat.min_eq_left hle, Nat.add_sub_cancel, List.getElem?_take]
        simp [List.getD, List.getElem?_eq_getElem (show idx < (s.mom key).length by omega)]
      have hval : spentX s key t = if v.2 = true then idx + 1 else idx := by simp only [spentX, hlast, hv', Option.getD_some, hidx, Nat.add_sub_cancel]
      rw [hval] at hR
      refine spent_some ph mv mm s.nm s.nv _ _ key t w c0 c1 h.moms h.vers hlen g cap (s.mom key) hf hl hc hs idx hidx _ rfl hwf v.1 v.2 (by rw [encP_at, hv']; rfl) (fun e w' k => ?_) (fun e w' k => ?_)
      · have := hR w' k
        rw [if_pos e] at this
        exact this
      · have := hR w' k
        rw [if_neg (by rw [e]; simp)] at this
        exact this

end

end Go.Proofs.YthbdpfccfcceiaaGreatDoor

namespace Go.Proofs.YthbdpfccfcceiaaGreatDoor
open Go.RowKit Go.Maps Go.Sort

section
variable {own own' : Nat → Lab} {c : Nat} {w w' : World} {p : Nat} {s : XS} {mo ph mv mm : Nat} {pt mw : Int → Nat} {sl : ByteArray → Value}
variable {R : Ending → World → Prop}

theorem spentX_nil {s : XS} {k : ByteArray} {t : Int} (h : s.mom k = []) : spentX s k t = 0 := by simp [spentX, h]

set_option maxRecDepth 20000 in
set_option maxHeartbeats 1000000 in
theorem x_spentKeys (h : XR own c w p s mo ph mv mm pt mw sl) (t : Int) (hnm : s.nm < 100000) (hm : ∀ k, MomOk s k) (hkey : ∀ k, s.mom k ≠ [] → k.size ≤ 8)
    (hR : ∀ w' v (ks : List ByteArray), Kp (fun _ => False) w w' → w'.ownsRow (w.heap.size + 1) 9 1 v ks.length (ks.map Value.string) → (∀ k, k ∈ ks ↔ 0 < spentX s k t) → ks.length ≤ s.nm → ks.Pairwise blt → R (.returned v) w') :
    Calls Tryz.prog 80 #[.pointer (some ⟨ph, 0, none⟩), .int .i64 t] w R := by
  have c1 : w.cell? ⟨ph, 1, none⟩ = some (.map (some mm)) := cell_of h.hist 1
  have hmoms := h.moms
  have H := hid_of h
  have HR := hid_of hR
  have HN := hid_of hnm
  have HMO := hid_of hm
  have HW := hid_of hkey
  clear hR h hnm hm hkey
  obtain ⟨i0, hi, hz0, hz1, hz2⟩ := info_parts infoStr
  go_enter Tryz.func80, Tryz.ntmps80
  go_wp2_with (first
    | (at_range; refine wpL_range _ rfl _ 207 rfl 9 26 kStr Tryz.underlying207 mm s.nm _ rfl hmoms ?_; intro w0 hrg0 hg0 hs0)
    | go_in)
  go_frame
  go_loopw [5, 6] (fun v7 _ wr => ∃ (left : Value → Bool) (cnt : Nat) (ks : List ByteArray), frng wr Tryz.prog 9 mm w.heap.size s.nm (encS fun k => if s.mom k = [] then none else some (sl k)) left cnt ∧ Kp (fun _ => False) w wr ∧ wr.ownsRow (w.heap.size + 1) 9 1 v7 ks.length (ks.map Value.string) ∧
      (∀ k, k ∈ ks ↔ s.mom k ≠ [] ∧ left (.string k) = false ∧ 0 < spentX s k t) ∧ ks.length + cnt ≤ s.nm ∧ w.heap.size + 1 ≤ wr.heap.size ∧ ks.Nodup)
    (fun _ _ wr => wr.rangeLeft mm w.heap.size)
  case atStart =>
    refine ⟨_, _, [], hrg0, Kp.of_grown hg0 (fun _ h => by cases h), World.ownsRow_nil _ _ _ _, fun k => ?_, by simp, by omega, List.nodup_nil⟩
    constructor
    · intro h; cases h
    · rintro ⟨h1, h2, _⟩
      rw [encS_at, if_neg h1] at h2; cases h2
  case round =>
    obtain ⟨left, cnt, ks, hrg, hkp, hrow, hmem, hcnt, hsz, hnd⟩ := hrel
    have HM := hid_of hmem
    have HC := hid_of hcnt
    have HZ := hid_of hsz
    have HND := hid_of hnd
    clear hmem hcnt hsz hnd
    go_wp2_with (first
      | (at_next; refine wpL_next _ rfl _ rfl 9 kStr Value.string (fun v : Value => v) mm w.heap.size s.nm _ left cnt (fun key v hv => ?inv) rfl hrg ?_ ?_)
      | go_in)
    case inv => exact encM_inv hv
    · intro _ hl0
      go_wp2_with (first
        | (go_at_call 133; refine (sort_row hrow (by have := HC.out; have := HN.out; omega)).mono ?_; rintro e w4 ⟨rfl, ks', hperm, hso, hrow', hk4⟩)
        | go_in)
      refine HR.out w4 _ ks' (hkp.trans hk4 (fun b hb hb' => absurd ((hrow.lt b hb').1) (by omega))) hrow' (fun k => ?_) (by rw [hperm.length_eq]; have := HC.out; omega) (sorted_strict hso (hperm.nodup_iff.2 HND.out))
      rw [hperm.mem_iff, HM.out k]
      exact ⟨fun ⟨_, _, h3⟩ => h3, fun h3 => ⟨fun e => by rw [spentX_nil e] at h3; omega, hl0 _, h3⟩⟩
    · intro k v w1 cnt1 hlk hfk left' hrg1 hl1 hl2 hlt hg1 hs1 hen
      have hmk : s.mom k ≠ [] := fun e => by rw [encS_at, if_pos e] at hfk; cases hfk
      clear hfk
      have hkp1 : Kp (fun _ => False) w w1 := hkp.trans (Kp.of_grown (S := fun b => b = w.heap.size) hg1 (fun b hb => by cases hb; rfl)) (fun b hb e => by omega)
      have hrow1 := ownsRow_kp hrow (Kp.of_grown (S := fun b => b = w.heap.size) hg1 (fun b hb => by cases hb; rfl)) (fun b hb e => by have := (hrow.lt b hb).1; omega)
      have HX : Hid (∀ k', left' (.string k') = false ↔ (k' = k ∨ left (.string k') = false)) := fun k' => by
        by_cases e : k' = k
        · subst e; simp [hl1]
        · rw [hl2 _ (fun h => e (by injection h))]; simp [e]
      have HLK : Hid (left (.string k) = true) := hlk
      have hs1' : w.heap.size + 1 ≤ w1.heap.size := by rw [hs1]; exact HZ.out
      have HZ1 := hid_of hs1'
      have HMK := hid_of hmk
      have H1 := hid_of (H.out.kept hkp1)
      have HK8 := hid_of (HW.out k hmk)
      clear hlk hl1 hl2 hmk hs1' hg1 hs1
      have hmm := hmoms.lt
      by_cases hsp : 0 < spentX s k t
      · have d0 : decide ((0 : Int) < (spentX s k t : Int)) = true := by simpa using hsp
        have HSP := hid_of hsp
        clear hsp
        go_wp2_with (first
          | (go_at_call 81; refine x_spent H1.out k t HK8.out (HMO.out k) (fun w2 hk2 => ?_); have hrow2 := ownsRow_kp hrow1 hk2 (fun _ _ h => h); have HK2 := hid_of hk2; clear hk2)
          | (at_builtin; refine wpList_append_own_at _ rfl _ _ 142 rfl (w.heap.size + 1) 9 i0 (.string ⟨#[]⟩) 1 16 Tryz.underlying142 hi hz0 hz1 hz2 rfl (by decide) _ _ _ rfl (hrow2.alloc _) ⟨w2.heap.size, 0, none⟩ 1 1 [.string k] rfl rfl (cell_one_new _ _ _) (by simp [Value.oneCell']) (by have := HC.out; have := HN.out; unfold maxLen; omega) (by have := HC.out; have := HN.out; omega) (by have := HZ1.out; have := HK2.out.size; simp; omega) ?_; intro v' w3 hown' hgrow hnil hloc)
          | go_in)
        have hlt1 : ∀ b, Value.ownBlock u5 = some b → w.heap.size + 1 ≤ b := fun b hb => (hrow1.lt b hb).1
        have K13 : Kp (fun b => Value.ownBlock u5 = some b) w1 w3 := (HK2.out.mono (fun _ _ h => h.elim)).trans ((Kp.alloc (fun b => Value.ownBlock u5 = some b) w2 _).trans (Kp.of_grown (S := fun b => Value.ownBlock u5 = some b) hgrow (fun _ h => h)) (fun _ _ h => h)) (fun _ _ h => h)
        have hr1 := HZ1.out
        have hrg2 : frng w3 Tryz.prog 9 mm w.heap.size s.nm (encS fun k => if s.mom k = [] then none else some (sl k)) left' cnt1 := hrg1.of_block (K13.block mm hrg1.toMap.lt (fun e => by have := hlt1 _ e; omega)) (K13.block _ (by omega) (fun e => by have := hlt1 _ e; omega))
        go_roundw
        case rel =>
          refine ⟨left', cnt1, ks ++ [k], hrg2, hkp1.trans K13 (fun b hb e => by have := hlt1 _ e; omega), by simpa using hown', fun k' => ?_, by have := HC.out; simp; omega, Nat.le_trans HZ1.out K13.size, List.nodup_append.2 ⟨HND.out, by simp, fun a ha b hb => by simp at hb; subst hb; intro e; subst e; have := ((HM.out a).1 ha).2.1; rw [HLK.out] at this; cases this⟩⟩
          rw [List.mem_append, List.mem_singleton, HM.out k', HX.out k']
          constructor
          · rintro (⟨h1, h2, h3⟩ | rfl)
            · exact ⟨h1, Or.inr h2, h3⟩
            · exact ⟨HMK.out, Or.inl rfl, HSP.out⟩
          · rintro ⟨h1, h2 | h2, h3⟩
            · exact Or.inr h2
            · exact Or.inl ⟨h1, h2, h3⟩
        case measure => rw [hrg2.left_eq, hrg.left_eq]; exact hlt
      · have d0 : decide ((0 : Int) < (spentX s k t : Int)) = false := by simpa using hsp
        have HSP := hid_of hsp
        clear hsp
        go_wp2_with (first
          | (go_at_call 81; refine x_spent H1.out k t HK8.out (HMO.out k) (fun w2 hk2 => ?_); have hrow2 := ownsRow_kp hrow1 hk2 (fun _ _ h => h); have HK2 := hid_of hk2; clear hk2)
          | go_in)
        have hr1 := HZ1.out
        have hrg2 : frng w2 Tryz.prog 9 mm w.heap.size s.nm (encS fun k => if s.mom k = [] then none else some (sl k)) left' cnt1 := hrg1.of_block (HK2.out.block mm hrg1.toMap.lt (fun e => e)) (HK2.out.block _ (by omega) (fun e => e))
        go_roundw
        case rel =>
          refine ⟨left', cnt1, ks, hrg2, hkp1.trans HK2.out (fun _ _ h => h), hrow2, fun k' => ?_, by have := HC.out; omega, Nat.le_trans HZ1.out HK2.out.size, HND.out⟩
          rw [HM.out k', HX.out k']
          constructor
          · rintro ⟨h1, h2, h3⟩; exact ⟨h1, Or.inr h2, h3⟩
          · rintro ⟨h1, h2 | h2, h3⟩
            · subst h2; exact absurd h3 HSP.out
            · exact ⟨h1, h2, h3⟩
        case measure => rw [hrg2.left_eq, hrg.left_eq]; exact hlt

end

end Go.Proofs.YthbdpfccfcceiaaGreatDoor
