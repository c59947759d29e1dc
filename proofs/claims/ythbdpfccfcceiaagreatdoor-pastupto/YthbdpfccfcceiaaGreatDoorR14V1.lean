/-
  The document's answer: Ask and Range: a list of versions at a moment of a span.
  What may be asked by moments: covers, AsOf, Retain's answers, Stored, told of the store's plain state.
-/
import Derived.Test.YthbdpfccfcceiaaGreatDoorR11R12
import Derived.Test.YthbdpfccfcceiaaGreatDoorC2L1L2
namespace Go.Proofs.YthbdpfccfcceiaaGreatDoor
open Go.RowKit

section
variable {w : World}
variable {R : Ending → World → Prop}

set_option maxRecDepth 20000 in
set_option maxHeartbeats 1000000 in
theorem ask_any {base e : Nat} (l : List YV) (v : Value) (lo hi t : Int) (key : ByteArray) (hl : l.length < 1000000) (hkl : key.size ≤ maxLen) (hrow : w.ownsRow base e 4 v l.length (cellsV l))
    (h1 : isKey key = false → R (.returned (.tuple #[.string eb, .int .i64 1])) w)
    (h2 : isKey key = true → t < lo → R (.returned (.tuple #[.string eb, .int .i64 6])) w)
    (h3 : isKey key = true → ¬ t < lo → hi < t → R (.returned (.tuple #[.string eb, .int .i64 7])) w)
    (h4 : isKey key = true → ¬ t < lo → ¬ hi < t → ∀ r w', AtIs l t key r → r.2 = false → Kp (fun _ => False) w w' → R (.returned (.tuple #[.string eb, .int .i64 5])) w')
    (h5 : isKey key = true → ¬ t < lo → ¬ hi < t → ∀ r w', AtIs l t key r → r.2 = true → Kp (fun _ => False) w w' → R (.returned (.tuple #[.string r.1, .int .i64 0])) w') :
    Calls Tryz.prog 97 #[v, .int .i64 lo, .int .i64 hi, .int .i64 t, .string key] w R := by
  have HK : Hid (key.size ≤ maxLen) := hkl
  have HL : Hid (l.length < 1000000) := hl
  have HW : Hid (w.ownsRow base e 4 v l.length (cellsV l)) := hrow
  obtain ⟨av, cap, rfl, _⟩ := row_len hrow
  cases hb : isKey key with
  | false =>
    have HR := h1 hb
    clear h1 h2 h3 h4 h5 hkl hl hrow
    go_enter Tryz.func97, Tryz.ntmps97
    go_wp2_with (first
      | (go_at_call 151; refine (refKey_any _ _ HK.out).mono ?_; rintro e w' ⟨rfl, rfl⟩)
      | go_in)
    exact HR
  | true =>
    by_cases ht : t < lo
    · have HR := h2 hb ht
      clear h1 h2 h3 h4 h5 hkl hl hrow
      go_enter Tryz.func97, Tryz.ntmps97
      go_wp2_with (first
        | (go_at_call 151; refine (refKey_any _ _ HK.out).mono ?_; rintro e w' ⟨rfl, rfl⟩)
        | go_in)
      exact HR
    · by_cases hh : hi < t
      · have HR := h3 hb ht hh
        clear h1 h2 h3 h4 h5 hkl hl hrow
        go_enter Tryz.func97, Tryz.ntmps97
        go_wp2_with (first
          | (go_at_call 151; refine (refKey_any _ _ HK.out).mono ?_; rintro e w' ⟨rfl, rfl⟩)
          | go_in)
        exact HR
      · have HR4 : Hid (∀ r w', AtIs l t key r → r.2 = false → Kp (fun _ => False) w w' → R (.returned (.tuple #[.string eb, .int .i64 5])) w') := h4 hb ht hh
        have HR5 : Hid (∀ r w', AtIs l t key r → r.2 = true → Kp (fun _ => False) w w' → R (.returned (.tuple #[.string r.1, .int .i64 0])) w') := h5 hb ht hh
        clear h1 h2 h3 h4 h5 hkl hl hrow
        go_enter Tryz.func97, Tryz.ntmps97
        go_wp2_with (first
          | (go_at_call 151; refine (refKey_any _ _ HK.out).mono ?_; rintro e w' ⟨rfl, rfl⟩)
          | (go_at_call 152; refine at_any l _ t key _ HL.out HW.out (fun r w1 hr hk1 => ?_); obtain ⟨r1, r2⟩ := r; have HSE : Hid _ := hr; clear hr; cases r2)
          | go_in)
        · exact HR4.out _ w1 HSE.out rfl hk1
        · exact HR5.out _ w1 HSE.out rfl hk1

/-- What a function of the keys must be to tell what a list has at a moment. -/
def ToldBy (l : List YV) (t : Int) (g : ByteArray → ByteArray × Bool) : Prop := ∀ k r, AtIs l t k r → r.2 = (g k).2 ∧ (r.2 = true → r.1 = (g k).1)

set_option maxRecDepth 20000 in
set_option maxHeartbeats 4000000 in
theorem range_any {base e : Nat} (l : List YV) (v : Value) (lo hi t : Int) (f u : ByteArray) (g : ByteArray → ByteArray × Bool) (hg : ToldBy l t g) (hl : l.length < 1000000) (hrow : w.ownsRow base e 4 v l.length (cellsV l))
    (h1 : t < lo → R (.returned (.tuple #[.slice none 0 0, .int .i64 6])) w)
    (h2 : ¬ t < lo → hi < t → R (.returned (.tuple #[.slice none 0 0, .int .i64 7])) w)
    (h3 : ¬ t < lo → ¬ hi < t → ∀ w' v' (ks : List ByteArray), Kp (fun _ => False) w w' → ks.Pairwise blt → (∀ k, k ∈ ks ↔ (∃ y ∈ l, y.key = k) ∧ inR f u k = true) → ks.length ≤ l.length →
      w'.ownsRow w.heap.size 105 2 v' (ks.filterMap (pairOf g)).length (cells2 (ks.filterMap (pairOf g))) → R (.returned (.tuple #[v', .int .i64 0])) w') :
    Calls Tryz.prog 99 #[v, .int .i64 lo, .int .i64 hi, .int .i64 t, .string f, .string u] w R := by
  obtain ⟨al, cl, hvl⟩ := vrow_of hrow
  have hval := hvl.val
  subst hval
  by_cases ht : t < lo
  · have HR := h1 ht
    clear h1 h2 h3 hg hl hrow hvl
    go_enter Tryz.func99, Tryz.ntmps99
    go_wp2
    exact HR
  · by_cases hh : hi < t
    · have HR := h2 ht hh
      clear h1 h2 h3 hg hl hrow hvl
      go_enter Tryz.func99, Tryz.ntmps99
      go_wp2
      exact HR
    · have HR : Hid (∀ w' v' (ks : List ByteArray), Kp (fun _ => False) w w' → ks.Pairwise blt → (∀ k, k ∈ ks ↔ (∃ y ∈ l, y.key = k) ∧ inR f u k = true) → ks.length ≤ l.length →
          w'.ownsRow w.heap.size 105 2 v' (ks.filterMap (pairOf g)).length (cells2 (ks.filterMap (pairOf g))) → R (.returned (.tuple #[v', .int .i64 0])) w') := h3 ht hh
      have HG : Hid (ToldBy l t g) := hg
      have HL : Hid (l.length < 1000000) := hl
      have HW : Hid (w.ownsRow base e 4 (.slice al l.length cl) l.length (cellsV l)) := hrow
      have HVL : Hid (VRow w (.slice al l.length cl) l al cl) := hvl
      have HNIL : Hid (VRow w (.slice none 0 0) [] none 0) := ⟨rfl, fun j hj => absurd hj (by simp)⟩
      obtain ⟨i0, hi0, hz0, hz1, hz2⟩ := info_parts infoPair
      have HI : Hid (Tryz.prog.info? 105 = some i0 ∧ i0.zero = some (.agg #[.string ⟨#[]⟩, .string ⟨#[]⟩]) ∧ i0.size = 2 ∧ i0.bytes = 32) := ⟨hi0, hz0, hz1, hz2⟩
      clear h1 h2 h3 hg hl hrow hvl hi0 hz0 hz1 hz2
      go_enter Tryz.func99, Tryz.ntmps99
      go_wp2_with (first
        | (go_at_call 153; refine keys_any l [] (.slice al l.length cl) (.slice none 0 0) al none cl 0 f u w HL.out (by decide) HVL.out HNIL.out ?_; intro w1 v1 ks hk1 hrow hsort hmem hlen; have HK1 : Hid (Kp (fun _ => False) w w1) := hk1; have hrow' : w1.ownsRow w.heap.size 9 1 v1 ks.length (ks.map Value.string) := hrow; obtain ⟨a1, cap1, rfl, hcell⟩ := row_cell hrow'; have HC : Hid _ := hcell; have HSO : Hid (ks.Pairwise blt) := hsort; have HME : Hid _ := hmem; have HLE : Hid _ := hlen; clear hcell hrow hsort hmem hlen hrow' hk1)
        | fail)
      go_loopw [15, 16] (fun v15 v16 wr => ∃ i : Nat, i ≤ ks.length ∧ v16 = .int .i64 i ∧ Kp (fun _ => False) w1 wr ∧ wr.ownsRow w1.heap.size 105 2 v15 ((ks.take i).filterMap (pairOf g)).length (cells2 ((ks.take i).filterMap (pairOf g))))
        (fun _ v16 _ => ks.length - (intOf v16).toNat)
      case atStart => exact ⟨0, Nat.zero_le _, rfl, Kp.refl _ _, World.ownsRow_nil _ _ _ _⟩
      case round =>
        obtain ⟨i, hile, rfl, hkp, hown⟩ := hrel
        by_cases hlt : i < ks.length
        · obtain ⟨gk, rfl, hg1, hg2, hcell⟩ := HC.out (fun h => by rw [h] at hlt; simp at hlt)
          have hck : wr.cell? ⟨gk, i, none⟩ = some (.string ks[i]) := (hkp.cell (a := ⟨gk, i, none⟩) hg2 (fun h => h)).trans (hcell i hlt)
          have htk : ks.take (i + 1) = ks.take i ++ [ks[i]] := List.take_succ_eq_append_getElem hlt
          have HT2 : Hid _ := htk
          have hlt' : (i : Int) < ks.length := by omega
          have hi1 : (i : Int) ≤ 2000000 := by have h1 := HLE.out; have h2 := HL.out; rw [List.length_nil, Nat.add_zero] at h1; omega
          have hlenps : Hid (((ks.take i).filterMap (pairOf g)).length ≤ 2000000) := by
            show _ ≤ _
            have h1 := List.length_filterMap_le (pairOf g) (ks.take i)
            have h2 : (ks.take i).length ≤ i := by simp [List.length_take]; omega
            omega
          have HROW : Hid (wr.ownsRow base e 4 (.slice al l.length cl) l.length (cellsV l)) := ownsRow_kp HW.out (HK1.out.trans hkp (fun _ _ h => h)) (fun _ _ h => h)
          have HKP : Hid (Kp (fun _ => False) w1 wr) := hkp
          generalize hkeq : ks[i] = k at *
          clear htk hkp hcell
          cases hs : (g k).2
          · go_wp2_with (first
              | (go_at_call 152; refine at_any l _ t k wr HL.out HROW.out (fun r w2 hr hk2 => ?_); have HK2 : Hid (Kp (fun _ => False) wr w2) := hk2; have hgk := HG.out k r hr; rw [hs] at hgk; obtain ⟨r1, r2⟩ := r; obtain ⟨hgk1, hgk2⟩ := hgk; clear hk2 hr; dsimp only at hgk1 hgk2; subst hgk1)
              | go_in)
            go_roundw
            case rel =>
              refine ⟨i + 1, by omega, by go_num, HKP.out.trans HK2.out (fun _ _ h => h), ?_⟩
              have hp0 : (ks.take (i + 1)).filterMap (pairOf g) = (ks.take i).filterMap (pairOf g) := by rw [HT2.out, List.filterMap_append]; simp [pairOf, hs]
              rw [hp0]
              exact ownsRow_kp hown HK2.out (fun _ _ h => h)
            case measure => simp [intOf]; omega
          · go_wp2_with (first
              | (go_at_call 152; refine at_any l _ t k wr HL.out HROW.out (fun r w2 hr hk2 => ?_); have HK2 : Hid (Kp (fun _ => False) wr w2) := hk2; have hgk := HG.out k r hr; rw [hs] at hgk; obtain ⟨r1, r2⟩ := r; obtain ⟨hgk1, hgk2⟩ := hgk; have hown2 := ownsRow_kp hown hk2 (fun _ _ h => h); have hck2 := (hk2.cell (a := ⟨gk, i, none⟩) (World.block_lt_of_cell? wr _ hck) (fun h => h)).trans hck; clear hk2 hr; dsimp only at hgk1 hgk2; subst hgk1; have hgk3 := hgk2 rfl; clear hgk2; subst hgk3)
              | (at_builtin; refine wpList_append_own_at _ rfl _ _ 43 rfl w1.heap.size 105 i0 (.agg #[.string ⟨#[]⟩, .string ⟨#[]⟩]) 2 32 Tryz.underlying43 HI.out.1 HI.out.2.1 HI.out.2.2.1 HI.out.2.2.2 rfl (by decide) _ _ _ rfl (hown2.alloc _) ⟨w2.heap.size, 0, none⟩ 1 1 [.string k, .string (g k).1] rfl rfl (two_new _ _ _ _) (by simp [Value.oneCell']) (by have := hlenps.out; unfold maxLen; omega) (by have := hlenps.out; omega) (by have := HKP.out.size; have := HK2.out.size; simp; omega) ?_; intro v' w3 hown' hgrow hnil hloc)
              | go_in)
            have hb1 : ∀ b, Value.ownBlock u15 = some b → w1.heap.size ≤ b := fun b hb => (hown2.lt b hb).1
            go_roundw
            case rel =>
              refine ⟨i + 1, by omega, by go_num, ((HKP.out.trans HK2.out (fun _ _ h => h)).trans ((Kp.alloc (fun b => Value.ownBlock u15 = some b) w2 _).trans (Kp.of_grown (S := fun b => Value.ownBlock u15 = some b) hgrow (fun _ h => h)) (fun _ _ h => h)) (fun b hb h => by have := hb1 b h; omega)), ?_⟩
              have hp0 : (ks.take (i + 1)).filterMap (pairOf g) = (ks.take i).filterMap (pairOf g) ++ [(k, (g k).1)] := by rw [HT2.out, List.filterMap_append]; simp [pairOf, hs]
              rw [hp0, List.length_append, ← cells2_snoc]
              exact hown'
            case measure => simp [intOf]; omega
        · have hie : i = ks.length := by omega
          subst hie
          rw [List.take_length] at hown
          go_wp2_with fail
          refine HR.out wr u15 ks (HK1.out.trans hkp (fun _ _ h => h)) HSO.out (by simpa using HME.out) (by simpa using HLE.out) ⟨hown.1, hown.2.imp id (fun ⟨g, cap, cur, e1, e2, e3⟩ => ⟨g, cap, cur, e1, Nat.le_trans HK1.out.size e2, e3⟩)⟩

end

end Go.Proofs.YthbdpfccfcceiaaGreatDoor

namespace Go.Proofs.YthbdpfccfcceiaaGreatDoor
open Go.RowKit Go.Maps

section
variable {own own' : Nat → Lab} {c : Nat} {w w' : World} {p : Nat} {s : XS} {mo ph mv mm : Nat} {pt mw : Int → Nat} {sl : ByteArray → Value}
variable {R : Ending → World → Prop}

set_option maxRecDepth 20000 in
set_option maxHeartbeats 400000 in
theorem x_covers (h : XR own c w p s mo ph mv mm pt mw sl) (t : Int)
    (h1 : t < s.hor → R (.returned (.int .i64 6)) w)
    (h2 : ¬ t < s.hor → s.now < t → R (.returned (.int .i64 7)) w)
    (h3 : ¬ t < s.hor → ¬ s.now < t → R (.returned (.int .i64 0)) w) :
    Calls Tryz.prog 44 #[.pointer (some ⟨p, 0, none⟩), .int .i64 t] w R := by
  have c1 : w.cell? ⟨p, 1, none⟩ = some (.int .i64 s.hor) := cell_of h.store 1
  have c2 : w.cell? ⟨p, 2, none⟩ = some (.int .i64 s.now) := cell_of h.store 2
  clear h
  by_cases q1 : t < s.hor
  · have d1 : decide (t < s.hor) = true := by simpa using q1
    have HR := hid_of (h1 q1)
    clear h1 h2 h3
    go_enter Tryz.func44, Tryz.ntmps44
    go_wp2
    exact HR.out
  · have d1 : decide (t < s.hor) = false := by simpa using q1
    by_cases q2 : s.now < t
    · have d2 : decide (s.now < t) = true := by simpa using q2
      have HR := hid_of (h2 q1 q2)
      clear h1 h2 h3
      go_enter Tryz.func44, Tryz.ntmps44
      go_wp2
      exact HR.out
    · have d2 : decide (s.now < t) = false := by simpa using q2
      have HR := hid_of (h3 q1 q2)
      clear h1 h2 h3
      go_enter Tryz.func44, Tryz.ntmps44
      go_wp2
      exact HR.out

set_option maxRecDepth 20000 in
set_option maxHeartbeats 400000 in
theorem x_asof0 (h : XR own c w p s mo ph mv mm pt mw sl) (t : Int) (key : ByteArray) (hkl : key.size ≤ maxLen) (hm : ∀ k, MomOk s k)
    (h1 : isKey key = false → R (.returned (.tuple #[.string eb, .int .i64 1])) w)
    (h2 : isKey key = true → t < s.hor → R (.returned (.tuple #[.string eb, .int .i64 6])) w)
    (h3 : isKey key = true → ¬ t < s.hor → s.now < t → R (.returned (.tuple #[.string eb, .int .i64 7])) w)
    (h4 : isKey key = true → ¬ t < s.hor → ¬ s.now < t → (valAt s key t).2 = false → ∀ w', Kp (fun _ => False) w w' → R (.returned (.tuple #[.string eb, .int .i64 5])) w')
    (h5 : isKey key = true → ¬ t < s.hor → ¬ s.now < t → (valAt s key t).2 = true → ∀ w', Kp (fun _ => False) w w' → R (.returned (.tuple #[.string (valAt s key t).1, .int .i64 0])) w') :
    Calls Tryz.prog 56 #[.pointer (some ⟨p, 0, none⟩), .int .i64 t, .string key] w R := by
  have H := hid_of h
  have HK := hid_of hkl
  have HM := hid_of hm
  have c3 : w.cell? ⟨p, 0, none⟩ = some (.pointer (some ⟨ph, 0, none⟩)) := cell_of h.store 0
  clear h hkl hm
  cases hb : isKey key with
  | false =>
    have HR := hid_of (h1 hb)
    clear h1 h2 h3 h4 h5
    go_enter Tryz.func56, Tryz.ntmps56
    go_wp2_with (first
      | (go_at_call 67; refine (isKey_any _ _ HK.out).mono ?_; rintro e w' ⟨rfl, rfl⟩)
      | go_in)
    exact HR.out
  | true =>
    have hk8 := isKey_le key hb
    have HK8 := hid_of hk8
    clear hk8
    by_cases q1 : t < s.hor
    · have HR := hid_of (h2 hb q1)
      have Q1 := hid_of q1
      clear h1 h2 h3 h4 h5 q1
      go_enter Tryz.func56, Tryz.ntmps56
      go_wp2_with (first
        | (go_at_call 67; refine (isKey_any _ _ HK.out).mono ?_; rintro e w' ⟨rfl, rfl⟩)
        | (go_at_call 44; refine x_covers H.out t (fun _ => ?_) (fun q _ => by have := Q1.out; omega) (fun q _ => by have := Q1.out; omega))
        | go_in)
      exact HR.out
    · by_cases q2 : s.now < t
      · have HR := hid_of (h3 hb q1 q2)
        have Q1 := hid_of q1
        have Q2 := hid_of q2
        clear h1 h2 h3 h4 h5 q1 q2
        go_enter Tryz.func56, Tryz.ntmps56
        go_wp2_with (first
          | (go_at_call 67; refine (isKey_any _ _ HK.out).mono ?_; rintro e w' ⟨rfl, rfl⟩)
          | (go_at_call 44; refine x_covers H.out t (fun q => by have := Q1.out; omega) (fun _ _ => ?_) (fun _ q => by have := Q2.out; omega))
          | go_in)
        exact HR.out
      · have Q1 := hid_of q1
        have Q2 := hid_of q2
        cases hv : (valAt s key t).2 with
        | false =>
          have HR := hid_of (h4 hb q1 q2 hv)
          clear h1 h2 h3 h4 h5 q1 q2
          go_enter Tryz.func56, Tryz.ntmps56
          go_wp2_with (first
            | (go_at_call 67; refine (isKey_any _ _ HK.out).mono ?_; rintro e w' ⟨rfl, rfl⟩)
            | (go_at_call 44; refine x_covers H.out t (fun q => by have := Q1.out; omega) (fun _ q => by have := Q2.out; omega) (fun _ _ => ?_))
            | (go_at_call 91; refine x_value H.out key t HK8.out (HM.out key).len (HM.out key).up (HM.out key).ver (fun w1 hk1 => ?_); have HK1 := hid_of hk1; clear hk1)
            | go_in)
          exact HR.out w1 HK1.out
        | true =>
          have HR := hid_of (h5 hb q1 q2 hv)
          clear h1 h2 h3 h4 h5 q1 q2
          go_enter Tryz.func56, Tryz.ntmps56
          go_wp2_with (first
            | (go_at_call 67; refine (isKey_any _ _ HK.out).mono ?_; rintro e w' ⟨rfl, rfl⟩)
            | (go_at_call 44; refine x_covers H.out t (fun q => by have := Q1.out; omega) (fun _ q => by have := Q2.out; omega) (fun _ _ => ?_))
            | (go_at_call 91; refine x_value H.out key t HK8.out (HM.out key).len (HM.out key).up (HM.out key).ver (fun w1 hk1 => ?_); have HK1 := hid_of hk1; clear hk1)
            | go_in)
          exact HR.out w1 HK1.out

set_option maxRecDepth 20000 in
set_option maxHeartbeats 400000 in
theorem x_asof (t : Int) (key : ByteArray)
    (hR : Calls Tryz.prog 56 #[.pointer (some ⟨p, 0, none⟩), .int .i64 t, .string key] w fun e w' => ∃ (a : ByteArray) (b : Int), e = .returned (.tuple #[.string a, .int .i64 b]) ∧ R (.returned (.tuple #[.string a, .int .i64 b])) w') :
    Calls Tryz.prog 29 #[.pointer (some ⟨p, 0, none⟩), .int .i64 t, .string key] w R := by
  have HR := hid_of hR
  clear hR
  go_enter Tryz.func29, Tryz.ntmps29
  go_wp2_with (first
    | (go_at_call 56; refine Calls.mono HR.out ?_; rintro e w1 ⟨a, b, rfl, hr⟩; have HR1 := hid_of hr; clear hr)
    | go_in)
  exact HR1.out

set_option maxRecDepth 20000 in
set_option maxHeartbeats 400000 in
theorem x_stored (h : XR own c w p s mo ph mv mm pt mw sl) (hR : R (.returned (.int .i64 s.nv)) w) :
    Calls Tryz.prog 112 #[.pointer (some ⟨p, 0, none⟩)] w R := by
  have c3 : w.cell? ⟨p, 0, none⟩ = some (.pointer (some ⟨ph, 0, none⟩)) := cell_of h.store 0
  have d0 : w.cell? ⟨ph, 0, none⟩ = some (.map (some mv)) := cell_of h.hist 0
  have hv := h.vers
  have HR := hid_of hR
  have hS : Hid (Calls Tryz.prog 163 #[.pointer (some ⟨ph, 0, none⟩)] w (fun e w' => e = .returned (.int .i64 s.nv) ∧ w' = w)) := by
    show Calls _ _ _ _ _
    clear h hR HR
    go_enter Tryz.func163, Tryz.ntmps163
    go_wp2_with (first
      | (at_len; refine wpL_len _ rfl _ 206 rfl 225 138 Tryz.underlying206 mv s.nv _ rfl hv ?_)
      | go_in)
    go_ret
    exact ⟨rfl, rfl⟩
  clear h hR hv
  go_enter Tryz.func112, Tryz.ntmps112
  go_wp2_with (first
    | (go_at_call 163; refine Calls.mono hS.out ?_; rintro e w1 ⟨rfl, rfl⟩)
    | go_in)
  exact HR.out

end

end Go.Proofs.YthbdpfccfcceiaaGreatDoor
