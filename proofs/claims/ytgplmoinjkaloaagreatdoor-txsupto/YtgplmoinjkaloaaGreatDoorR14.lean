/-
  The document's answer: Ask and Range: a list of versions at a moment of a span.
-/
import Derived.Test.YtgplmoinjkaloaaGreatDoorR11R12
namespace Go.Proofs.YtgplmoinjkaloaaGreatDoor
open Go.RowKit

section
variable {w : World}
variable {R : Ending → World → Prop}

set_option maxRecDepth 20000 in
set_option maxHeartbeats 1000000 in
theorem ask_any {base e : Nat} (l : List YV) (v : Value) (lo hi t : Int) (key : ByteArray) (hl : l.length < 1000000) (hkl : key.size ≤ maxLen) (hrow : w.ownsRow base e 4 v l.length (cellsV l))
    (h1 : isKey key = false → R (.returned (.tuple #[.string eb, .int .i64 1])) w)
    (h2 : isKey key = true → t < lo → R (.returned (.tuple #[.string eb, .int .i64 6])) w)
    (h3 : isKey key = true → ¬ t < lo → hi < t → R (.returned (.tuple #[.string eb, .int .i64 7])) w)
    (h4 : isKey key = true → ¬ t < lo → ¬ hi < t → ∀ r w', AtIs l t key r → r.2 = false → Kp (fun _ => False) w w' → R (.returned (.tuple #[.string eb, .int .i64 5])) w')
    (h5 : isKey key = true → ¬ t < lo → ¬ hi < t → ∀ r w', AtIs l t key r → r.2 = true → Kp (fun _ => False) w w' → R (.returned (.tuple #[.string r.1, .int .i64 0])) w') :
    Calls Tryz.prog 67 #[v, .int .i64 lo, .int .i64 hi, .int .i64 t, .string key] w R := by
  have HK : Hid (key.size ≤ maxLen) := hkl
  have HL : Hid (l.length < 1000000) := hl
  have HW : Hid (w.ownsRow base e 4 v l.length (cellsV l)) := hrow
  obtain ⟨av, cap, rfl, _⟩ := row_len hrow
  cases hb : isKey key with
  | false =>
    have HR := h1 hb
    clear h1 h2 h3 h4 h5 hkl hl hrow
    go_enter Tryz.func67, Tryz.ntmps67
    go_wp2_with (first
      | (go_at_call 116; refine (refKey_any _ _ HK.out).mono ?_; rintro e w' ⟨rfl, rfl⟩)
      | go_in)
    exact HR
  | true =>
    by_cases ht : t < lo
    · have HR := h2 hb ht
      clear h1 h2 h3 h4 h5 hkl hl hrow
      go_enter Tryz.func67, Tryz.ntmps67
      go_wp2_with (first
        | (go_at_call 116; refine (refKey_any _ _ HK.out).mono ?_; rintro e w' ⟨rfl, rfl⟩)
        | go_in)
      exact HR
    · by_cases hh : hi < t
      · have HR := h3 hb ht hh
        clear h1 h2 h3 h4 h5 hkl hl hrow
        go_enter Tryz.func67, Tryz.ntmps67
        go_wp2_with (first
          | (go_at_call 116; refine (refKey_any _ _ HK.out).mono ?_; rintro e w' ⟨rfl, rfl⟩)
          | go_in)
        exact HR
      · have HR4 : Hid (∀ r w', AtIs l t key r → r.2 = false → Kp (fun _ => False) w w' → R (.returned (.tuple #[.string eb, .int .i64 5])) w') := h4 hb ht hh
        have HR5 : Hid (∀ r w', AtIs l t key r → r.2 = true → Kp (fun _ => False) w w' → R (.returned (.tuple #[.string r.1, .int .i64 0])) w') := h5 hb ht hh
        clear h1 h2 h3 h4 h5 hkl hl hrow
        go_enter Tryz.func67, Tryz.ntmps67
        go_wp2_with (first
          | (go_at_call 116; refine (refKey_any _ _ HK.out).mono ?_; rintro e w' ⟨rfl, rfl⟩)
          | (go_at_call 117; refine at_any l _ t key _ HL.out HW.out (fun r w1 hr hk1 => ?_); obtain ⟨r1, r2⟩ := r; have HSE : Hid _ := hr; clear hr; cases r2)
          | go_in)
        · exact HR4.out _ w1 HSE.out rfl hk1
        · exact HR5.out _ w1 HSE.out rfl hk1

/-- What a function of the keys must be to tell what a list has at a moment. -/
def ToldBy (l : List YV) (t : Int) (g : ByteArray → ByteArray × Bool) : Prop := ∀ k r, AtIs l t k r → r.2 = (g k).2 ∧ (r.2 = true → r.1 = (g k).1)

set_option maxRecDepth 20000 in
set_option maxHeartbeats 4000000 in
theorem range_any {base e : Nat} (l : List YV) (v : Value) (lo hi t : Int) (f u : ByteArray) (g : ByteArray → ByteArray × Bool) (hg : ToldBy l t g) (hl : l.length < 1000000) (hrow : w.ownsRow base e 4 v l.length (cellsV l))
    (h1 : t < lo → R (.returned (.tuple #[.slice none 0 0, .int .i64 6])) w)
    (h2 : ¬ t < lo → hi < t → R (.returned (.tuple #[.slice none 0 0, .int .i64 7])) w)
    (h3 : ¬ t < lo → ¬ hi < t → ∀ w' v' (ks : List ByteArray), Kp (fun _ => False) w w' → ks.Pairwise blt → (∀ k, k ∈ ks ↔ (∃ y ∈ l, y.key = k) ∧ inR f u k = true) → ks.length ≤ l.length →
      w'.ownsRow w.heap.size 95 2 v' (ks.filterMap (pairOf g)).length (cells2 (ks.filterMap (pairOf g))) → R (.returned (.tuple #[v', .int .i64 0])) w') :
    Calls Tryz.prog 70 #[v, .int .i64 lo, .int .i64 hi, .int .i64 t, .string f, .string u] w R := by
  obtain ⟨al, cl, hvl⟩ := vrow_of hrow
  have hval := hvl.val
  subst hval
  by_cases ht : t < lo
  · have HR := h1 ht
    clear h1 h2 h3 hg hl hrow hvl
    go_enter Tryz.func70, Tryz.ntmps70
    go_wp2
    exact HR
  · by_cases hh : hi < t
    · have HR := h2 ht hh
      clear h1 h2 h3 hg hl hrow hvl
      go_enter Tryz.func70, Tryz.ntmps70
      go_wp2
      exact HR
    · have HR : Hid (∀ w' v' (ks : List ByteArray), Kp (fun _ => False) w w' → ks.Pairwise blt → (∀ k, k ∈ ks ↔ (∃ y ∈ l, y.key = k) ∧ inR f u k = true) → ks.length ≤ l.length →
          w'.ownsRow w.heap.size 95 2 v' (ks.filterMap (pairOf g)).length (cells2 (ks.filterMap (pairOf g))) → R (.returned (.tuple #[v', .int .i64 0])) w') := h3 ht hh
      have HG : Hid (ToldBy l t g) := hg
      have HL : Hid (l.length < 1000000) := hl
      have HW : Hid (w.ownsRow base e 4 (.slice al l.length cl) l.length (cellsV l)) := hrow
      have HVL : Hid (VRow w (.slice al l.length cl) l al cl) := hvl
      have HNIL : Hid (VRow w (.slice none 0 0) [] none 0) := ⟨rfl, fun j hj => absurd hj (by simp)⟩
      obtain ⟨i0, hi0, hz0, hz1, hz2⟩ := info_parts infoPair
      have HI : Hid (Tryz.prog.info? 95 = some i0 ∧ i0.zero = some (.agg #[.string ⟨#[]⟩, .string ⟨#[]⟩]) ∧ i0.size = 2 ∧ i0.bytes = 32) := ⟨hi0, hz0, hz1, hz2⟩
      clear h1 h2 h3 hg hl hrow hvl hi0 hz0 hz1 hz2
      go_enter Tryz.func70, Tryz.ntmps70
      go_wp2_with (first
        | (go_at_call 118; refine keys_any l [] (.slice al l.length cl) (.slice none 0 0) al none cl 0 f u w HL.out (by decide) HVL.out HNIL.out ?_; intro w1 v1 ks hk1 hrow hsort hmem hlen; have HK1 : Hid (Kp (fun _ => False) w w1) := hk1; have hrow' : w1.ownsRow w.heap.size 9 1 v1 ks.length (ks.map Value.string) := hrow; obtain ⟨a1, cap1, rfl, hcell⟩ := row_cell hrow'; have HC : Hid _ := hcell; have HSO : Hid (ks.Pairwise blt) := hsort; have HME : Hid _ := hmem; have HLE : Hid _ := hlen; clear hcell hrow hsort hmem hlen hrow' hk1)
        | fail)
      go_loopw [15, 16] (fun v15 v16 wr => ∃ i : Nat, i ≤ ks.length ∧ v16 = .int .i64 i ∧ Kp (fun _ => False) w1 wr ∧ wr.ownsRow w1.heap.size 95 2 v15 ((ks.take i).filterMap (pairOf g)).length (cells2 ((ks.take i).filterMap (pairOf g))))
        (fun _ v16 _ => ks.length - (intOf v16).toNat)
      case atStart => exact ⟨0, Nat.zero_le _, rfl, Kp.refl _ _, World.ownsRow_nil _ _ _ _⟩
      case round =>
        obtain ⟨i, hile, rfl, hkp, hown⟩ := hrel
        by_cases hlt : i < ks.length
        · obtain ⟨gk, rfl, hg1, hg2, hcell⟩ := HC.out (fun h => by rw [h] at hlt; simp at hlt)
          have hck : wr.cell? ⟨gk, i, none⟩ = some (.string ks[i]) := (hkp.cell (a := ⟨gk, i, none⟩) hg2 (fun h => h)).trans (hcell i hlt)
          have htk : ks.take (i + 1) = ks.take i ++ [ks[i]] := List.take_succ_eq_append_getElem hlt
          have HT2 : Hid _ := htk
          have hlt' : (i : Int) < ks.length := by omega
          have hi1 : (i : Int) ≤ 2000000 := by have h1 := HLE.out; have h2 := HL.out; rw [List.length_nil, Nat.add_zero] at h1; omega
          have hlenps : Hid (((ks.take i).filterMap (pairOf g)).length ≤ 2000000) := by
            show _ ≤ _
            have h1 := List.length_filterMap_le (pairOf g) (ks.take i)
            have h2 : (ks.take i).length ≤ i := by simp [List.length_take]; omega
            omega
          have HROW : Hid (wr.ownsRow base e 4 (.slice al l.length cl) l.length (cellsV l)) := ownsRow_kp HW.out (HK1.out.trans hkp (fun _ _ h => h)) (fun _ _ h => h)
          have HKP : Hid (Kp (fun _ => False) w1 wr) := hkp
          generalize hkeq : ks[i] = k at *
          clear htk hkp hcell
          cases hs : (g k).2
          · go_wp2_with (first
              | (go_at_call 117; refine at_any l _ t k wr HL.out HROW.out (fun r w2 hr hk2 => ?_); have HK2 : Hid (Kp (fun _ => False) wr w2) := hk2; have hgk := HG.out k r hr; rw [hs] at hgk; obtain ⟨r1, r2⟩ := r; obtain ⟨hgk1, hgk2⟩ := hgk; clear hk2 hr; dsimp only at hgk1 hgk2; subst hgk1)
              | go_in)
            go_roundw
            case rel =>
              refine ⟨i + 1, by omega, by go_num, HKP.out.trans HK2.out (fun _ _ h => h), ?_⟩
              have hp0 : (ks.take (i + 1)).filterMap (pairOf g) = (ks.take i).filterMap (pairOf g) := by rw [HT2.out, List.filterMap_append]; simp [pairOf, hs]
              rw [hp0]
              exact ownsRow_kp hown HK2.out (fun _ _ h => h)
            case measure => simp [intOf]; omega
          · go_wp2_with (first
              | (go_at_call 117; refine at_any l _ t k wr HL.out HROW.out (fun r w2 hr hk2 => ?_); have HK2 : Hid (Kp (fun _ => False) wr w2) := hk2; have hgk := HG.out k r hr; rw [hs] at hgk; obtain ⟨r1, r2⟩ := r; obtain ⟨hgk1, hgk2⟩ := hgk; have hown2 := ownsRow_kp hown hk2 (fun _ _ h => h); have hck2 := (hk2.cell (a := ⟨gk, i, none⟩) (World.block_lt_of_cell? wr _ hck) (fun h => h)).trans hck; clear hk2 hr; dsimp only at hgk1 hgk2; subst hgk1; have hgk3 := hgk2 rfl; clear hgk2; subst hgk3)
              | (at_builtin; refine wpList_append_own_at _ rfl _ _ 43 rfl w1.heap.size 95 i0 (.agg #[.string ⟨#[]⟩, .string ⟨#[]⟩]) 2 32 Tryz.underlying43 HI.out.1 HI.out.2.1 HI.out.2.2.1 HI.out.2.2.2 rfl (by decide) _ _ _ rfl (hown2.alloc _) ⟨w2.heap.size, 0, none⟩ 1 1 [.string k, .string (g k).1] rfl rfl (two_new _ _ _ _) (by simp [Value.oneCell']) (by have := hlenps.out; unfold maxLen; omega) (by have := hlenps.out; omega) (by have := HKP.out.size; have := HK2.out.size; simp; omega) ?_; intro v' w3 hown' hgrow hnil hloc)
              | go_in)
            have hb1 : ∀ b, Value.ownBlock u15 = some b → w1.heap.size ≤ b := fun b hb => (hown2.lt b hb).1
            go_roundw
            case rel =>
              refine ⟨i + 1, by omega, by go_num, ((HKP.out.trans HK2.out (fun _ _ h => h)).trans ((Kp.alloc (fun b => Value.ownBlock u15 = some b) w2 _).trans (Kp.of_grown (S := fun b => Value.ownBlock u15 = some b) hgrow (fun _ h => h)) (fun _ _ h => h)) (fun b hb h => by have := hb1 b h; omega)), ?_⟩
              have hp0 : (ks.take (i + 1)).filterMap (pairOf g) = (ks.take i).filterMap (pairOf g) ++ [(k, (g k).1)] := by rw [HT2.out, List.filterMap_append]; simp [pairOf, hs]
              rw [hp0, List.length_append, ← cells2_snoc]
              exact hown'
            case measure => simp [intOf]; omega
        · have hie : i = ks.length := by omega
          subst hie
          rw [List.take_length] at hown
          go_wp2_with fail
          refine HR.out wr u15 ks (HK1.out.trans hkp (fun _ _ h => h)) HSO.out (by simpa using HME.out) (by simpa using HLE.out) ⟨hown.1, hown.2.imp id (fun ⟨g, cap, cur, e1, e2, e3⟩ => ⟨g, cap, cur, e1, Nat.le_trans HK1.out.size e2, e3⟩)⟩

end

end Go.Proofs.YtgplmoinjkaloaaGreatDoor
