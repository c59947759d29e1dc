/-
  The law's book: a list of bytes that came out is written full and kept.
  The document's answer: the files of a log.
-/
import Derived.Test.YthbdpfccfcceiaaGreatDoorA1G3
import Derived.Test.YthbdpfccfcceiaaGreatDoorG12R15
import Derived.Test.YthbdpfccfcceiaaGreatDoorR13
import Derived.Test.YthbdpfccfcceiaaGreatDoorF1DA1DA2DA3
import Derived.Test.YthbdpfccfcceiaaGreatDoorF3F23F24F34
namespace Go.Proofs.YthbdpfccfcceiaaGreatDoor
open Go.RowKit

theorem row_set1 {w : World} {base e n : Nat} {v : Value} {l : List Value} (h : w.ownsRow base e 1 v n l) (i : Nat) (hi : i < n) (g cap : Nat) (hv : v = .slice (some ⟨g, 0, none⟩) n cap) (x : Value) :
    (w.setCell ⟨g, i, none⟩ x).ownsRow base e 1 v n (l.set i x) := by
  rcases h.2 with ⟨_, h0⟩ | ⟨g', cap', cur, hv', hb, hg, hn, hm, hcs, ht⟩
  · omega
  · rw [hv] at hv'; cases hv'
    refine ⟨by rw [List.length_set]; exact h.1, Or.inr ⟨g, cap, cur.setIfInBounds i x, hv, hb, heap_setCell_at hg _, hn, hm, by simpa using hcs, ?_⟩⟩
    rw [Array.toList_setIfInBounds, List.take_set, ht]

theorem fill_sign (l : List Value) (i : Nat) (h : i < l.length) (k : Int) : (signs k i ++ l.drop i).set i (signV k i) = signs k (i + 1) ++ l.drop (i + 1) := by
  rw [List.set_append_right _ _ (by simp [signs_len]), signs_succ, List.append_assoc]
  simp only [signs_len, Nat.sub_self]
  rw [List.drop_eq_getElem_cons h]
  rfl

theorem lies_new1 {w wr w7 : World} {v u : Value} {o : Obj} {e n size : Nat} {xs : List Value} (hs : w.heap.size ≤ wr.heap.size) (h : u.ownBlock = v.ownBlock ∨ u.ownBlock = some (wr.alloc o).heap.size) (hr : w7.ownsRow 0 e size u n xs) : Lies w v u w7.heap.size := by
  intro b hb
  rcases h with h | h
  · exact Or.inl (h ▸ hb)
  · right
    refine ⟨?_, (hr.lt b hb).2⟩
    rw [h] at hb
    injection hb with hb
    simp at hb
    omega

theorem three_newB (w : World) (a b c : Value) (t : TypeId) : ∀ j u, [a, b, c][j]? = some u → (w.alloc (.cells #[a, b, c] t)).cell? ((⟨w.heap.size, 0, none⟩ : Addr).add j) = some u := fun j u h => cells_new w #[a, b, c] t j u h
theorem two_newB (w : World) (a b : Value) (t : TypeId) : ∀ j u, [a, b][j]? = some u → (w.alloc (.cells #[a, b] t)).cell? ((⟨w.heap.size, 0, none⟩ : Addr).add j) = some u := fun j u h => cells_new w #[a, b] t j u h
theorem four_newI (w : World) (p i : Nat) (y x1 x2 x3 x4 : Value) (t : TypeId) : ∀ j u, [x1, x2, x3, x4][j]? = some u → ((w.setCell ⟨p, i, none⟩ y).alloc (.cells #[x1, x2, x3, x4] t)).cell? ((⟨w.heap.size, 0, none⟩ : Addr).add j) = some u := by
  have h := four_new (w.setCell ⟨p, i, none⟩ y) x1 x2 x3 x4 t
  have e : (w.setCell ⟨p, i, none⟩ y).heap.size = w.heap.size := by simp [World.setCell]
  rw [e] at h
  exact h

section
variable {R : Ending → World → Prop} {w : World}

set_option maxRecDepth 20000 in
set_option maxHeartbeats 2000000 in
theorem book_bytes (p : Nat) (cs : Array Value) (vP vK v : Value) (q n : Nat) (ps : List Value) (ks : List Value) (xs : List Value) (hq : q < 10000000000) (hn : n < 5000000)
    (hp : w.heap[p]? = some (.cells cs 68 (0, 0))) (c5 : cs[3]? = some vP) (c6 : cs[4]? = some vK)
    (hP : w.ownsRow 0 48 1 vP (4 * q) ps) (hK : w.ownsRow 0 3 1 vK (4 * q) ks) (hv : w.ownsRow 0 5 1 v n xs)
    (n1 : v.ownBlock ≠ some p) (n2 : vP.ownBlock ≠ some p) (n3 : vK.ownBlock ≠ some p) (n4 : ∀ b, vP.ownBlock = some b → v.ownBlock ≠ some b) (n5 : ∀ b, vK.ownBlock = some b → v.ownBlock ≠ some b) (n6 : ∀ b, vK.ownBlock = some b → vP.ownBlock ≠ some b)
    (hR : ∀ w' vP' vK' v1 v2 v3 s5 s6, Kp (fun b => b = p ∨ vP.ownBlock = some b ∨ vK.ownBlock = some b ∨ v.ownBlock = some b) w w' →
      w'.heap[p]? = some (.cells ((cs.setIfInBounds 3 vP').setIfInBounds 4 vK') 68 (0, 0)) →
      w'.ownsRow 0 48 1 vP' (4 * q + 4) (ps ++ [v, v1, v2, v3]) →
      w'.ownsRow 0 3 1 vK' (4 * q + 4) (ks ++ [.int .i64 (q + 1), .int .i64 (q + 1), .int .i64 (q + 1), .int .i64 (q + 1)]) →
      w'.ownsRow 0 5 1 v n (signs (q + 1) n) → w'.ownsRow 0 5 1 v1 (n + 1) (signs (q + 1) (n + 1)) →
      w'.ownsRow 0 5 1 v2 (n + 2) (signs (q + 1) (n + 2)) → w'.ownsRow 0 5 1 v3 (n + 3) (signs (q + 1) (n + 3)) →
      w.heap.size ≤ s5 → s5 ≤ s6 → Lies w v v1 s5 → Lies w v v2 s5 → Lies w v v3 s5 → (∀ b, vP'.ownBlock = some b → vP.ownBlock = some b ∨ (s5 ≤ b ∧ b < s6)) → (∀ b, vK'.ownBlock = some b → vK.ownBlock = some b ∨ s6 ≤ b) → R (.returned (.tuple #[])) w') :
    Calls Tryz.prog 120 #[.pointer (some ⟨p, 3, none⟩), v] w R := by
  obtain ⟨aP, capP, rfl, hcP⟩ := row_len hP
  obtain ⟨av, capv, rfl, hcv⟩ := row_len hv
  obtain ⟨i0, hi, hz0, hz1, hz2⟩ := info_parts infoByte
  have HI := hid_of (And.intro hi (And.intro hz0 (And.intro hz1 hz2)))
  clear hi hz0 hz1 hz2
  have hxs : xs.length = n := by have := hv.1; omega
  have HXS := hid_of hxs
  have HR := hid_of hR
  clear hR
  have HW := hid_of hp
  have C5 := hid_of c5
  have C6 := hid_of c6
  have HP := hid_of hP
  have HK := hid_of hK
  have HV := hid_of hv
  have N1 := hid_of n1
  have N2 := hid_of n2
  have N3 := hid_of n3
  have N4 := hid_of n4
  have N5 := hid_of n5
  have N6 := hid_of n6
  have d5 : w.cell? ⟨p, 3, none⟩ = some (.slice aP (4 * q) capP) := (cell_of hp 3).trans c5
  have e5 : ((4 * q : Nat) : Int) / 4 = q := by omega
  have hq' : (q : Int) < 10000000000 := by omega
  have hn' : (n : Int) < 5000000 := by omega
  clear hP hK hv hp c5 c6 n1 n2 n3 n4 n5 n6 hxs
  go_enter Tryz.func120, Tryz.ntmps120
  go_wp2
  go_loopw [6] (fun v6 wr => ∃ i : Nat, i ≤ n ∧ v6 = .int .i64 i ∧ Kp (fun b => (Value.slice av n capv).ownBlock = some b) w wr ∧ wr.ownsRow 0 5 1 (.slice av n capv) n (signs (q + 1) i ++ xs.drop i)) (fun v6 _ => n - (intOf v6).toNat)
  case atStart => exact ⟨0, Nat.zero_le _, rfl, Kp.refl _ _, by simpa [signs] using HV.out⟩
  case round =>
    obtain ⟨i, hile, rfl, hkp, hrow⟩ := hrel
    by_cases hin : i < n
    · have hin' : (i : Int) < n := by omega
      rcases hrow.2 with ⟨_, h0⟩ | ⟨g, cap, cur, hvx, hbx, hgx, hnx, hmx, hcsx, htx⟩
      · omega
      · injection hvx with hav _ hcap
        subst hav
        subst hcap
        have m0 : (wr.cell? ⟨g, i, none⟩).isSome = true := by
          rw [cell_of hgx, Array.getElem?_eq_getElem (by omega)]; rfl
        have mf0 : wr.frozen? ⟨g, i, none⟩ = false := frozen_of hgx i
        obtain ⟨x0, e0⟩ := Option.isSome_iff_exists.1 m0
        have HRS := hid_of (row_set1 hrow i hin g capv rfl (signV (q + 1) i))
        have HKP := hid_of hkp
        clear hrow hin hgx htx hcsx hnx hmx hbx m0 hkp hcP hcv e5 d5 hile
        go_wp2_with (first
          | (go_at_call 65; refine sign_any _ _ i (by omega) _ ⟨by omega, by omega⟩ (by omega) ?_)
          | fail)
        go_roundw
        case rel =>
          refine ⟨i + 1, by omega, by go_num, HKP.out.trans (Kp.setCell (S := fun b => (Value.slice (some ⟨g, 0, none⟩) n capv).ownBlock = some b) wr ⟨g, i, none⟩ _ rfl) (fun _ _ h => h), ?_⟩
          have := HRS.out
          rw [fill_sign xs i (by have := HXS.out; omega)] at this
          exact this
        case measure => simp [intOf]; omega
    · have hie : i = n := by omega
      subst hie
      have hX : wr.ownsRow 0 5 1 (.slice av i capv) i (signs (q + 1) i) := by
        have := hrow
        rw [List.drop_eq_nil_of_le (by have := HXS.out; omega), List.append_nil] at this
        exact this
      have HX := hid_of hX
      have HKP := hid_of hkp
      have HSZ := hid_of hkp.size
      have HVL : Hid (∀ b, (Value.slice av i capv).ownBlock = some b → b < w.heap.size) := fun b hb => (HV.out.lt b hb).2
      obtain ⟨iP, hP⟩ := info_parts infoBytes
      have HIP := hid_of hP
      obtain ⟨iI, hI⟩ := info_parts infoInt
      have HII := hid_of hI
      clear hP hI
      generalize hXs : signs (q + 1) i = X at *
      clear hrow hkp hX hin d5 hile hcP hcv e5
      have HXs := hid_of hXs
      clear hXs
      go_wp2_with (first
        | (go_at_call 65; refine sign_any _ _ i (by omega) _ ⟨by omega, by omega⟩ (by omega) ?_)
        | (go_at_call 65; refine sign_any _ _ (i + 1) (by omega) _ ⟨by omega, by omega⟩ (by omega) ?_)
        | (go_at_call 65; refine sign_any _ _ (i + 2) (by omega) _ ⟨by omega, by omega⟩ (by omega) ?_)
        | (at_builtin; refine wpL_append_keep rfl _ _ 48 rfl 0 5 i0 (.int .u8 0) 1 1 Tryz.underlying48 HI.out.1 HI.out.2.1 HI.out.2.2.1 HI.out.2.2.2 rfl (by decide) _ _ _ rfl (HX.out.alloc _) ⟨wr.heap.size, 0, none⟩ 1 1 [.int .u8 (sgnI (q + 1) i)] rfl rfl (cell_one_new _ _ _) (by simp [Value.oneCell']) (by unfold maxLen; omega) (by omega) (Nat.zero_le _) (by decide) ?_; intro v7 w7 own7 grow7 loc7 keep7; have hk := after_app (S := fun b => (Value.slice av i capv).ownBlock = some b) grow7 (fun _ h => h); have HR7 := hid_of (keep7 _ _ _ (HX.out.alloc _) (List.prefix_append _ _)); have HL7 := hid_of (lies_new1 (w := w) HSZ.out loc7 own7); obtain ⟨a7, cap7, rfl, _⟩ := row_len own7; have HO7 := hid_of own7; have HK7 := hid_of hk; have HS7 : Hid (w.heap.size ≤ w7.heap.size) := Nat.le_trans HSZ.out hk.size; clear hk own7 grow7 loc7 keep7)
        | (at_builtin; refine wpL_append_keep rfl _ _ 48 rfl 0 5 i0 (.int .u8 0) 1 1 Tryz.underlying48 HI.out.1 HI.out.2.1 HI.out.2.2.1 HI.out.2.2.2 rfl (by decide) _ _ _ rfl (HR7.out.alloc _) ⟨w7.heap.size, 0, none⟩ 2 2 [.int .u8 (sgnI (q + 1) i), .int .u8 (sgnI (q + 1) (i + 1))] rfl rfl (two_newB w7 _ _ _) (by simp [Value.oneCell']) (by unfold maxLen; omega) (by omega) (Nat.zero_le _) (by decide) ?_; intro v8 w8 own8 grow8 loc8 keep8; have hk := after_app (S := fun b => (Value.slice av i capv).ownBlock = some b) grow8 (fun _ h => h); have HR8 := hid_of (keep8 _ _ _ (HR7.out.alloc _) (List.prefix_append _ _)); have HR8a := hid_of (keep8 _ _ _ (HO7.out.alloc _) (by simp [List.prefix_append_right_inj])); have HL8 := hid_of (lies_new1 (w := w) HS7.out loc8 own8); obtain ⟨a8, cap8, rfl, _⟩ := row_len own8; have HO8 := hid_of own8; have HK8 := hid_of hk; have HS8 : Hid (w.heap.size ≤ w8.heap.size) := Nat.le_trans HS7.out hk.size; clear hk own8 grow8 loc8 keep8)
        | (at_builtin; refine wpL_append_keep rfl _ _ 48 rfl 0 5 i0 (.int .u8 0) 1 1 Tryz.underlying48 HI.out.1 HI.out.2.1 HI.out.2.2.1 HI.out.2.2.2 rfl (by decide) _ _ _ rfl (HR8.out.alloc _) ⟨w8.heap.size, 0, none⟩ 3 3 [.int .u8 (sgnI (q + 1) i), .int .u8 (sgnI (q + 1) (i + 1)), .int .u8 (sgnI (q + 1) (i + 2))] rfl rfl (three_newB w8 _ _ _ _) (by simp [Value.oneCell']) (by unfold maxLen; omega) (by omega) (Nat.zero_le _) (by decide) ?_; intro v9 w9 own9 grow9 loc9 keep9; have hk := after_app (S := fun b => (Value.slice av i capv).ownBlock = some b) grow9 (fun _ h => h); have HR9 := hid_of (keep9 _ _ _ (HR8.out.alloc _) (List.prefix_append _ _)); have HR9a := hid_of (keep9 _ _ _ (HR8a.out.alloc _) (by simp [List.prefix_append_right_inj])); have HR9b := hid_of (keep9 _ _ _ (HO8.out.alloc _) (by simp [List.prefix_append_right_inj])); have HL9 := hid_of (lies_new1 (w := w) HS8.out loc9 own9); obtain ⟨a9, cap9, rfl, _⟩ := row_len own9; have HO9 := hid_of own9; have HK9 := hid_of hk; have HS9 : Hid (w.heap.size ≤ w9.heap.size) := Nat.le_trans HS8.out hk.size; have hkw := ((HKP.out.trans HK7.out (fun _ _ h => h)).trans HK8.out (fun _ _ h => h)).trans hk (fun _ _ h => h); have hp9 := mbs hkw HW.out N1.out; have y5 : w9.cell? ⟨p, 3, none⟩ = some (.slice aP (4 * q) capP) := (cell_of hp9 3).trans C5.out; have HP9 := hid_of hp9; have HKW := hid_of hkw; clear hp9 hkw; clear hk own9 grow9 loc9 keep9)
        | (at_builtin; refine wpL_append_keep rfl _ _ 37 rfl 0 48 iP (.slice none 0 0) 1 24 Tryz.underlying37 HIP.out.1 HIP.out.2.1 HIP.out.2.2.1 HIP.out.2.2.2 rfl (by decide) _ _ _ rfl ((ownsRow_kp HP.out HKW.out N4.out).alloc _) ⟨w9.heap.size, 0, none⟩ 4 4 [.slice av i capv, .slice a7 (i + 1) cap7, .slice a8 (i + 2) cap8, .slice a9 (i + 3) cap9] rfl rfl (four_new w9 _ _ _ _ _) (by simp [Value.oneCell']) (by unfold maxLen; omega) (by omega) (Nat.zero_le _) (by decide) ?_; intro v10 w10 own10 grow10 loc10 keep10; have hk := after_app (S := fun b => (Value.slice aP (4 * q) capP).ownBlock = some b) grow10 (fun _ h => h); have hp10 := mbs hk HP9.out N2.out; have y5 : w10.cell? ⟨p, 3, none⟩ = some (.slice aP (4 * q) capP) := (cell_of hp10 3).trans C5.out; have yf5 := frozen_of hp10 3; have y6 : w10.cell? ⟨p, 4, none⟩ = some vK := (cell_of hp10 4).trans C6.out; obtain ⟨a10, cap10, rfl, _⟩ := row_len own10; have HP10 := hid_of hp10; have HK10 := hid_of hk; have HO10 := hid_of own10; have HL10 := hid_of loc10; clear hp10 hk own10 grow10 loc10 keep10)
        | (at_builtin; refine wpL_append_keep rfl _ _ 26 rfl 0 3 iI (.int .i64 0) 1 8 Tryz.underlying26 HII.out.1 HII.out.2.1 HII.out.2.2.1 HII.out.2.2.2 rfl (by decide) _ _ _ rfl ((ownsRow_kp (ownsRow_kp (ownsRow_kp HK.out HKW.out N5.out) HK10.out N6.out) (Kp.setCell (S := fun b => b = p) w10 ⟨p, 3, none⟩ (.slice a10 (4 * q + 4) cap10) rfl) (fun b hb e => N3.out (by rw [← e]; exact hb))).alloc _) ⟨w10.heap.size, 0, none⟩ 4 4 [.int .i64 (q + 1), .int .i64 (q + 1), .int .i64 (q + 1), .int .i64 (q + 1)] rfl rfl (four_newI w10 p 3 _ _ _ _ _ _) (by simp [Value.oneCell']) (by unfold maxLen; omega) (by omega) (Nat.zero_le _) (by decide) ?_; intro v11 w11 own11 grow11 loc11 keep11; have hk := after_app (S := fun b => vK.ownBlock = some b) grow11 (fun _ h => h); have hp11 := mbs hk (heap_setCell_at HP10.out _) N3.out; have y6 : w11.cell? ⟨p, 4, none⟩ = some vK := (cell_of hp11 4).trans (by simpa using C6.out); have yf6 := frozen_of hp11 4; obtain ⟨a11, cap11, rfl, _⟩ := row_len own11; have HP11 := hid_of hp11; have HK11 := hid_of hk; have HO11 := hid_of own11; have HL11 := hid_of loc11; clear hp11 hk own11 grow11 loc11 keep11)
        | fail)
      have lp : p < w.heap.size := block_lt HW.out
      have lP : ∀ b, (Value.slice aP (4 * q) capP).ownBlock = some b → b < w.heap.size := fun b hb => (HP.out.lt b hb).2
      have lK : ∀ b, vK.ownBlock = some b → b < w.heap.size := fun b hb => (HK.out.lt b hb).2
      have s9 := HS9.out
      have s10 := HK10.out.size
      have s11 : w10.heap.size ≤ w11.heap.size := by have := HK11.out.size; simpa [World.setCell] using this
      have t11 : Kp (fun b => b = p ∨ vK.ownBlock = some b) w10 (w11.setCell ⟨p, 4, none⟩ (.slice a11 (4 * q + 4) cap11)) :=
        ((Kp.setCell (S := fun b => b = p ∨ vK.ownBlock = some b) w10 ⟨p, 3, none⟩ (.slice a10 (4 * q + 4) cap10) (Or.inl rfl)).trans (HK11.out.mono (S' := fun b => b = p ∨ vK.ownBlock = some b) (fun _ _ h => Or.inr h)) (fun _ _ h => h)).trans (Kp.setCell (S := fun b => b = p ∨ vK.ownBlock = some b) w11 _ _ (Or.inl rfl)) (fun _ _ h => h)
      have t10 : Kp (fun b => b = p ∨ (Value.slice aP (4 * q) capP).ownBlock = some b ∨ vK.ownBlock = some b) w9 (w11.setCell ⟨p, 4, none⟩ (.slice a11 (4 * q + 4) cap11)) :=
        (HK10.out.mono (S' := fun b => b = p ∨ (Value.slice aP (4 * q) capP).ownBlock = some b ∨ vK.ownBlock = some b) (fun _ _ h => Or.inr (Or.inl h))).trans t11 (fun _ _ h => h.imp id Or.inr)
      have t9 : Kp (fun b => b = p ∨ (Value.slice aP (4 * q) capP).ownBlock = some b ∨ vK.ownBlock = some b ∨ (Value.slice av i capv).ownBlock = some b) w (w11.setCell ⟨p, 4, none⟩ (.slice a11 (4 * q + 4) cap11)) :=
        (HKW.out.mono (S' := fun b => b = p ∨ (Value.slice aP (4 * q) capP).ownBlock = some b ∨ vK.ownBlock = some b ∨ (Value.slice av i capv).ownBlock = some b) (fun _ _ h => Or.inr (Or.inr (Or.inr h)))).trans t10 (fun _ _ h => h.imp id (fun h => h.imp id Or.inl))
      have nv : ∀ b, (Value.slice av i capv).ownBlock = some b → ¬ (b = p ∨ (Value.slice aP (4 * q) capP).ownBlock = some b ∨ vK.ownBlock = some b) := fun b hb h => by
        rcases h with h | h | h
        · exact N1.out (by rw [← h]; exact hb)
        · exact N4.out b h hb
        · exact N5.out b h hb
      have nu : ∀ u s, Lies w (Value.slice av i capv) u s → ∀ b, u.ownBlock = some b → ¬ (b = p ∨ (Value.slice aP (4 * q) capP).ownBlock = some b ∨ vK.ownBlock = some b) := fun u s hu b hb => by
        rcases hu b hb with h | h
        · exact nv b h
        · intro h2
          rcases h2 with h2 | h2 | h2
          · omega
          · have := lP b h2; omega
          · have := lK b h2; omega
      have x1 : X ++ [.int .u8 (sgnI (q + 1) i)] = signs (q + 1) (i + 1) := by rw [signs_succ, HXs.out]; rfl
      have x2 : X ++ [.int .u8 (sgnI (q + 1) i), .int .u8 (sgnI (q + 1) (i + 1))] = signs (q + 1) (i + 2) := by rw [signs_succ, ← x1]; simp [signV]
      have x3 : X ++ [.int .u8 (sgnI (q + 1) i), .int .u8 (sgnI (q + 1) (i + 1)), .int .u8 (sgnI (q + 1) (i + 2))] = signs (q + 1) (i + 3) := by rw [signs_succ, ← x2]; simp [signV]
      have f0 := ownsRow_kp HR9.out t10 nv
      have f1 := ownsRow_kp HR9a.out t10 (nu _ _ HL7.out)
      have f2 := ownsRow_kp HR9b.out t10 (nu _ _ HL8.out)
      have f3 := ownsRow_kp HO9.out t10 (nu _ _ HL9.out)
      rw [x1] at f1
      rw [x2] at f2
      rw [x3] at f3
      have l10 : ∀ b, (Value.slice a10 (4 * q + 4) cap10).ownBlock = some b → (Value.slice aP (4 * q) capP).ownBlock = some b ∨ (w9.heap.size ≤ b ∧ b < w10.heap.size) := fun b hb => by
        have hlt := (HO10.out.lt b hb).2
        rcases HL10.out with h | h
        · exact Or.inl (h ▸ hb)
        · rw [h] at hb
          injection hb with hb
          simp at hb
          exact Or.inr ⟨by omega, hlt⟩
      have l11 : ∀ b, (Value.slice a11 (4 * q + 4) cap11).ownBlock = some b → vK.ownBlock = some b ∨ w10.heap.size ≤ b := fun b hb => by
        rcases HL11.out with h | h
        · exact Or.inl (h ▸ hb)
        · rw [h] at hb
          injection hb with hb
          simp [World.setCell] at hb
          exact Or.inr (by omega)
      have g10 := ownsRow_kp HO10.out t11 (fun b hb h => by
        rcases l10 b hb with h1 | h1
        · rcases h with h | h
          · exact N2.out (by rw [← h]; exact h1)
          · exact N6.out b h h1
        · rcases h with h | h
          · omega
          · have := lK b h; omega)
      have g11 := ownsRow_kp HO11.out (Kp.setCell (S := fun b => b = p) w11 ⟨p, 4, none⟩ (.slice a11 (4 * q + 4) cap11) rfl) (fun b hb h => by
        rcases l11 b hb with h1 | h1
        · exact N3.out (by rw [← h]; exact h1)
        · omega)
      have HF := hid_of (HR.out _ _ _ _ _ _ w9.heap.size w10.heap.size t9 (heap_setCell_at HP11.out _) g10 g11 f0 f1 f2 f3 s9 s10 (HL7.out.mono (Nat.le_trans HK8.out.size HK9.out.size)) (HL8.out.mono HK9.out.size) HL9.out l10 l11)
      clear f0 f1 f2 f3 g10 g11 l10 l11 t9 t10 t11 nu nv x1 x2 x3 lp lP lK s9 s10 s11
      go_end0
      exact HF.out

end

end Go.Proofs.YthbdpfccfcceiaaGreatDoor

namespace Go.Proofs.YthbdpfccfcceiaaGreatDoor
open Go.RowKit

/-- Bodies of records in a row, as they lie in memory: of whatever blocks. -/
def LgIn (w : World) (v : Value) (lg : List (List UInt8)) : Prop :=
  ∃ a cap, v = .slice a lg.length cap ∧ (lg ≠ [] → ∃ ga oa, a = some ⟨ga, oa, none⟩ ∧ ∀ (i : Nat) f, lg[i]? = some f → ∃ u, w.cell? ⟨ga, oa + i, none⟩ = some u ∧ RdB w u f ∧ ∃ p n c, u = .slice p n c)

theorem RdB.old {w w' : World} {v : Value} {bs : List UInt8} (h : RdB w v bs) (hk : Kp (fun _ => False) w w') : RdB w' v bs := h.kept hk

theorem LgIn.kept {w w' : World} {v : Value} {lg : List (List UInt8)} (h : LgIn w v lg) (k : Kp (fun _ => False) w w') : LgIn w' v lg := by
  obtain ⟨a, cap, rfl, h0⟩ := h
  refine ⟨a, cap, rfl, fun hne => ?_⟩
  obtain ⟨ga, oa, rfl, h⟩ := h0 hne
  refine ⟨ga, oa, rfl, fun i f hf => ?_⟩
  obtain ⟨u, h1, h2, h3⟩ := h i f hf
  exact ⟨u, (k.cell (a := ⟨ga, oa + i, none⟩) (World.block_lt_of_cell? _ _ h1) (fun e => e)).trans h1, h2.kept k, h3⟩

/-- The last row, longer. -/
theorem FR.longer {base : Nat} {w w1 : World} {v u u1 : Value} {fs : List (List UInt8)} {lv : List Value} {f x : List UInt8} {g cap : Nat} (h : FR base w v (fs ++ [f]) (lv ++ [u])) (hv : v = .slice (some ⟨g, 0, none⟩) (fs.length + 1) cap)
    (h1 : BR base w1 u1 (f ++ x)) (hk : Kp (fun b => u.ownBlock = some b) w w1) (hloc : u1.ownBlock = u.ownBlock ∨ u1.ownBlock = some w.heap.size) : FR base (w1.setCell ⟨g, fs.length, none⟩ u1) v (fs ++ [f ++ x]) (lv ++ [u1]) := by
  have hlen : lv.length = fs.length := by have := h.len; simpa using this
  have hu : BR base w u f := h.at_ fs.length u f (by rw [← hlen]; simp) (by simp)
  have hgo : v.ownBlock = some g := by rw [hv]; rfl
  have hgl := h.row.lt g hgo
  have hug : u.ownBlock ≠ some g := fun e => row_type h.row hu (by decide) g hgo e
  have hrow1 : w1.ownsRow base 48 1 v (fs.length + 1) (lv ++ [u]) := by
    have := ownsRow_kp h.row hk (fun b e e2 => row_type h.row hu (by decide) b e e2)
    simpa using this
  have hu1g : u1.ownBlock ≠ some g := fun e => by
    rcases hloc with hl | hl
    · rw [hl] at e; exact hug e
    · rw [hl] at e; injection e with e; omega
  have hset : ∀ b, b ≠ g → (w1.setCell ⟨g, fs.length, none⟩ u1).heap[b]? = w1.heap[b]? := fun b hb => Below.heap_setCell w1 _ _ b hb
  refine ⟨?_, fun i y z hy hz => ?_, fun i j y z b hy hz e1 e2 => ?_⟩
  · have h2 : ∀ {n : Nat} {xs : List Value}, w1.ownsRow base 48 1 (.slice (some ⟨g, 0, none⟩) n cap) n xs → (w1.setCell ⟨g, fs.length, none⟩ u1).ownsRow base 48 1 (.slice (some ⟨g, 0, none⟩) n cap) n (xs.set fs.length u1) := fun {n xs} hr => by
      refine ⟨by simpa using hr.1, Or.inr ?_⟩
      rcases hr.2 with ⟨h0, _⟩ | ⟨g', cap', cur, e1, h2, hg, h4, h5, h6, h7⟩
      · cases h0
      · injection e1 with e1 _ e3
        injection e1 with e1
        injection e1 with e1
        subst e1; subst e3
        refine ⟨g, cap, cur.setIfInBounds fs.length u1, rfl, h2, ?_, h4, h5, by simpa using h6, ?_⟩
        · simp [World.setCell, Array.getElem?_modify, hg]
        · rw [← h7]
          simp [List.take_set]
    rw [hv] at hrow1 ⊢
    have h3 := h2 hrow1
    rw [show (lv ++ [u]).set fs.length u1 = lv ++ [u1] by rw [← hlen]; simp] at h3
    simpa using h3
  · rcases Nat.lt_trichotomy i lv.length with hi | hi | hi
    · rw [List.getElem?_append_left hi] at hy
      rw [List.getElem?_append_left (by omega)] at hz
      have hb := h.at_ i y z (by rw [List.getElem?_append_left hi]; exact hy) (by rw [List.getElem?_append_left (by omega)]; exact hz)
      have hb1 : BR base w1 y z := hb.kp hk (fun b e e2 => by
        have := h.apart i lv.length y u b (by rw [List.getElem?_append_left hi]; exact hy) (by simp) e e2
        omega)
      exact ownsRow_same hb1 (fun b e => hset b (fun e2 => by subst e2; exact row_type h.row hb (by decide) b hgo e))
    · subst hi
      rw [List.getElem?_append_right (by omega)] at hy
      rw [List.getElem?_append_right (by omega)] at hz
      simp at hy
      rw [hlen] at hz
      simp at hz
      subst hy; subst hz
      exact ownsRow_same h1 (fun b e => hset b (fun e2 => by subst e2; exact hu1g e))
    · rw [List.getElem?_eq_none (by simp; omega)] at hy; cases hy
  · have old : ∀ {i : Nat} {y : Value}, (lv ++ [u1])[i]? = some y → i < lv.length → (lv ++ [u])[i]? = some y := fun hy hi => by
      rw [List.getElem?_append_left hi] at hy ⊢; exact hy
    have last : ∀ {i : Nat} {y : Value}, (lv ++ [u1])[i]? = some y → ¬ i < lv.length → i = lv.length ∧ y = u1 := fun {i y} hy hi => by
      have hlt := (List.getElem?_eq_some_iff.1 hy).1
      simp at hlt
      have e : i = lv.length := by omega
      subst e
      simp at hy
      exact ⟨rfl, hy.symm⟩
    have cross : ∀ {i : Nat} {y : Value} {b : Nat}, (lv ++ [u])[i]? = some y → i < lv.length → y.ownBlock = some b → u1.ownBlock = some b → False := fun {i y b} hy hi e1 e2 => by
      rcases hloc with hl | hl
      · rw [hl] at e2
        have := h.apart i lv.length y u b hy (by simp) e1 e2
        omega
      · rw [hl] at e2
        injection e2 with e2
        have hz : ∃ z, (fs ++ [f])[i]? = some z := ⟨_, List.getElem?_eq_getElem (by simp; omega)⟩
        obtain ⟨z, hz⟩ := hz
        have := ((h.at_ i y z hy hz).lt b e1).2
        omega
    by_cases hi : i < lv.length
    · by_cases hj : j < lv.length
      · exact h.apart i j y z b (old hy hi) (old hz hj) e1 e2
      · obtain ⟨rfl, rfl⟩ := last hz hj
        exact (cross (old hy hi) hi e1 e2).elim
    · obtain ⟨rfl, rfl⟩ := last hy hi
      by_cases hj : j < lv.length
      · exact (cross (old hz hj) hj e2 e1).elim
      · exact (last hz hj).1.symm

section
variable {R : Ending → World → Prop}

theorem FR.at_lt {base : Nat} {w : World} {v : Value} {fs : List (List UInt8)} {lv : List Value} (h : FR base w v fs lv) {j : Nat} {x : Value} (hx : lv[j]? = some x) : ∀ b, x.ownBlock = some b → b < w.heap.size := fun b e => by
  have hj : j < fs.length := by rw [← h.len]; exact (List.getElem?_eq_some_iff.1 hx).1
  exact ((h.at_ j x _ hx (List.getElem?_eq_getElem hj)).lt b e).2

theorem row_block {w : World} {base e size n : Nat} {v : Value} {xs : List Value} (h : w.ownsRow base e size v n xs) {b : Nat} (hb : v.ownBlock = some b) : ∃ cur, w.heap[b]? = some (.cells cur e (0, 0)) := by
  rcases h.2 with ⟨rfl, _⟩ | ⟨g, cap, cur, rfl, _, hg, _⟩
  · cases hb
  · cases hb; exact ⟨cur, hg⟩

set_option maxRecDepth 20000 in
set_option maxHeartbeats 4000000 in
theorem dfiles (v : Value) (lg : List (List UInt8)) (w : World) (hv : LgIn w v lg) (hl : lg.length ≤ 5000) (hb : ∀ b ∈ lg, b ≠ [] ∧ b.length ≤ 400)
    (hR : ∀ v' lv' w', FR w.heap.size w' v' (filesB lg) lv' → Kp (fun _ => False) w w' → R (.returned v') w') :
    Calls Tryz.prog 114 #[v] w R := by
  have HV := hid_of hv
  have HR := hid_of hR
  have HL := hid_of hl
  have HB := hid_of hb
  obtain ⟨a0, cap0, rfl, hv1⟩ := hv
  have hl' : (lg.length : Int) ≤ 5000 := by omega
  clear hR hl hb hv1
  go_enter Tryz.func114, Tryz.ntmps114
  go_wp2
  go_loopw [3, 4] (fun v3 v4 wr => ∃ (i : Nat) (lv : List Value), i ≤ lg.length ∧ v4 = .int .i64 i ∧ Kp (fun _ => False) w wr ∧ FR w.heap.size wr v3 (filesB (lg.take i)) lv) (fun _ v4 _ => lg.length - (intOf v4).toNat)
  case atStart => exact ⟨0, [], Nat.zero_le _, rfl, Kp.refl _ _, FR.nil _ _⟩
  case round =>
    obtain ⟨i, lv, hi, rfl, hkp, hfr⟩ := hrel
    obtain ⟨pu, cu, rfl⟩ := ownsRow_slice hfr.row
    have HK := hid_of hkp
    have HFR0 := hid_of hfr
    have hfl : (filesB (lg.take i)).length = (i + 3) / 4 := by rw [filesB_length, List.length_take]; congr 2; omega
    by_cases hlt : i < lg.length
    · obtain ⟨b, hbi⟩ : ∃ b, lg[i]? = some b := ⟨lg[i], List.getElem?_eq_getElem hlt⟩
      have hlt' : (i : Int) < lg.length := by omega
      have hbm := HB.out b (List.mem_of_getElem? hbi)
      have HBN := hid_of hbm.1
      have HBL := hid_of hbm.2
      have htk : lg.take (i + 1) = lg.take i ++ [b] := take_at hbi
      have hti : (lg.take i).length = i := by rw [List.length_take]; omega
      have hnx : filesB (lg.take (i + 1)) = addF (filesB (lg.take i)) i b := by rw [htk, filesB_snoc, hti]
      have hbb := bytesOf_filesB_le (lg.take i) 400 (fun x hx => (HB.out x (List.mem_of_mem_take hx)).2)
      have HBB : Hid (bytesOf (filesB (lg.take i)) ≤ 5000 * 417) := Nat.le_trans hbb (by rw [hti]; exact Nat.mul_le_mul_right _ (by have := HL.out; omega))
      obtain ⟨aq, capq, eq1, hcq⟩ := HV.out
      obtain ⟨ga, oa, eq2, hcq2⟩ := hcq (fun e => by rw [e] at hlt; simp at hlt)
      injection eq1 with eq3 eq4 eq5
      rw [← eq3] at eq2
      clear eq4 eq5
      subst eq2
      obtain ⟨ub, hub1, hub2, pb, nb, cb, rfl⟩ := hcq2 i b hbi
      have HUB1 := hid_of hub1
      have HUB2 := hid_of hub2
      clear hcq hcq2 hub1 hub2 eq3
      clear hbm htk hti hbb hfr hkp hbi
      by_cases h4 : i % 4 = 0
      · have d4 : ((i : Int) % 4 == 0) = true := by simp; omega
        obtain ⟨fs1, hfs⟩ : ∃ fs1, filesB (lg.take i) = fs1 := ⟨_, rfl⟩
        rw [hfs] at hnx hfl HFR0 HBB ⊢
        obtain ⟨f1, hf1⟩ : ∃ f1, openB (i / 4) = f1 := ⟨_, rfl⟩
        have HF1 := hid_of hf1
        have HF1L : Hid (f1.length ≤ 3000000) := by show _ ≤ _; rw [← hf1, openB_length]; omega
        have HF1N : Hid (f1 ≠ []) := by show _ ≠ _; rw [← hf1]; exact fun e => by have := openB_length (i / 4); rw [e] at this; simp at this
        have HNX : Hid (filesB (lg.take (i + 1)) = fs1 ++ [f1 ++ frameB b]) := by
          show _ = _
          rw [hnx]
          unfold addF
          rw [if_pos h4, show fs1.length = i / 4 by omega, hf1]
        have hfl' : (fs1.length : Int) ≤ 2000 := by have := HL.out; omega
        have HFL : Hid (fs1.length ≤ 2000) := by show _ ≤ _; omega
        clear hfs hf1 hnx hfl
        go_wp2_with (first
          | (go_at_call 165; refine dopening (i / 4) _ (by have := HL.out; omega) (fun v5 w5 hb5 hk5 => ?_); rw [HF1.out] at hb5; obtain ⟨g1, c1, rfl⟩ := hb5.form HF1N.out; have HX5 := hid_of hb5; have HK5 := hid_of hk5; clear hb5 hk5)
          | (at_builtin; refine wpF_append _ rfl _ _ rfl w.heap.size _ fs1.length lv rfl ((HFR0.out.kept HK5.out).kept (Kp.alloc (fun _ => False) w5 (.cells #[.slice (some ⟨g1, 0, none⟩) f1.length c1] 48))).row w5.heap.size (.slice (some ⟨g1, 0, none⟩) f1.length c1) rfl (cell_of (heap_alloc_new w5 _) 0) rfl (by have := HFL.out; omega) (by have := HK.out.size; have := HK5.out.size; simp; omega) ?_; intro vq wq hrowq hkq hlocq; have HFRq := hid_of (FR.snoc (w := wr) ((HFR0.out.kept HK5.out).kept (Kp.alloc (fun _ => False) w5 (.cells #[.slice (some ⟨g1, 0, none⟩) f1.length c1] 48))) (HX5.out.kept (Kp.alloc _ _ _)) (fun b e => (HFR0.out.row.lt b e).2) (fun j x hx b e => (HFR0.out.at_lt hx b e)) HK.out.size hrowq hkq); obtain ⟨gq, cq, _, eq, _, _⟩ := ownsRow_some hrowq (by omega); subst eq; have HFR := hid_of HFRq.out; have HKQ : Hid (Kp (fun _ => False) w wq) := ((HK.out.trans HK5.out (fun _ _ h => h)).trans (Kp.alloc (fun _ => False) w5 (.cells #[.slice (some ⟨g1, 0, none⟩) f1.length c1] 48)) (fun _ _ h => h)).trans hkq (fun b hb e => by have := (HFR0.out.row.lt b e).1; omega); have HCQ : Hid (wq.cell? ⟨gq, fs1.length, none⟩ = some (.slice (some ⟨g1, 0, none⟩) f1.length c1)) := (by have hc := World.ownsRow.cells HFRq.out.row (g := gq) rfl lv.length (.slice (some ⟨g1, 0, none⟩) f1.length c1) (by simp); rw [addr_add, Nat.zero_add, HFR0.out.len] at hc; exact hc); have HUQ := hid_of (HFRq.out.at_ lv.length (.slice (some ⟨g1, 0, none⟩) f1.length c1) f1 (by simp) (by rw [HFR0.out.len]; simp)); have HGQ : Hid (w.heap.size ≤ gq) := (HFRq.out.row.lt gq rfl).1; have hub1 := (HKQ.out.cell (a := ⟨ga, oa + i, none⟩) (World.block_lt_of_cell? _ _ HUB1.out) (fun e => e)).trans HUB1.out; have HXB := hid_of (HUB2.out.kept HKQ.out); clear hrowq hkq hlocq HFRq)
          | (go_at_call 166; refine dframe _ b _ (by have := HBL.out; omega) HBN.out HXB.out (fun v6 w6 hb6 hk6 => ?_); obtain ⟨g6, c6, rfl⟩ := hb6.form (by simp [frameB, sealB]); have HX6 := hid_of hb6; have HK6 := hid_of hk6; have z0 := (hk6.cell (a := ⟨gq, fs1.length, none⟩) (World.block_lt_of_cell? _ _ HCQ.out) (fun e => e)).trans HCQ.out; have HFR6 := hid_of (HFR.out.kept hk6); have HU6 := hid_of (HUQ.out.kept hk6); clear hb6 hk6)
          | (at_builtin; refine wpB_append _ rfl _ _ rfl w.heap.size _ f1 rfl HU6.out _ (frameB b) rfl HX6.out.rd (by simp [frameB, sealB]) (by rw [frameB_length]; have := HBL.out; have := HF1L.out; omega) (by have := HKQ.out.size; have := HK6.out.size; omega) ?_; intro v7 w7 hb7 hk7 hloc7; obtain ⟨g7, c7, rfl⟩ := hb7.form (by simp [frameB, sealB]); have HLG0 := hid_of (HFR6.out.longer rfl hb7 hk7 hloc7); have HK7 := hid_of hk7; have hne7 : ¬ (Value.slice (some ⟨g1, 0, none⟩) f1.length c1).ownBlock = some gq := (fun e => row_type HFR6.out.row HU6.out (by decide) gq rfl e); have z1 := (hk7.cell (a := ⟨gq, fs1.length, none⟩) (World.block_lt_of_cell? _ _ z0) hne7).trans z0; have hfz : w7.frozen? ⟨gq, fs1.length, none⟩ = false := (by obtain ⟨cur, hq⟩ := row_block HFR6.out.row (b := gq) rfl; exact frozen_at ((hk7.block gq (block_lt hq) hne7).trans hq) _); obtain ⟨N7, hN7⟩ : ∃ N, (f1 ++ frameB b).length = N := ⟨_, rfl⟩; (rw [hN7] at HLG0 ⊢); have HLG := hid_of HLG0.out; clear hb7 hk7 hloc7 HLG0 hne7 hN7)
          | go_in)
        go_roundw
        case rel =>
          refine ⟨i + 1, lv ++ [.slice (some ⟨g7, 0, none⟩) N7 c7], by omega, by go_num, ?_, ?_⟩
          · exact (((HKQ.out.trans HK6.out (fun _ _ h => h)).trans HK7.out (fun b hb e => by have := (HU6.out.lt b e).1; omega)).trans (Kp.setCell (S := fun b => b = gq) _ _ _ rfl) (fun b hb (e : b = gq) => by have := HGQ.out; omega))
          · rw [HNX.out]
            exact HLG.out
        case measure => simp [intOf]; omega
      · have d4 : ((i : Int) % 4 == 0) = false := by simp; omega
        have hne : filesB (lg.take i) ≠ [] := filesB_ne (by rw [List.length_take, Nat.min_eq_left (by omega)]; exact h4)
        obtain ⟨fs1, f1, hfs⟩ : ∃ fs1 f1, filesB (lg.take i) = fs1 ++ [f1] := ⟨_, _, (List.dropLast_concat_getLast hne).symm⟩
        have hf1n : f1 ≠ [] := (filesB_ok (lg.take i) (by rw [List.length_take]; have := HL.out; omega) (fun x hx => (HB.out x (List.mem_of_mem_take hx)).2) f1 (by rw [hfs]; simp)).1
        have HF1L : Hid (f1.length ≤ 3000000) := Nat.le_trans (length_le_bytesOf (fs := filesB (lg.take i)) (by rw [hfs]; simp)) (by have := HBB.out; omega)
        rw [hfs] at hnx hfl HFR0 HBB ⊢
        have HNX : Hid (filesB (lg.take (i + 1)) = fs1 ++ [f1 ++ frameB b]) := by
          show _ = _
          rw [hnx]
          unfold addF
          rw [if_neg h4]
          simp
        have hlv : lv ≠ [] := fun e => by have := HFR0.out.len; rw [e] at this; simp at this
        obtain ⟨lv1, u1, rfl⟩ : ∃ lv1 u1, lv = lv1 ++ [u1] := ⟨_, _, (List.dropLast_concat_getLast hlv).symm⟩
        have hl1 : lv1.length = fs1.length := by have := HFR0.out.len; simpa using this
        have huq : BR w.heap.size wr u1 f1 := HFR0.out.at_ lv1.length u1 f1 (by simp) (by rw [hl1]; simp)
        obtain ⟨g1, c1, rfl⟩ := huq.form hf1n
        have HUQ := hid_of huq
        obtain ⟨gq, cq, _, eq, _, _⟩ := ownsRow_some HFR0.out.row (by simp)
        injection eq with eqa eqb eqc
        subst eqa
        clear eqb eqc
        have hll : (fs1 ++ [f1]).length = fs1.length + 1 := by simp
        rw [hll] at HFR0 hfl ⊢
        have HFR := hid_of HFR0.out
        have HKQ := hid_of HK.out
        have HCQ : Hid (wr.cell? ⟨gq, fs1.length, none⟩ = some (.slice (some ⟨g1, 0, none⟩) f1.length c1)) := by
          have hc := World.ownsRow.cells HFR.out.row (g := gq) rfl lv1.length (.slice (some ⟨g1, 0, none⟩) f1.length c1) (by simp)
          rw [addr_add, Nat.zero_add, hl1] at hc
          exact hc
        have HGQ : Hid (w.heap.size ≤ gq) := (HFR.out.row.lt gq rfl).1
        have hub1 := (HKQ.out.cell (a := ⟨ga, oa + i, none⟩) (World.block_lt_of_cell? _ _ HUB1.out) (fun e => e)).trans HUB1.out
        have HXB := hid_of (HUB2.out.kept HKQ.out)
        have hfl' : (fs1.length : Int) ≤ 2000 := by have := HL.out; omega
        clear hne hfs hf1n hnx hlv hl1 huq hll hfl HFR0 h4
        go_wp2_with (first
          | (go_at_call 166; refine dframe _ b _ (by have := HBL.out; omega) HBN.out HXB.out (fun v6 w6 hb6 hk6 => ?_); obtain ⟨g6, c6, rfl⟩ := hb6.form (by simp [frameB, sealB]); have HX6 := hid_of hb6; have HK6 := hid_of hk6; have z0 := (hk6.cell (a := ⟨gq, fs1.length, none⟩) (World.block_lt_of_cell? _ _ HCQ.out) (fun e => e)).trans HCQ.out; have HFR6 := hid_of (HFR.out.kept hk6); have HU6 := hid_of (HUQ.out.kept hk6); clear hb6 hk6)
          | (at_builtin; refine wpB_append _ rfl _ _ rfl w.heap.size _ f1 rfl HU6.out _ (frameB b) rfl HX6.out.rd (by simp [frameB, sealB]) (by rw [frameB_length]; have := HBL.out; have := HF1L.out; omega) (by have := HKQ.out.size; have := HK6.out.size; omega) ?_; intro v7 w7 hb7 hk7 hloc7; obtain ⟨g7, c7, rfl⟩ := hb7.form (by simp [frameB, sealB]); have HLG0 := hid_of (HFR6.out.longer rfl hb7 hk7 hloc7); have HK7 := hid_of hk7; have hne7 : ¬ (Value.slice (some ⟨g1, 0, none⟩) f1.length c1).ownBlock = some gq := (fun e => row_type HFR6.out.row HU6.out (by decide) gq rfl e); have z1 := (hk7.cell (a := ⟨gq, fs1.length, none⟩) (World.block_lt_of_cell? _ _ z0) hne7).trans z0; have hfz : w7.frozen? ⟨gq, fs1.length, none⟩ = false := (by obtain ⟨cur, hq⟩ := row_block HFR6.out.row (b := gq) rfl; exact frozen_at ((hk7.block gq (block_lt hq) hne7).trans hq) _); obtain ⟨N7, hN7⟩ : ∃ N, (f1 ++ frameB b).length = N := ⟨_, rfl⟩; (rw [hN7] at HLG0 ⊢); have HLG := hid_of HLG0.out; clear hb7 hk7 hloc7 HLG0 hne7 hN7)
          | go_in)
        go_roundw
        case rel =>
          refine ⟨i + 1, lv1 ++ [.slice (some ⟨g7, 0, none⟩) N7 c7], by omega, by go_num, ?_, ?_⟩
          · exact (((HKQ.out.trans HK6.out (fun _ _ h => h)).trans HK7.out (fun b hb e => by have := (HU6.out.lt b e).1; omega)).trans (Kp.setCell (S := fun b => b = gq) _ _ _ rfl) (fun b hb (e : b = gq) => by have := HGQ.out; omega))
          · rw [HNX.out]
            exact HLG.out
        case measure => simp [intOf]; omega
    · have hie : i = lg.length := by omega
      subst hie
      have hfin := hfr
      rw [List.take_length] at hfin
      rw [List.take_length]
      have HF := hid_of (HR.out _ _ _ hfin hkp)
      clear hfin hfr hkp HFR0
      generalize (filesB lg).length = nn at HF hfl ⊢
      go_wp2_with fail
      exact HF.out

end

end Go.Proofs.YthbdpfccfcceiaaGreatDoor
