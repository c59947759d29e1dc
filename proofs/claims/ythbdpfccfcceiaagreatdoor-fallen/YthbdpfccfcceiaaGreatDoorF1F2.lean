/-
  The log's own questions: how many bytes, and the first so many of them: (*Journal).size, first.
  The first so many bytes of a log: (*Journal).first.
-/
import Derived.Test.YthbdpfccfcceiaaGreatDoorJ1F4
import Derived.Test.YthbdpfccfcceiaaGreatDoorShelf
namespace Go.Proofs.YthbdpfccfcceiaaGreatDoor
open Go.RowKit Go.Maps Go.Lib

/-- The first so many bytes, file by file. -/
def firstB : List (List UInt8) → Nat → List (List UInt8)
  | [], _ => []
  | f :: r, n => if n = 0 then [] else f.take n :: firstB r (n - f.length)

/-- Rows of bytes in a row, each its own, in blocks from a number on. -/
structure FR (base : Nat) (w : World) (v : Value) (fs : List (List UInt8)) (lv : List Value) : Prop where
  row : w.ownsRow base 48 1 v fs.length lv
  at_ : ∀ (i : Nat) u f, lv[i]? = some u → fs[i]? = some f → BR base w u f
  apart : ∀ (i j : Nat) u v b, lv[i]? = some u → lv[j]? = some v → u.ownBlock = some b → v.ownBlock = some b → i = j

theorem FR.len {base : Nat} {w : World} {v : Value} {fs : List (List UInt8)} {lv : List Value} (h : FR base w v fs lv) : lv.length = fs.length := by simpa using h.row.1
theorem FR.nil (base : Nat) (w : World) : FR base w (.slice none 0 0) [] [] := ⟨World.ownsRow_nil _ _ _ _, fun i u f hu => by simp at hu, fun i j u v b hu => by simp at hu⟩
theorem FR.kept {base : Nat} {w w' : World} {v : Value} {fs : List (List UInt8)} {lv : List Value} (h : FR base w v fs lv) (hk : Kp (fun _ => False) w w') : FR base w' v fs lv :=
  ⟨ownsRow_kp h.row hk (fun _ _ e => e), fun i u f hu hf => (h.at_ i u f hu hf).kept hk, h.apart⟩

/-- A row more. -/
theorem FR.snoc {base : Nat} {w w1 w2 : World} {v v2 u : Value} {fs : List (List UInt8)} {lv : List Value} {f : List UInt8} (h : FR base w1 v fs lv) (hu : BR w.heap.size w1 u f) (hsz : ∀ b, v.ownBlock = some b → b < w.heap.size) (hold : ∀ (i : Nat) x, lv[i]? = some x → ∀ b, x.ownBlock = some b → b < w.heap.size)
    (hb : base ≤ w.heap.size) (hrow : w2.ownsRow base 48 1 v2 (fs.length + 1) (lv ++ [u])) (hk : Kp (fun b => v.ownBlock = some b) w1 w2) : FR base w2 v2 (fs ++ [f]) (lv ++ [u]) := by
  have hl := h.len
  refine ⟨by simpa using hrow, fun i x g hx hg => ?_, fun i j x y b hx hy ex ey => ?_⟩
  · rcases Nat.lt_trichotomy i lv.length with hi | hi | hi
    · rw [List.getElem?_append_left hi] at hx
      rw [List.getElem?_append_left (by omega)] at hg
      have h0 := h.at_ i x g hx hg
      refine h0.kp hk (fun b e e2 => ?_)
      obtain ⟨c1, q1⟩ := h0.block e
      obtain ⟨c2, q2⟩ := ownsRow_block2 h.row e2
      exact ne_type q1 q2 (by decide) rfl
    · subst hi
      simp at hx
      rw [hl] at hg
      simp at hg
      subst hx; subst hg
      exact BR.mono (hu.kp hk (fun b e e2 => by have h1 := (hu.lt b e).1; have h2 := hsz b e2; omega)) hb
    · rw [List.getElem?_eq_none (by simp; omega)] at hx; cases hx
  · have last : ∀ (i : Nat) x, (lv ++ [u])[i]? = some x → (i < lv.length ∧ lv[i]? = some x) ∨ (i = lv.length ∧ x = u) := fun i x hx => by
      rcases Nat.lt_trichotomy i lv.length with hi | hi | hi
      · rw [List.getElem?_append_left hi] at hx; exact Or.inl ⟨hi, hx⟩
      · subst hi; simp at hx; exact Or.inr ⟨rfl, hx.symm⟩
      · rw [List.getElem?_eq_none (by simp; omega)] at hx; cases hx
    rcases last i x hx with ⟨h1, h2⟩ | ⟨h1, h2⟩ <;> rcases last j y hy with ⟨h3, h4⟩ | ⟨h3, h4⟩
    · exact h.apart i j x y b h2 h4 ex ey
    · subst h4
      have := hold i x h2 b ex
      have := (hu.lt b ey).1
      omega
    · subst h2
      have := hold j y h4 b ey
      have := (hu.lt b ex).1
      omega
    · omega

/-- A journal's files as they lie. -/
def JR (w : World) (fv : Value) (fs : List (List UInt8)) (lv : List Value) : Prop := w.ownsRow 0 48 1 fv fs.length lv ∧ (∀ (i : Nat) u f, lv[i]? = some u → fs[i]? = some f → BR 0 w u f)

theorem bytesOf_take (fs : List (List UInt8)) (k : Nat) (f : List UInt8) (h : fs[k]? = some f) : bytesOf (fs.take (k + 1)) = bytesOf (fs.take k) + f.length := by
  obtain ⟨hk, rfl⟩ := List.getElem?_eq_some_iff.1 h
  rw [List.take_succ_eq_append_getElem hk, bytesOf_append]
  simp [bytesOf]
theorem bytesOf_take_le (fs : List (List UInt8)) (k : Nat) : bytesOf (fs.take k) ≤ bytesOf fs := by
  conv => rhs; rw [← List.take_append_drop k fs]
  rw [bytesOf_append]; omega

theorem firstB_step : ∀ (fs : List (List UInt8)) (n k : Nat) (f : List UInt8), fs[k]? = some f → bytesOf (fs.take k) < n → firstB (fs.take (k + 1)) n = firstB (fs.take k) n ++ [f.take (n - bytesOf (fs.take k))]
  | [], _, _, _, h, _ => by simp at h
  | g :: r, n, 0, f, h, hn => by
    simp at h
    subst h
    have : n ≠ 0 := by simp [bytesOf] at hn; omega
    simp [firstB, this, bytesOf]
  | g :: r, n, k + 1, f, h, hn => by
    have h' : r[k]? = some f := by simpa using h
    have hb : bytesOf ((g :: r).take (k + 1)) = g.length + bytesOf (r.take k) := by rw [List.take_succ_cons, bytesOf_cons]
    rw [hb] at hn
    have hn0 : n ≠ 0 := by omega
    rw [List.take_succ_cons, List.take_succ_cons]
    show (if n = 0 then [] else g.take n :: firstB (r.take (k + 1)) (n - g.length)) = (if n = 0 then [] else g.take n :: firstB (r.take k) (n - g.length)) ++ _
    rw [if_neg hn0, if_neg hn0, firstB_step r (n - g.length) k f h' (by omega), bytesOf_cons]
    rw [List.cons_append, Nat.sub_sub]
theorem firstB_done : ∀ (fs : List (List UInt8)) (n k : Nat), n ≤ bytesOf (fs.take k) → firstB fs n = firstB (fs.take k) n
  | [], _, _, _ => by simp
  | g :: r, n, 0, h => by
    have : n = 0 := by simpa [bytesOf] using h
    subst this
    simp [firstB]
  | g :: r, n, k + 1, h => by
    rw [List.take_succ_cons, bytesOf_cons] at h
    rw [List.take_succ_cons]
    show (if n = 0 then [] else g.take n :: firstB r (n - g.length)) = (if n = 0 then [] else g.take n :: firstB (r.take k) (n - g.length))
    rw [firstB_done r (n - g.length) k (by omega)]

section
variable {R : Ending → World → Prop}

set_option maxRecDepth 20000 in
set_option maxHeartbeats 1000000 in
theorem size_any (p o : Nat) (fv : Value) (fs : List (List UInt8)) (lv : List Value) (w : World) (c0 : w.cell? ⟨p, o, none⟩ = some fv) (hJ : JR w fv fs lv) (hl : bytesOf fs ≤ 1000000000) (hfl : fs.length ≤ 1000000)
    (hR : R (.returned (.int .i64 (bytesOf fs : Nat))) w) :
    Calls Tryz.prog 74 #[.pointer (some ⟨p, o, none⟩)] w R := by
  obtain ⟨hrow, hat⟩ := hJ
  have HAT := hid_of hat
  have HROW := hid_of hrow
  have HR := hid_of hR
  have HL := hid_of hl
  have hfl' : (fs.length : Int) ≤ 1000000 := by omega
  have hlen : lv.length = fs.length := by simpa using hrow.1
  have HLEN := hid_of hlen
  by_cases h0 : fs.length = 0
  · have e0 : fs = [] := List.eq_nil_of_length_eq_zero h0
    subst e0
    obtain ⟨pf, cap, rfl⟩ := ownsRow_slice hrow
    clear hrow hat hR hl h0 hlen hfl hfl'
    go_enter Tryz.func74, Tryz.ntmps74
    go_wp2_with fail
    go_loop [3, 11] (fun v3 v11 => v3 = .int .i64 0 ∧ v11 = .int .i64 0) (fun _ _ => 0)
    case atStart => exact ⟨rfl, rfl⟩
    case round =>
      obtain ⟨rfl, rfl⟩ := hrel
      go_wp2_with fail
      exact HR.out
  · obtain ⟨g, cap, cur, rfl, _, _⟩ := ownsRow_some hrow (by omega)
    clear hrow hat hR hl h0 hlen
    go_enter Tryz.func74, Tryz.ntmps74
    go_wp2_with fail
    go_loop [3, 11] (fun v3 v11 => ∃ k : Nat, k ≤ fs.length ∧ v11 = .int .i64 k ∧ v3 = .int .i64 (bytesOf (fs.take k) : Nat)) (fun _ v11 => fs.length - (intOf v11).toNat)
    case atStart => exact ⟨0, Nat.zero_le _, rfl, rfl⟩
    case round =>
      obtain ⟨k, hk, rfl, rfl⟩ := hrel
      by_cases hlt : k < fs.length
      · obtain ⟨f, hf⟩ : ∃ f, fs[k]? = some f := ⟨fs[k], List.getElem?_eq_getElem hlt⟩
        obtain ⟨u, hu⟩ : ∃ u, lv[k]? = some u := ⟨lv[k]'(by rw [HLEN.out]; exact hlt), List.getElem?_eq_getElem (by rw [HLEN.out]; exact hlt)⟩
        have hc := ownsRow_cell HROW.out k u hu
        obtain ⟨pu, capu, rfl⟩ := ownsRow_slice (HAT.out k u f hu hf)
        have HB := hid_of (bytesOf_take fs k f hf)
        have hb1 : bytesOf (fs.take k) + f.length ≤ 1000000000 := by have := bytesOf_take_le fs (k + 1); have := HL.out; have := HB.out; omega
        have hb2 : (bytesOf (fs.take k) : Int) + f.length ≤ 1000000000 := by omega
        generalize bytesOf (fs.take k) = S at hb1 hb2 HB ⊢
        clear hf hu
        go_wp2_with fail
        go_round
        case rel => exact ⟨k + 1, by omega, by go_num, by rw [HB.out]; rfl⟩
        case measure => simp [intOf]; omega
      · have hk' : k = fs.length := by omega
        subst hk'
        rw [List.take_length]
        go_wp2_with fail
        exact HR.out

end

end Go.Proofs.YthbdpfccfcceiaaGreatDoor

namespace Go.Proofs.YthbdpfccfcceiaaGreatDoor
open Go.RowKit Go.Maps Go.Lib

/-- append of one row onto a row of rows. -/
theorem wpF_append {ops : Array Oper} {rest : List Oper} {o : Oper} {a : Act} {Q : Exit → Act → World → Prop} (w : World) (hgd : o.guard = none) (s x : Operand)
    (ho : o.op = .call { callee := .builtin .append, args := #[s, x], argTypes := #[37, 37] })
    (base : Nat) (v : Value) (n : Nat) (xs : List Value) (hs : a.eval s = v) (hown : w.ownsRow base 48 1 v n xs) (g : Nat) (u : Value) (hx : a.eval x = .slice (some ⟨g, 0, none⟩) 1 1) (hu : w.cell? ⟨g, 0, none⟩ = some u) (h1 : u.oneCell' = true) (hl : n ≤ 1000000) (hb : base ≤ w.heap.size)
    (h : ∀ v' w', w'.ownsRow base 48 1 v' (n + 1) (xs ++ [u]) → Kp (fun b => v.ownBlock = some b) w w' → (v'.ownBlock = v.ownBlock ∨ v'.ownBlock = some w.heap.size) → wpList Tryz.prog ops Q rest (a.put o.dst v') w') :
    wpList Tryz.prog ops Q (o :: rest) a w := by
  obtain ⟨i0, hi, hz0, hz1, hz2⟩ := info_parts infoRow
  refine wpList_append_own_at _ hgd s x 37 ho base 48 i0 (.slice none 0 0) 1 24 Tryz.underlying37 hi hz0 hz1 hz2 rfl (by decide) v n xs hs hown ⟨g, 0, none⟩ 1 1 [u] hx rfl (fun j y hj => ?_) (by simpa using h1) (by unfold maxLen; omega) (by omega) hb (fun v' w' r1 r2 _ r4 => h v' w' r1 (Kp.of_grown r2 (fun _ e => e)) r4)
  match j, hj with
  | 0, hj => simp at hj; subst hj; rw [addr_add]; exact hu

theorem firstB_length_le : ∀ (fs : List (List UInt8)) (n : Nat), (firstB fs n).length ≤ fs.length
  | [], _ => by simp [firstB]
  | f :: r, n => by
    have := firstB_length_le r (n - f.length)
    unfold firstB
    split <;> simp <;> omega

theorem toNats (bs : List UInt8) : (bs.map fun b => (b.toNat : Int)).map (Value.int .u8) = bs.map b8 := by simp [b8, Function.comp_def]

section
variable {R : Ending → World → Prop}

theorem cloneB (g o cap : Nat) (bs : List UInt8) (w : World) (hl : bs.length ≤ 1000000000) (hc : ∀ j, j < bs.length → w.cell? ⟨g, o + j, none⟩ = some (b8 (bs.getD j 0)))
    (hR : ∀ v' w', BR w.heap.size w' v' bs → Kp (fun _ => False) w w' → R (.returned v') w') :
    Calls Tryz.prog 130 #[.slice (some ⟨g, o, none⟩) bs.length cap] w R := by
  refine (Tryz.bytes_Clone_at ⟨g, o, none⟩ bs.length cap (bs.map fun b => (b.toNat : Int)) w (by simp) (by omega) (fun i hi => ?_)).mono ?_
  · rw [addr_add, hc i hi]
    simp [b8, List.getD, List.getElem?_eq_getElem hi]
  · rintro e w' ⟨v', rfl, h1, _, h3⟩
    refine hR v' w' ?_ (Kp.of_below h3 _)
    rw [toNats] at h1
    exact h1

/-- How the memory lies while the first bytes are copied. -/
structure MidF (w : World) (fs : List (List UInt8)) (n k : Nat) (wr : World) (v5 : Value) (lv' : List Value) : Prop where
  kp : Kp (fun _ => False) w wr
  fr : FR w.heap.size wr v5 (firstB (fs.take k) n) lv'

set_option maxRecDepth 20000 in
set_option maxHeartbeats 2000000 in
theorem first_any (p o : Nat) (fv : Value) (fs : List (List UInt8)) (lv : List Value) (n : Nat) (w : World) (c0 : w.cell? ⟨p, o, none⟩ = some fv) (hJ : JR w fv fs lv) (hne : ∀ f ∈ fs, f ≠ []) (hl : bytesOf fs ≤ 1000000000) (hfl : fs.length ≤ 1000000) (hn : n ≤ 1000000000)
    (hR : ∀ v' lv' w', FR w.heap.size w' v' (firstB fs n) lv' → Kp (fun _ => False) w w' → R (.returned v') w') :
    Calls Tryz.prog 77 #[.pointer (some ⟨p, o, none⟩), .int .i64 n] w R := by
  obtain ⟨hrow, hat⟩ := hJ
  have HAT := hid_of hat
  have HROW := hid_of hrow
  have HR := hid_of hR
  have HL := hid_of hl
  have HNE := hid_of hne
  have hfl' : (fs.length : Int) ≤ 1000000 := by omega
  have hn' : (n : Int) ≤ 1000000000 := by omega
  have hlen : lv.length = fs.length := by simpa using hrow.1
  have HLEN := hid_of hlen
  have HFL := hid_of hfl
  by_cases h0 : fs.length = 0
  · have e0 : fs = [] := List.eq_nil_of_length_eq_zero h0
    subst e0
    obtain ⟨pf, cap, rfl⟩ := ownsRow_slice hrow
    clear hrow hat hR hl h0 hlen hfl hfl' hne
    go_enter Tryz.func77, Tryz.ntmps77
    go_wp2_with fail
    go_loop [5, 14] (fun v5 v14 => v5 = .slice none 0 0 ∧ v14 = .int .i64 0) (fun _ _ => 0)
    case atStart => exact ⟨rfl, rfl⟩
    case round =>
      obtain ⟨rfl, rfl⟩ := hrel
      go_wp2_with fail
      exact HR.out _ [] _ (FR.nil _ _) (Kp.refl _ _)
  · obtain ⟨g, cap, cur, rfl, _, _⟩ := ownsRow_some hrow (by omega)
    clear hrow hat hR hl h0 hlen hne hfl
    go_enter Tryz.func77, Tryz.ntmps77
    go_wp2_with fail
    go_loopw [1, 5, 14] (fun v1 v5 v14 wr => ∃ (k : Nat) (lv' : List Value), k ≤ fs.length ∧ v14 = .int .i64 k ∧ v1 = .int .i64 (n - bytesOf (fs.take k) : Nat) ∧ MidF w fs n k wr v5 lv') (fun _ _ v14 _ => fs.length - (intOf v14).toNat)
    case atStart => exact ⟨0, [], Nat.zero_le _, rfl, by simp [bytesOf], Kp.refl _ _, FR.nil _ _⟩
    case round =>
      obtain ⟨k, lv', hk, rfl, rfl, hM⟩ := hrel
      by_cases hlt : k < fs.length
      · obtain ⟨f, hf⟩ : ∃ f, fs[k]? = some f := ⟨fs[k], List.getElem?_eq_getElem hlt⟩
        obtain ⟨u, hu⟩ : ∃ u, lv[k]? = some u := ⟨lv[k]'(by rw [HLEN.out]; exact hlt), List.getElem?_eq_getElem (by rw [HLEN.out]; exact hlt)⟩
        have hcw := ownsRow_cell HROW.out k u hu
        have hc : wr.cell? ⟨g, k, none⟩ = some u := (hM.kp.cell (World.block_lt_of_cell? _ _ hcw) (fun e => e)).trans hcw
        have hfne := HNE.out f (List.mem_of_getElem? hf)
        have hbr := (HAT.out k u f hu hf)
        obtain ⟨gu, capu, rfl⟩ := hbr.form hfne
        obtain ⟨pu, capu2, eu, hrd⟩ := (hbr.kept hM.kp).rd
        obtain ⟨gu2, ou, epu, hcc⟩ := hrd hfne
        have hfcap : f.length ≤ capu := by
          rcases hbr.2 with ⟨e, _⟩ | ⟨_, c2, _, e, _, _, h2, _⟩
          · cases e
          · injection e with _ _ e3; omega
        rw [epu] at eu
        injection eu with eu1 eu2 eu3
        injection eu1 with eu1
        injection eu1 with e1 e2 e3
        subst e1; subst e2; subst eu3
        clear eu2 epu e3
        have HCC := hid_of hcc
        have HM := hid_of hM
        have HF := hid_of hf
        have hfl2 : f.length ≤ 1000000000 := by have := length_le_bytesOf (List.mem_of_getElem? hf); have := HL.out; omega
        have hfl3 : (f.length : Int) ≤ 1000000000 := by omega
        have hkl : (k : Int) < fs.length := by omega
        clear hcw hbr hM hu hf hrd hcc
        by_cases hz : n - bytesOf (fs.take k) = 0
        · have HZ := hid_of hz
          rw [hz]
          go_wp2_with fail
          refine HR.out _ lv' _ ?_ HM.out.kp
          rw [firstB_done fs n k (by have := HZ.out; omega)]
          exact HM.out.fr
        · have HZ := hid_of hz
          have HE : Hid (∃ q, n - bytesOf (fs.take k) = q + 1) := ⟨n - bytesOf (fs.take k) - 1, by show _ = _; omega⟩
          obtain ⟨q, hq⟩ := HE.out
          have HQ := hid_of hq
          rw [hq]
          have hq0 : (((q + 1 : Nat) : Int) == 0) = false := by simp; omega
          have hqn : ((q : Int) + 1) ≤ 1000000000 := by omega
          have HMIN : Hid (∃ m : Nat, m = min (q + 1) f.length) := ⟨_, rfl⟩
          obtain ⟨m, hm⟩ := HMIN.out
          have hmin : min ((q : Int) + 1) (f.length : Int) = (m : Int) := by omega
          have HMM := hid_of hm
          have hm1 : (m : Int) ≤ f.length := by omega
          have hm2 : (m : Int) ≤ (q : Int) + 1 := by omega
          have hm0 : (0 : Int) ≤ m := by omega
          have hmc : (m : Int) ≤ capu := by omega
          have HTAKE : Hid ((f.take m).length = m) := by show _ = _; rw [List.length_take]; omega
          have HCT : Hid (∀ j, j < (f.take m).length → wr.cell? ⟨gu, 0 + j, none⟩ = some (b8 ((f.take m).getD j 0))) := fun j hj => by
            have hj' : j < m := by rw [HTAKE.out] at hj; exact hj
            rw [HCC.out j (by omega)]
            simp [List.getD, hj']
          clear hz hq hm
          have HM1 := hid_of hm1
          have HM2 := hid_of hm2
          have HFN := hid_of hfne
          clear hm1 hm2 hqn hm0 hfne
          go_wp2_with (first
            | (go_at_call 130; have HC0 := cloneB (R := fun e w1 => ∃ v1, e = .returned v1 ∧ BR wr.heap.size w1 v1 (f.take m) ∧ Kp (fun _ => False) wr w1) gu 0 capu (f.take m) wr (by have := HTAKE.out; omega) HCT.out (fun v1 w1 h1 h2 => ⟨v1, rfl, h1, h2⟩); rw [HTAKE.out] at HC0; refine HC0.mono ?_; rintro e w1 ⟨v1, rfl, hv1, hk1⟩; have HV1 := hid_of hv1; have HK1 := hid_of hk1; obtain ⟨g1, cap1, rfl⟩ := hv1.form (by intro e; have h1 := HTAKE.out; rw [e] at h1; have h2 := HMM.out; have h3 := List.length_pos_iff.2 HFN.out; simp at h1; omega); rw [HTAKE.out]; clear hv1 hk1 HC0)
            | (at_builtin; refine wpF_append _ rfl _ _ rfl w.heap.size u5 _ lv' rfl (HM.out.fr.kept (HK1.out.trans (Kp.alloc _ _ _) (fun _ _ h => h))).row w1.heap.size (.slice (some ⟨g1, 0, none⟩) m cap1) rfl (cell_of (heap_alloc_new w1 _) 0) rfl (by have := firstB_length_le (fs.take k) n; have := List.length_take_le k fs; have := HFL.out; omega) (by have := HM.out.kp.size; have := HK1.out.size; simp; omega) ?_; intro v2 w2 hr2 hk2 hl2; have HR2 := hid_of hr2; have HK2 := hid_of hk2; clear hr2 hk2 hl2)
            | go_in)
          have hB := bytesOf_take fs k f HF.out
          have hQ := HQ.out
          have hMm := HMM.out
          have h5 := HM2.out
          have hw : wrap64 ((q : Int) + 1 - m) = (q : Int) + 1 - m := by unfold wrap64; omega
          refine ⟨⟨k + 1, lv' ++ [.slice (some ⟨g1, 0, none⟩) m cap1], by omega, by go_num, ?_, ?_, ?_⟩, by simp [intOf]; omega⟩
          · rw [hw, show ((q : Int) + 1 - m) = ((n - bytesOf (fs.take (k + 1)) : Nat) : Int) by omega]
          · exact ((HM.out.kp.trans HK1.out (fun _ _ h => h)).trans (Kp.alloc _ _ _) (fun _ _ h => h)).trans HK2.out (fun b hb e => by have := (HM.out.fr.row.lt b e).1; omega)
          · have hstep := firstB_step fs n k f HF.out (by omega)
            rw [hstep]
            have htk : f.take (n - bytesOf (fs.take k)) = f.take m := by rw [hQ, hMm]; exact List.take_eq_take_min
            rw [htk]
            have hb1 : BR wr.heap.size (w1.alloc (.cells #[.slice (some ⟨g1, 0, none⟩) m cap1] 48)) (.slice (some ⟨g1, 0, none⟩) m cap1) (f.take m) := by
              have h := HV1.out
              rw [HTAKE.out] at h
              exact h.kept (Kp.alloc _ _ _)
            exact FR.snoc (w := wr) (HM.out.fr.kept (HK1.out.trans (Kp.alloc _ _ _) (fun _ _ h => h))) hb1 (fun b e => (HM.out.fr.row.lt b e).2) (fun i x hx b e => ((HM.out.fr.at_ i x _ hx (List.getElem?_eq_getElem (by rw [← HM.out.fr.len]; exact (List.getElem?_eq_some_iff.1 hx).1))).lt b e).2) HM.out.kp.size HR2.out HK2.out
      · have hk' : k = fs.length := by omega
        subst hk'
        go_wp2_with fail
        refine HR.out _ lv' _ ?_ hM.kp
        have := hM.fr
        rw [List.take_length] at this
        exact this

end

end Go.Proofs.YthbdpfccfcceiaaGreatDoor
