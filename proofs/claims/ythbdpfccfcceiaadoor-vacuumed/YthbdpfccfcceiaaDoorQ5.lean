/-
  Scan of a store, told of its plain state.
-/
import Derived.Test.YthbdpfccfcceiaaDoorQ4
namespace Go.Proofs.YthbdpfccfcceiaaDoor
open Go.RowKit Go.Maps Go.Sort

theorem infoPair : (Tryd.prog.info? 38).map (fun i => (i.zero, i.size, i.bytes)) = some (some (.agg #[.string ⟨#[]⟩, .string ⟨#[]⟩]), 2, 32) := by kernel_rfl

def cells2 (ps : List (ByteArray × ByteArray)) : List Value := ps.flatMap fun q => [.string q.1, .string q.2]
theorem cells2_len (ps : List (ByteArray × ByteArray)) : (cells2 ps).length = ps.length * 2 := by
  induction ps with
  | nil => rfl
  | cons a r ih => simp [cells2] at ih ⊢; omega
theorem cells2_snoc (ps : List (ByteArray × ByteArray)) (a b : ByteArray) : cells2 ps ++ [.string a, .string b] = cells2 (ps ++ [(a, b)]) := by simp [cells2]

theorem two_new (w : World) (x y : Value) (t : TypeId) : ∀ j u, [x, y][j]? = some u → (w.alloc (.cells #[x, y] t)).cell? ((⟨w.heap.size, 0, none⟩ : Addr).add j) = some u := by
  intro j u hj
  match j, hj with
  | 0, hj => simp at hj; subst hj; simp [Addr.add]
  | 1, hj => simp at hj; subst hj; simp [Addr.add]

def pairOf (g : ByteArray → ByteArray × Bool) (k : ByteArray) : Option (ByteArray × ByteArray) := if (g k).2 then some (k, (g k).1) else none

section
variable {own own' : Nat → Lab} {c : Nat} {w w' : World} {p : Nat} {s : XS} {mo ph mv mm : Nat} {pt mw : Int → Nat} {sl : ByteArray → Value}
variable {R : Ending → World → Prop}

theorem row_cell {base : Nat} {v : Value} {ks : List ByteArray} (h : w.ownsRow base 9 1 v ks.length (ks.map Value.string)) : ∃ a cap, v = .slice a ks.length cap ∧ (ks ≠ [] → ∃ g, a = some ⟨g, 0, none⟩ ∧ base ≤ g ∧ g < w.heap.size ∧ ∀ j (hj : j < ks.length), w.cell? ⟨g, j, none⟩ = some (.string ks[j])) := by
  rcases h.2 with ⟨rfl, h0⟩ | ⟨g, cap, cur, rfl, hb, hg, hn, _, hcs, ht⟩
  · exact ⟨none, 0, by rw [h0], fun hk => absurd (List.eq_nil_of_length_eq_zero h0) hk⟩
  · refine ⟨_, cap, rfl, fun _ => ⟨g, rfl, hb, block_lt hg, fun j hj => ?_⟩⟩
    rw [cell_of hg, ← Array.getElem?_toList]
    rw [Nat.mul_one] at ht
    have h1 : (cur.toList.take ks.length)[j]? = (ks.map Value.string)[j]? := by rw [ht]
    rw [List.getElem?_take, if_pos hj, List.getElem?_map, List.getElem?_eq_getElem hj] at h1
    simpa using h1

set_option maxRecDepth 20000 in
set_option maxHeartbeats 1000000 in
theorem x_scan (h : XR own c w p s mo ph mv mm pt mw sl) (tx : Int) (hwx : (Lit.int .i64 tx).wf = true) (f t : ByteArray) (hnm : s.nm < 100000) (hnw : ∀ n x, s.txs n = some x → x.nw ≤ 10) (hm : ∀ k, MomOk s k) (hkey : ∀ k, s.mom k ≠ [] → k.size ≤ 8) (hkw : ∀ n x, s.txs n = some x → ∀ k, (x.wr k).isSome = true → k.size ≤ 8)
    (h0 : s.txs tx = none → R (.returned (.tuple #[.slice none 0 0, .int .i64 2])) w)
    (h1 : ∀ x, s.txs tx = some x → ∀ w' v (ks : List ByteArray), Kp (fun _ => False) w w' → ks.Pairwise blt → (∀ k, k ∈ ks ↔ (s.mom k ≠ [] ∨ (x.wr k).isSome = true) ∧ inR f t k = true) → ks.length ≤ s.nm + 10 →
      w'.ownsRow w.heap.size 38 2 v (ks.filterMap (pairOf (seesX s x))).length (cells2 (ks.filterMap (pairOf (seesX s x)))) → R (.returned (.tuple #[v, .int .i64 0])) w') :
    Calls Tryd.prog 14 #[.pointer (some ⟨p, 0, none⟩), .int .i64 tx, .string f, .string t] w R := by
  have hkey1 : Hid _ := keyOf_int_mk Tryd.underlying3 hwx
  have c2 : w.cell? ⟨p, 7, none⟩ = some (.map (some mo)) := cell_of h.store 7
  have hopn := h.opn
  have H : Hid (XR own c w p s mo ph mv mm pt mw sl) := h
  cases e : s.txs tx with
  | none =>
    have hf : (encI fun n => (s.txs n).map fun _ => Value.pointer (some ⟨pt n, 0, none⟩)) (.int .i64 tx) = none := by rw [encI_at, e]; rfl
    have HR := h0 e
    clear h h0 h1 hnm hm hnw hkey hkw
    go_enter Tryd.func14, Tryd.ntmps14
    go_wp2_with (first
      | (at_lookup; refine wpL_lookup_ok _ rfl _ _ 61 rfl 3 65 kInt Tryd.underlying61 (zTxP _) mo s.nopen _ rfl hopn (.int .i64 tx) _ rfl hkey1.out _ hf ?_)
      | go_in)
    exact HR
  | some x =>
    have hf : (encI fun n => (s.txs n).map fun _ => Value.pointer (some ⟨pt n, 0, none⟩)) (.int .i64 tx) = some (.pointer (some ⟨pt tx, 0, none⟩)) := by rw [encI_at, e]; rfl
    have HR : Hid _ := h1 x e
    have HN : Hid _ := hnm
    have HM : Hid _ := hm
    have HW : Hid (∀ k, (s.mom k ≠ [] ∨ (x.wr k).isSome = true) → k.size ≤ 8) := fun k hk => hk.elim (hkey k) (hkw tx x e k)
    have HNW := hnw tx x e
    obtain ⟨i0, hi, hz0, hz1, hz2⟩ := info_parts infoPair
    clear h h0 h1 hnm hm hnw hkey hkw
    go_enter Tryd.func14, Tryd.ntmps14
    go_wp2_with (first
      | (at_lookup; refine wpL_lookup_ok _ rfl _ _ 61 rfl 3 65 kInt Tryd.underlying61 (zTxP _) mo s.nopen _ rfl hopn (.int .i64 tx) _ rfl hkey1.out _ hf ?_)
      | (go_at_call 29; refine x_candidates H.out tx x e f t HN.out HNW (fun w1 v1 ks hk1 hrow hsort hmem hlen => ?_); have H1 : Hid (XR own c w1 p s mo ph mv mm pt mw sl) := H.out.kept hk1; obtain ⟨a1, cap1, rfl, hcell⟩ := row_cell hrow; have HC : Hid _ := hcell; have HROW : Hid _ := hrow; have HSO : Hid _ := hsort; have HME : Hid _ := hmem; have HLE : Hid _ := hlen; clear hcell hrow hsort hmem hlen)
      | go_in)
    clear hf hopn c2
    have HS1 : Hid (w.heap.size ≤ w1.heap.size) := hk1.size
    go_loopw [12, 34] (fun v12 v34 wr => ∃ i : Nat, i ≤ ks.length ∧ v34 = .int .i64 i ∧ Kp (fun _ => False) w1 wr ∧ wr.ownsRow w1.heap.size 38 2 v12 ((ks.take i).filterMap (pairOf (seesX s x))).length (cells2 ((ks.take i).filterMap (pairOf (seesX s x)))))
      (fun _ v34 _ => ks.length - (intOf v34).toNat)
    case atStart => exact ⟨0, Nat.zero_le _, rfl, Kp.refl _ _, World.ownsRow_nil _ _ _ _⟩
    case round =>
      obtain ⟨i, hile, rfl, hkp, hown⟩ := hrel
      by_cases hlt : i < ks.length
      · obtain ⟨g, rfl, hg1, hg2, hcell⟩ := HC.out (fun h => by rw [h] at hlt; simp at hlt)
        have hck : wr.cell? ⟨g, i, none⟩ = some (.string ks[i]) := (hkp.cell (a := ⟨g, i, none⟩) hg2 (fun h => h)).trans (hcell i hlt)
        have hki : ks[i] ∈ ks := List.getElem_mem _
        have hkk := (HME.out ks[i]).1 hki
        have htk : ks.take (i + 1) = ks.take i ++ [ks[i]] := List.take_succ_eq_append_getElem hlt
        have HT : Hid _ := htk
        have hlt' : (i : Int) < ks.length := by omega
        have hi1 : (i : Int) ≤ 1000000 := by have := HLE.out; have := HN.out; omega
        have hlenps : Hid (((ks.take i).filterMap (pairOf (seesX s x))).length ≤ 1000000) := by
          show _ ≤ _
          have h1 := List.length_filterMap_le (pairOf (seesX s x)) (ks.take i)
          have h2 : (ks.take i).length ≤ i := by simp [List.length_take]; omega
          have := HLE.out; have := HN.out; omega
        have hxr : Hid (XR own c wr p s mo ph mv mm pt mw sl) := H1.out.kept hkp
        have HWK : Hid _ := HW.out _ hkk.1
        have HKP : Hid (Kp (fun _ => False) w1 wr) := hkp
        generalize hkeq : ks[i] = k at *
        clear hkk hki htk hkp hcell
        cases hs : (seesX s x k).2
        · go_wp2_with (first
            | (go_at_call 30; refine x_look hxr.out tx x e k HWK.out (HM.out k) (fun w2 hk2 => ?_); have HK2 : Hid (Kp (fun _ => False) wr w2) := hk2; clear hk2)
            | go_in)
          go_roundw
          case rel =>
            refine ⟨i + 1, by omega, by go_num, HKP.out.trans HK2.out (fun _ _ h => h), ?_⟩
            have hp0 : (ks.take (i + 1)).filterMap (pairOf (seesX s x)) = (ks.take i).filterMap (pairOf (seesX s x)) := by rw [HT.out, List.filterMap_append]; simp [pairOf, hs]
            rw [hp0]
            exact ownsRow_kp hown HK2.out (fun _ _ h => h)
          case measure => simp [intOf]; omega
        · go_wp2_with (first
            | (go_at_call 30; refine x_look hxr.out tx x e k HWK.out (HM.out k) (fun w2 hk2 => ?_); have HK2 : Hid (Kp (fun _ => False) wr w2) := hk2; have hown2 := ownsRow_kp hown hk2 (fun _ _ h => h); clear hk2)
            | (at_builtin; refine wpList_append_own_at _ rfl _ _ 33 rfl w1.heap.size 38 i0 (.agg #[.string ⟨#[]⟩, .string ⟨#[]⟩]) 2 32 Tryd.underlying33 hi hz0 hz1 hz2 rfl (by decide) _ _ _ rfl (hown2.alloc _) ⟨w2.heap.size, 0, none⟩ 1 1 [.string k, .string (seesX s x k).1] rfl rfl (two_new _ _ _ _) (by simp [Value.oneCell']) (by have := hlenps.out; unfold maxLen; omega) (by have := hlenps.out; omega) (by have := HKP.out.size; have := HK2.out.size; simp; omega) ?_; intro v' w3 hown' hgrow hnil hloc)
            | go_in)
          have hb1 : ∀ b, Value.ownBlock u12 = some b → w1.heap.size ≤ b := fun b hb => (hown2.lt b hb).1
          go_roundw
          case rel =>
            refine ⟨i + 1, by omega, by go_num, ((HKP.out.trans HK2.out (fun _ _ h => h)).trans ((Kp.alloc (fun b => Value.ownBlock u12 = some b) w2 _).trans (Kp.of_grown (S := fun b => Value.ownBlock u12 = some b) hgrow (fun _ h => h)) (fun _ _ h => h)) (fun b hb h => by have := hb1 b h; omega)), ?_⟩
            have hp0 : (ks.take (i + 1)).filterMap (pairOf (seesX s x)) = (ks.take i).filterMap (pairOf (seesX s x)) ++ [(k, (seesX s x k).1)] := by rw [HT.out, List.filterMap_append]; simp [pairOf, hs]
            rw [hp0, List.length_append, ← cells2_snoc]
            exact hown'
          case measure => simp [intOf]; omega
      · have hie : i = ks.length := by omega
        subst hie
        rw [List.take_length] at hown
        go_wp2_with fail
        refine HR.out wr u12 ks (hk1.trans hkp (fun _ _ h => h)) HSO.out HME.out HLE.out ⟨hown.1, hown.2.imp id (fun ⟨g, cap, cur, e1, e2, e3⟩ => ⟨g, cap, cur, e1, Nat.le_trans HS1.out e2, e3⟩)⟩

end

end Go.Proofs.YthbdpfccfcceiaaDoor
