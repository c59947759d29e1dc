/-
  How many of a key's versions may go: (*History).spent, told of the store's plain state.
  The keys of which a version may go: (*History).spentKeys, told of the store's plain state.
-/
import Derived.Test.YthbdpfccfcceiaaGreatDoorL1L2
import Derived.Test.YthbdpfccfcceiaaGreatDoorQ2Q3
namespace Go.Proofs.YthbdpfccfcceiaaGreatDoor
open Go.RowKit Go.Maps

theorem kp_dr {w w' : World} (h : w' = w ∨ w' = w.drew ∨ ∃ q, w' = w.drewN q) : Kp (fun _ => False) w w' := by
  rcases h with rfl | rfl | ⟨q, rfl⟩
  · exact Kp.refl _ _
  · exact Kp.drew _ _
  · exact Kp.drewN _ _ _

theorem run_deleted (v : ByteArray) (g : Bool) (w : World) : (Instr.field 138 (.agg #[.string v, .bool g]) 1).run Tryz.prog w = .ok (.bool g) w := by kernel_rfl

section
variable {R : Ending → World → Prop}

set_option maxRecDepth 20000 in
set_option maxHeartbeats 400000 in
theorem spent_empty (ph mm n : Nat) (f : Value → Option Value) (key : ByteArray) (t : Int) (w : World) (c1 : w.cell? ⟨ph, 1, none⟩ = some (.map (some mm))) (hown : fmap w Tryz.prog 9 mm n f)
    (hlen : key.size ≤ 8) (a : Option Addr) (cap : Nat) (hf : (f (.string key)).getD (.slice none 0 0) = .slice a 0 cap)
    (hR : ∀ w', Kp (fun _ => False) w w' → R (.returned (.int .i64 0)) w') :
    Calls Tryz.prog 81 #[.pointer (some ⟨ph, 0, none⟩), .string key, .int .i64 t] w R := by
  have hkey : Hid _ := WideMaps.keyOf_string_mk Tryz.underlying9 (show key.size ≤ maxLen by unfold maxLen; omega)
  have HR := hid_of hR
  clear hlen hR
  go_enter Tryz.func81, Tryz.ntmps81
  go_wp2_with (first
    | (at_lookup; refine wpL_lookup _ rfl _ _ 207 rfl 9 26 kStr Tryz.underlying207 (zInts _) mm n f rfl hown (.string key) _ rfl hkey.out _ hf ?_)
    | (go_at_call 134; refine upto_empty _ _ _ _ ?_)
    | go_in)
  go_quiet (fail)
  go_wp2
  exact HR.out _ (Kp.drewN (fun _ => False) _ _)

set_option maxRecDepth 20000 in
set_option maxHeartbeats 400000 in
theorem spent_none (ph mm n : Nat) (f : Value → Option Value) (key : ByteArray) (t : Int) (w : World) (c1 : w.cell? ⟨ph, 1, none⟩ = some (.map (some mm))) (hown : fmap w Tryz.prog 9 mm n f)
    (hlen : key.size ≤ 8) (g cap : Nat) (zs : List Int) (hf : (f (.string key)).getD (.slice none 0 0) = .slice (some ⟨g, 0, none⟩) zs.length cap) (hl : zs.length < 1000000)
    (hc : ∀ j, j < zs.length → w.cell? ⟨g, j, none⟩ = some (.int .i64 (zs.getD j 0))) (hs : zs.Pairwise (· < ·)) (h0 : zs.countP (fun m => decide (m ≤ t)) = 0)
    (hR : ∀ w', Kp (fun _ => False) w w' → R (.returned (.int .i64 0)) w') :
    Calls Tryz.prog 81 #[.pointer (some ⟨ph, 0, none⟩), .string key, .int .i64 t] w R := by
  have hkey : Hid _ := WideMaps.keyOf_string_mk Tryz.underlying9 (show key.size ≤ maxLen by unfold maxLen; omega)
  have HR := hid_of hR
  have hB := hid_of (fun (R : Ending → World → Prop) => upto_row (R := R) g cap zs t w 0 hl hc hs h0)
  clear hlen hR hc hs h0
  go_enter Tryz.func81, Tryz.ntmps81
  go_wp2_with (first
    | (at_lookup; refine wpL_lookup _ rfl _ _ 207 rfl 9 26 kStr Tryz.underlying207 (zInts _) mm n f rfl hown (.string key) _ rfl hkey.out _ hf ?_)
    | (go_at_call 134; refine hB.out _ (fun q => ?_))
    | go_in)
  go_quiet (fail)
  go_wp2
  exact HR.out _ ((Kp.drewN _ w q).trans (Kp.drewN (fun _ => False) _ _) (fun _ _ h => h))

set_option maxRecDepth 20000 in
set_option maxHeartbeats 1000000 in
theorem spent_some (ph mv mm n nv : Nat) (f fv : Value → Option Value) (key : ByteArray) (t : Int) (w : World) (c0 : w.cell? ⟨ph, 0, none⟩ = some (.map (some mv))) (c1 : w.cell? ⟨ph, 1, none⟩ = some (.map (some mm)))
    (hown : fmap w Tryz.prog 9 mm n f) (hver : fmap w Tryz.prog 225 mv nv fv)
    (hlen : key.size ≤ 8) (g cap : Nat) (zs : List Int) (hf : (f (.string key)).getD (.slice none 0 0) = .slice (some ⟨g, 0, none⟩) zs.length cap) (hl : zs.length < 1000000)
    (hc : ∀ j, j < zs.length → w.cell? ⟨g, j, none⟩ = some (.int .i64 (zs.getD j 0))) (hs : zs.Pairwise (· < ·))
    (idx : Nat) (hidx : zs.countP (fun m => decide (m ≤ t)) = idx + 1)
    (m : Int) (hm : zs.getD idx 0 = m) (hwm : (Lit.int .i64 m).wf = true) (val : ByteArray) (gone : Bool) (hv : fv (.agg #[.string key, .int .i64 m]) = some (.agg #[.string val, .bool gone]))
    (h1 : gone = true → ∀ w', Kp (fun _ => False) w w' → R (.returned (.int .i64 (idx + 1))) w')
    (h2 : gone = false → ∀ w', Kp (fun _ => False) w w' → R (.returned (.int .i64 idx)) w') :
    Calls Tryz.prog 81 #[.pointer (some ⟨ph, 0, none⟩), .string key, .int .i64 t] w R := by
  have hkey : Hid _ := WideMaps.keyOf_string_mk Tryz.underlying9 (show key.size ≤ maxLen by unfold maxLen; omega)
  have H1 := hid_of h1
  have H2 := hid_of h2
  have hB := hid_of (fun (R : Ending → World → Prop) => upto_row (R := R) g cap zs t w (idx + 1) hl hc hs hidx)
  have hlt : idx < zs.length := by have := List.countP_le_length (p := fun m => decide (m ≤ t)) (l := zs); omega
  have hcm := hc idx hlt
  rw [hm] at hcm
  obtain ⟨kl, hkl⟩ := keyPlace key m (by unfold maxLen; omega) hwm
  have hlk : Hid (∀ W : World, W.heap[mv]? = w.heap[mv]? → (Instr.lookup 206 (.map (some mv)) (.agg #[.string key, .int .i64 m]) false).run Tryz.prog W = .ok (.agg #[.string val, .bool gone]) W) := fun W hW => by
    have := (hver.of_block hW).look false kPlace Tryz.underlying206 (zVer W) hkl
    rw [hv] at this
    simpa using this
  have hmv := hver.lt
  have hlt' : (idx : Int) < zs.length := by omega
  have hi0 : (idx : Int) ≤ 1000000 := by omega
  have hwrp : IntKind.i64.wrap (idx : Int) = (idx : Int) := IntWalk.i64_in _ (by omega)
  clear hlen h1 h2 hc hs hidx hm hwm hv hkl hver hlt hl
  generalize zs.length = L at hf hB hlt'
  have hne0 : ((idx : Int) + 1 == 0) = false := by simp; omega
  cases gone
  all_goals
    go_enter Tryz.func81, Tryz.ntmps81
    go_wp2_with (first
      | (at_lookup; refine wpL_lookup _ rfl _ _ 207 rfl 9 26 kStr Tryz.underlying207 (zInts _) mm n f rfl hown (.string key) _ rfl hkey.out _ hf ?_)
      | (go_at_call 134; refine hB.out _ (fun q => ?_); rw [show ((idx + 1 : Nat) : Int) = (idx : Int) + 1 from rfl])
      | go_in)
    generalize hW : w.drewN q = W
    have a0 : W.cell? ⟨ph, 0, none⟩ = some (.map (some mv)) := by rw [← hW]; exact c0
    have a1 : W.cell? ⟨g, idx, none⟩ = some (.int .i64 m) := by rw [← hW]; exact hcm
    have l0 := fun q => hlk.out (W.drewN q) (by rw [← hW]; rfl)
    have kk : Kp (fun _ => False) w W := by rw [← hW]; exact Kp.drewN _ _ _
    have hfld := run_deleted
    clear hlk hW hown c0 c1 hcm
    go_quiet (fail)
    clear l0 a0 a1
    go_wp2
  · exact H2.out trivial _ (kk.trans (Kp.drewN (fun _ => False) _ _) (fun _ _ h => h))
  · exact H1.out trivial _ (kk.trans (Kp.drewN (fun _ => False) _ _) (fun _ _ h => h))

end

/-- How many of a key's versions may go. -/
def spentX (s : XS) (k : ByteArray) (t : Int) : Nat :=
  match ((s.mom k).filter (fun m => decide (m ≤ t))).getLast? with
  | none => 0
  | some m => if ((s.ver k m).getD (eb, false)).2 = true then (s.mom k).countP (fun m => decide (m ≤ t)) else (s.mom k).countP (fun m => decide (m ≤ t)) - 1

section
variable {own own' : Nat → Lab} {c : Nat} {w w' : World} {p : Nat} {s : XS} {mo ph mv mm : Nat} {pt mw : Int → Nat} {sl : ByteArray → Value}
variable {R : Ending → World → Prop}

theorem x_spent (h : XR own c w p s mo ph mv mm pt mw sl) (key : ByteArray) (t : Int) (hlen : key.size ≤ 8) (hm : MomOk s key)
    (hR : ∀ w', Kp (fun _ => False) w w' → R (.returned (.int .i64 (spentX s key t))) w') :
    Calls Tryz.prog 81 #[.pointer (some ⟨ph, 0, none⟩), .string key, .int .i64 t] w R := by
  have hl := hm.len
  have hs := hm.up
  have hw := hm.ver
  have c0 : w.cell? ⟨ph, 0, none⟩ = some (.map (some mv)) := cell_of h.hist 0
  have c1 : w.cell? ⟨ph, 1, none⟩ = some (.map (some mm)) := cell_of h.hist 1
  by_cases hm : s.mom key = []
  · have hv : spentX s key t = 0 := by simp [spentX, hm]
    rw [hv] at hR
    exact spent_empty ph mm s.nm _ key t w c1 h.moms hlen none 0 (by rw [encS_at, if_pos hm]; rfl) hR
  · obtain ⟨g, cap, hv, hc⟩ := ownsRow_cells (h.row key hm) hm
    have hf : ((encS fun k => if s.mom k = [] then none else some (sl k)) (.string key)).getD (.slice none 0 0) = .slice (some ⟨g, 0, none⟩) (s.mom key).length cap := by rw [encS_at, if_neg hm, hv]; rfl
    have hft := filter_take (s.mom key) t hs
    by_cases h0 : (s.mom key).countP (fun m => decide (m ≤ t)) = 0
    · have hval : spentX s key t = 0 := by simp [spentX, hft, h0]
      rw [hval] at hR
      exact spent_none ph mm s.nm _ key t w c1 h.moms hlen g cap (s.mom key) hf hl hc hs h0 hR
    · obtain ⟨idx, hidx⟩ : ∃ idx, (s.mom key).countP (fun m => decide (m ≤ t)) = idx + 1 := ⟨_, (Nat.succ_pred_eq_of_ne_zero h0).symm⟩
      have hle : idx + 1 ≤ (s.mom key).length := by rw [← hidx]; exact List.countP_le_length
      have hmem : (s.mom key).getD idx 0 ∈ s.mom key := by
        simp only [List.getD, List.getElem?_eq_getElem (show idx < (s.mom key).length by omega), Option.getD_some]
        exact List.getElem_mem _
      obtain ⟨hwf, hsome⟩ := hw _ hmem
      obtain ⟨v, hv'⟩ := Option.isSome_iff_exists.1 hsome
      have hlast : ((s.mom key).filter (fun m => decide (m ≤ t))).getLast? = some ((s.mom key).getD idx 0) := by
        rw [hft, hidx, List.getLast?_eq_getElem?, List.length_take, Nat.min_eq_left hle, Nat.add_sub_cancel, List.getElem?_take]
        simp [List.getD, List.getElem?_eq_getElem (show idx < (s.mom key).length by omega)]
      have hval : spentX s key t = if v.2 = true then idx + 1 else idx := by simp only [spentX, hlast, hv', Option.getD_some, hidx, Nat.add_sub_cancel]
      rw [hval] at hR
      refine spent_some ph mv mm s.nm s.nv _ _ key t w c0 c1 h.moms h.vers hlen g cap (s.mom key) hf hl hc hs idx hidx _ rfl hwf v.1 v.2 (by rw [encP_at, hv']; rfl) (fun e w' k => ?_) (fun e w' k => ?_)
      · have := hR w' k
        rw [if_pos e] at this
        exact this
      · have := hR w' k
        rw [if_neg (by rw [e]; simp)] at this
        exact this

end

end Go.Proofs.YthbdpfccfcceiaaGreatDoor

namespace Go.Proofs.YthbdpfccfcceiaaGreatDoor
open Go.RowKit Go.Maps Go.Sort

section
variable {own own' : Nat → Lab} {c : Nat} {w w' : World} {p : Nat} {s : XS} {mo ph mv mm : Nat} {pt mw : Int → Nat} {sl : ByteArray → Value}
variable {R : Ending → World → Prop}

theorem spentX_nil {s : XS} {k : ByteArray} {t : Int} (h : s.mom k = []) : spentX s k t = 0 := by simp [spentX, h]

set_option maxRecDepth 20000 in
set_option maxHeartbeats 1000000 in
theorem x_spentKeys (h : XR own c w p s mo ph mv mm pt mw sl) (t : Int) (hnm : s.nm < 100000) (hm : ∀ k, MomOk s k) (hkey : ∀ k, s.mom k ≠ [] → k.size ≤ 8)
    (hR : ∀ w' v (ks : List ByteArray), Kp (fun _ => False) w w' → w'.ownsRow (w.heap.size + 1) 9 1 v ks.length (ks.map Value.string) → (∀ k, k ∈ ks ↔ 0 < spentX s k t) → ks.length ≤ s.nm → ks.Pairwise blt → R (.returned v) w') :
    Calls Tryz.prog 80 #[.pointer (some ⟨ph, 0, none⟩), .int .i64 t] w R := by
  have c1 : w.cell? ⟨ph, 1, none⟩ = some (.map (some mm)) := cell_of h.hist 1
  have hmoms := h.moms
  have H := hid_of h
  have HR := hid_of hR
  have HN := hid_of hnm
  have HMO := hid_of hm
  have HW := hid_of hkey
  clear hR h hnm hm hkey
  obtain ⟨i0, hi, hz0, hz1, hz2⟩ := info_parts infoStr
  go_enter Tryz.func80, Tryz.ntmps80
  go_wp2_with (first
    | (at_range; refine wpL_range _ rfl _ 207 rfl 9 26 kStr Tryz.underlying207 mm s.nm _ rfl hmoms ?_; intro w0 hrg0 hg0 hs0)
    | go_in)
  go_frame
  go_loopw [5, 6] (fun v7 _ wr => ∃ (left : Value → Bool) (cnt : Nat) (ks : List ByteArray), frng wr Tryz.prog 9 mm w.heap.size s.nm (encS fun k => if s.mom k = [] then none else some (sl k)) left cnt ∧ Kp (fun _ => False) w wr ∧ wr.ownsRow (w.heap.size + 1) 9 1 v7 ks.length (ks.map Value.string) ∧
      (∀ k, k ∈ ks ↔ s.mom k ≠ [] ∧ left (.string k) = false ∧ 0 < spentX s k t) ∧ ks.length + cnt ≤ s.nm ∧ w.heap.size + 1 ≤ wr.heap.size ∧ ks.Nodup)
    (fun _ _ wr => wr.rangeLeft mm w.heap.size)
  case atStart =>
    refine ⟨_, _, [], hrg0, Kp.of_grown hg0 (fun _ h => by cases h), World.ownsRow_nil _ _ _ _, fun k => ?_, by simp, by omega, List.nodup_nil⟩
    constructor
    · intro h; cases h
    · rintro ⟨h1, h2, _⟩
      rw [encS_at, if_neg h1] at h2; cases h2
  case round =>
    obtain ⟨left, cnt, ks, hrg, hkp, hrow, hmem, hcnt, hsz, hnd⟩ := hrel
    have HM := hid_of hmem
    have HC := hid_of hcnt
    have HZ := hid_of hsz
    have HND := hid_of hnd
    clear hmem hcnt hsz hnd
    go_wp2_with (first
      | (at_next; refine wpL_next _ rfl _ rfl 9 kStr Value.string (fun v : Value => v) mm w.heap.size s.nm _ left cnt (fun key v hv => ?inv) rfl hrg ?_ ?_)
      | go_in)
    case inv => exact encM_inv hv
    · intro _ hl0
      go_wp2_with (first
        | (go_at_call 133; refine (sort_row hrow (by have := HC.out; have := HN.out; omega)).mono ?_; rintro e w4 ⟨rfl, ks', hperm, hso, hrow', hk4⟩)
        | go_in)
      refine HR.out w4 _ ks' (hkp.trans hk4 (fun b hb hb' => absurd ((hrow.lt b hb').1) (by omega))) hrow' (fun k => ?_) (by rw [hperm.length_eq]; have := HC.out; omega) (sorted_strict hso (hperm.nodup_iff.2 HND.out))
      rw [hperm.mem_iff, HM.out k]
      exact ⟨fun ⟨_, _, h3⟩ => h3, fun h3 => ⟨fun e => by rw [spentX_nil e] at h3; omega, hl0 _, h3⟩⟩
    · intro k v w1 cnt1 hlk hfk left' hrg1 hl1 hl2 hlt hg1 hs1 hen
      have hmk : s.mom k ≠ [] := fun e => by rw [encS_at, if_pos e] at hfk; cases hfk
      clear hfk
      have hkp1 : Kp (fun _ => False) w w1 := hkp.trans (Kp.of_grown (S := fun b => b = w.heap.size) hg1 (fun b hb => by cases hb; rfl)) (fun b hb e => by omega)
      have hrow1 := ownsRow_kp hrow (Kp.of_grown (S := fun b => b = w.heap.size) hg1 (fun b hb => by cases hb; rfl)) (fun b hb e => by have := (hrow.lt b hb).1; omega)
      have HX : Hid (∀ k', left' (.string k') = false ↔ (k' = k ∨ left (.string k') = false)) := fun k' => by
        by_cases e : k' = k
        · subst e; simp [hl1]
        · rw [hl2 _ (fun h => e (by injection h))]; simp [e]
      have HLK : Hid (left (.string k) = true) := hlk
      have hs1' : w.heap.size + 1 ≤ w1.heap.size := by rw [hs1]; exact HZ.out
      have HZ1 := hid_of hs1'
      have HMK := hid_of hmk
      have H1 := hid_of (H.out.kept hkp1)
      have HK8 := hid_of (HW.out k hmk)
      clear hlk hl1 hl2 hmk hs1' hg1 hs1
      have hmm := hmoms.lt
      by_cases hsp : 0 < spentX s k t
      · have d0 : decide ((0 : Int) < (spentX s k t : Int)) = true := by simpa using hsp
        have HSP := hid_of hsp
        clear hsp
        go_wp2_with (first
          | (go_at_call 81; refine x_spent H1.out k t HK8.out (HMO.out k) (fun w2 hk2 => ?_); have hrow2 := ownsRow_kp hrow1 hk2 (fun _ _ h => h); have HK2 := hid_of hk2; clear hk2)
          | (at_builtin; refine wpList_append_own_at _ rfl _ _ 142 rfl (w.heap.size + 1) 9 i0 (.string ⟨#[]⟩) 1 16 Tryz.underlying142 hi hz0 hz1 hz2 rfl (by decide) _ _ _ rfl (hrow2.alloc _) ⟨w2.heap.size, 0, none⟩ 1 1 [.string k] rfl rfl (cell_one_new _ _ _) (by simp [Value.oneCell']) (by have := HC.out; have := HN.out; unfold maxLen; omega) (by have := HC.out; have := HN.out; omega) (by have := HZ1.out; have := HK2.out.size; simp; omega) ?_; intro v' w3 hown' hgrow hnil hloc)
          | go_in)
        have hlt1 : ∀ b, Value.ownBlock u5 = some b → w.heap.size + 1 ≤ b := fun b hb => (hrow1.lt b hb).1
        have K13 : Kp (fun b => Value.ownBlock u5 = some b) w1 w3 := (HK2.out.mono (fun _ _ h => h.elim)).trans ((Kp.alloc (fun b => Value.ownBlock u5 = some b) w2 _).trans (Kp.of_grown (S := fun b => Value.ownBlock u5 = some b) hgrow (fun _ h => h)) (fun _ _ h => h)) (fun _ _ h => h)
        have hr1 := HZ1.out
        have hrg2 : frng w3 Tryz.prog 9 mm w.heap.size s.nm (encS fun k => if s.mom k = [] then none else some (sl k)) left' cnt1 := hrg1.of_block (K13.block mm hrg1.toMap.lt (fun e => by have := hlt1 _ e; omega)) (K13.block _ (by omega) (fun e => by have := hlt1 _ e; omega))
        go_roundw
        case rel =>
          refine ⟨left', cnt1, ks ++ [k], hrg2, hkp1.trans K13 (fun b hb e => by have := hlt1 _ e; omega), by simpa using hown', fun k' => ?_, by have := HC.out; simp; omega, Nat.le_trans HZ1.out K13.size, List.nodup_append.2 ⟨HND.out, by simp, fun a ha b hb => by simp at hb; subst hb; intro e; subst e; have := ((HM.out a).1 ha).2.1; rw [HLK.out] at this; cases this⟩⟩
          rw [List.mem_append, List.mem_singleton, HM.out k', HX.out k']
          constructor
          · rintro (⟨h1, h2, h3⟩ | rfl)
            · exact ⟨h1, Or.inr h2, h3⟩
            · exact ⟨HMK.out, Or.inl rfl, HSP.out⟩
          · rintro ⟨h1, h2 | h2, h3⟩
            · exact Or.inr h2
            · exact Or.inl ⟨h1, h2, h3⟩
        case measure => rw [hrg2.left_eq, hrg.left_eq]; exact hlt
      · have d0 : decide ((0 : Int) < (spentX s k t : Int)) = false := by simpa using hsp
        have HSP := hid_of hsp
        clear hsp
        go_wp2_with (first
          | (go_at_call 81; refine x_spent H1.out k t HK8.out (HMO.out k) (fun w2 hk2 => ?_); have hrow2 := ownsRow_kp hrow1 hk2 (fun _ _ h => h); have HK2 := hid_of hk2; clear hk2)
          | go_in)
        have hr1 := HZ1.out
        have hrg2 : frng w2 Tryz.prog 9 mm w.heap.size s.nm (encS fun k => if s.mom k = [] then none else some (sl k)) left' cnt1 := hrg1.of_block (HK2.out.block mm hrg1.toMap.lt (fun e => e)) (HK2.out.block _ (by omega) (fun e => e))
        go_roundw
        case rel =>
          refine ⟨left', cnt1, ks, hrg2, hkp1.trans HK2.out (fun _ _ h => h), hrow2, fun k' => ?_, by have := HC.out; omega, Nat.le_trans HZ1.out HK2.out.size, HND.out⟩
          rw [HM.out k', HX.out k']
          constructor
          · rintro ⟨h1, h2, h3⟩; exact ⟨h1, Or.inr h2, h3⟩
          · rintro ⟨h1, h2 | h2, h3⟩
            · subst h2; exact absurd h3 HSP.out
            · exact ⟨h1, h2, h3⟩
        case measure => rw [hrg2.left_eq, hrg.left_eq]; exact hlt

end

end Go.Proofs.YthbdpfccfcceiaaGreatDoor
