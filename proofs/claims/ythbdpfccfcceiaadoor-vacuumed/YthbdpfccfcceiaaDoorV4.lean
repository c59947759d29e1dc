/-
  How many of a key's versions may go: (*History).spent, told of the store's plain state.
-/
import Derived.Test.YthbdpfccfcceiaaDoorL1L2
namespace Go.Proofs.YthbdpfccfcceiaaDoor
open Go.RowKit Go.Maps

theorem kp_dr {w w' : World} (h : w' = w ∨ w' = w.drew ∨ ∃ q, w' = w.drewN q) : Kp (fun _ => False) w w' := by
  rcases h with rfl | rfl | ⟨q, rfl⟩
  · exact Kp.refl _ _
  · exact Kp.drew _ _
  · exact Kp.drewN _ _ _

theorem run_deleted (v : ByteArray) (g : Bool) (w : World) : (Instr.field 88 (.agg #[.string v, .bool g]) 1).run Tryd.prog w = .ok (.bool g) w := by kernel_rfl

section
variable {R : Ending → World → Prop}

set_option maxRecDepth 20000 in
set_option maxHeartbeats 400000 in
theorem spent_empty (ph mm n : Nat) (f : Value → Option Value) (key : ByteArray) (t : Int) (w : World) (c1 : w.cell? ⟨ph, 1, none⟩ = some (.map (some mm))) (hown : fmap w Tryd.prog 9 mm n f)
    (hlen : key.size ≤ 8) (a : Option Addr) (cap : Nat) (hf : (f (.string key)).getD (.slice none 0 0) = .slice a 0 cap)
    (hR : ∀ w', Kp (fun _ => False) w w' → R (.returned (.int .i64 0)) w') :
    Calls Tryd.prog 55 #[.pointer (some ⟨ph, 0, none⟩), .string key, .int .i64 t] w R := by
  have hkey : Hid _ := WideMaps.keyOf_string_mk Tryd.underlying9 (show key.size ≤ maxLen by unfold maxLen; omega)
  have HR := hid_of hR
  clear hlen hR
  go_enter Tryd.func55, Tryd.ntmps55
  go_wp2_with (first
    | (at_lookup; refine wpL_lookup _ rfl _ _ 109 rfl 9 46 kStr Tryd.underlying109 (zInts _) mm n f rfl hown (.string key) _ rfl hkey.out _ hf ?_)
    | (go_at_call 58; refine upto_empty _ _ _ _ ?_)
    | go_in)
  go_quiet (fail)
  go_wp2
  exact HR.out _ (Kp.drewN (fun _ => False) _ _)

set_option maxRecDepth 20000 in
set_option maxHeartbeats 400000 in
theorem spent_none (ph mm n : Nat) (f : Value → Option Value) (key : ByteArray) (t : Int) (w : World) (c1 : w.cell? ⟨ph, 1, none⟩ = some (.map (some mm))) (hown : fmap w Tryd.prog 9 mm n f)
    (hlen : key.size ≤ 8) (g cap : Nat) (zs : List Int) (hf : (f (.string key)).getD (.slice none 0 0) = .slice (some ⟨g, 0, none⟩) zs.length cap) (hl : zs.length < 1000000)
    (hc : ∀ j, j < zs.length → w.cell? ⟨g, j, none⟩ = some (.int .i64 (zs.getD j 0))) (hs : zs.Pairwise (· < ·)) (h0 : zs.countP (fun m => decide (m ≤ t)) = 0)
    (hR : ∀ w', Kp (fun _ => False) w w' → R (.returned (.int .i64 0)) w') :
    Calls Tryd.prog 55 #[.pointer (some ⟨ph, 0, none⟩), .string key, .int .i64 t] w R := by
  have hkey : Hid _ := WideMaps.keyOf_string_mk Tryd.underlying9 (show key.size ≤ maxLen by unfold maxLen; omega)
  have HR := hid_of hR
  have hB := hid_of (fun (R : Ending → World → Prop) => upto_row (R := R) g cap zs t w 0 hl hc hs h0)
  clear hlen hR hc hs h0
  go_enter Tryd.func55, Tryd.ntmps55
  go_wp2_with (first
    | (at_lookup; refine wpL_lookup _ rfl _ _ 109 rfl 9 46 kStr Tryd.underlying109 (zInts _) mm n f rfl hown (.string key) _ rfl hkey.out _ hf ?_)
    | (go_at_call 58; refine hB.out _ (fun q => ?_))
    | go_in)
  go_quiet (fail)
  go_wp2
  exact HR.out _ ((Kp.drewN _ w q).trans (Kp.drewN (fun _ => False) _ _) (fun _ _ h => h))

set_option maxRecDepth 20000 in
set_option maxHeartbeats 1000000 in
theorem spent_some (ph mv mm n nv : Nat) (f fv : Value → Option Value) (key : ByteArray) (t : Int) (w : World) (c0 : w.cell? ⟨ph, 0, none⟩ = some (.map (some mv))) (c1 : w.cell? ⟨ph, 1, none⟩ = some (.map (some mm)))
    (hown : fmap w Tryd.prog 9 mm n f) (hver : fmap w Tryd.prog 117 mv nv fv)
    (hlen : key.size ≤ 8) (g cap : Nat) (zs : List Int) (hf : (f (.string key)).getD (.slice none 0 0) = .slice (some ⟨g, 0, none⟩) zs.length cap) (hl : zs.length < 1000000)
    (hc : ∀ j, j < zs.length → w.cell? ⟨g, j, none⟩ = some (.int .i64 (zs.getD j 0))) (hs : zs.Pairwise (· < ·))
    (idx : Nat) (hidx : zs.countP (fun m => decide (m ≤ t)) = idx + 1)
    (m : Int) (hm : zs.getD idx 0 = m) (hwm : (Lit.int .i64 m).wf = true) (val : ByteArray) (gone : Bool) (hv : fv (.agg #[.string key, .int .i64 m]) = some (.agg #[.string val, .bool gone]))
    (h1 : gone = true → ∀ w', Kp (fun _ => False) w w' → R (.returned (.int .i64 (idx + 1))) w')
    (h2 : gone = false → ∀ w', Kp (fun _ => False) w w' → R (.returned (.int .i64 idx)) w') :
    Calls Tryd.prog 55 #[.pointer (some ⟨ph, 0, none⟩), .string key, .int .i64 t] w R := by
  have hkey : Hid _ := WideMaps.keyOf_string_mk Tryd.underlying9 (show key.size ≤ maxLen by unfold maxLen; omega)
  have H1 := hid_of h1
  have H2 := hid_of h2
  have hB := hid_of (fun (R : Ending → World → Prop) => upto_row (R := R) g cap zs t w (idx + 1) hl hc hs hidx)
  have hlt : idx < zs.length := by have := List.countP_le_length (p := fun m => decide (m ≤ t)) (l := zs); omega
  have hcm := hc idx hlt
  rw [hm] at hcm
  obtain ⟨kl, hkl⟩ := keyPlace key m (by unfold maxLen; omega) hwm
  have hlk : Hid (∀ W : World, W.heap[mv]? = w.heap[mv]? → (Instr.lookup 108 (.map (some mv)) (.agg #[.string key, .int .i64 m]) false).run Tryd.prog W = .ok (.agg #[.string val, .bool gone]) W) := fun W hW => by
    have := (hver.of_block hW).look false kPlace Tryd.underlying108 (zVer W) hkl
    rw [hv] at this
    simpa using this
  have hmv := hver.lt
  have hlt' : (idx : Int) < zs.length := by omega
  have hi0 : (idx : Int) ≤ 1000000 := by omega
  have hwrp : IntKind.i64.wrap (idx : Int) = (idx : Int) := IntWalk.i64_in _ (by omega)
  clear hlen h1 h2 hc hs hidx hm hwm hv hkl hver hlt hl
  generalize zs.length = L at hf hB hlt'
  have hne0 : ((idx : Int) + 1 == 0) = false := by simp; omega
  cases gone
  all_goals
    go_enter Tryd.func55, Tryd.ntmps55
    go_wp2_with (first
      | (at_lookup; refine wpL_lookup _ rfl _ _ 109 rfl 9 46 kStr Tryd.underlying109 (zInts _) mm n f rfl hown (.string key) _ rfl hkey.out _ hf ?_)
      | (go_at_call 58; refine hB.out _ (fun q => ?_); rw [show ((idx + 1 : Nat) : Int) = (idx : Int) + 1 from rfl])
      | go_in)
    generalize hW : w.drewN q = W
    have a0 : W.cell? ⟨ph, 0, none⟩ = some (.map (some mv)) := by rw [← hW]; exact c0
    have a1 : W.cell? ⟨g, idx, none⟩ = some (.int .i64 m) := by rw [← hW]; exact hcm
    have l0 := fun q => hlk.out (W.drewN q) (by rw [← hW]; rfl)
    have kk : Kp (fun _ => False) w W := by rw [← hW]; exact Kp.drewN _ _ _
    have hfld := run_deleted
    clear hlk hW hown c0 c1 hcm
    go_quiet (fail)
    clear l0 a0 a1
    go_wp2
  · exact H2.out trivial _ (kk.trans (Kp.drewN (fun _ => False) _ _) (fun _ _ h => h))
  · exact H1.out trivial _ (kk.trans (Kp.drewN (fun _ => False) _ _) (fun _ _ h => h))

end

/-- How many of a key's versions may go. -/
def spentX (s : XS) (k : ByteArray) (t : Int) : Nat :=
  match ((s.mom k).filter (fun m => decide (m ≤ t))).getLast? with
  | none => 0
  | some m => if ((s.ver k m).getD (eb, false)).2 = true then (s.mom k).countP (fun m => decide (m ≤ t)) else (s.mom k).countP (fun m => decide (m ≤ t)) - 1

section
variable {own own' : Nat → Lab} {c : Nat} {w w' : World} {p : Nat} {s : XS} {mo ph mv mm : Nat} {pt mw : Int → Nat} {sl : ByteArray → Value}
variable {R : Ending → World → Prop}

theorem x_spent (h : XR own c w p s mo ph mv mm pt mw sl) (key : ByteArray) (t : Int) (hlen : key.size ≤ 8) (hm : MomOk s key)
    (hR : ∀ w', Kp (fun _ => False) w w' → R (.returned (.int .i64 (spentX s key t))) w') :
    Calls Tryd.prog 55 #[.pointer (some ⟨ph, 0, none⟩), .string key, .int .i64 t] w R := by
  have hl := hm.len
  have hs := hm.up
  have hw := hm.ver
  have c0 : w.cell? ⟨ph, 0, none⟩ = some (.map (some mv)) := cell_of h.hist 0
  have c1 : w.cell? ⟨ph, 1, none⟩ = some (.map (some mm)) := cell_of h.hist 1
  by_cases hm : s.mom key = []
  · have hv : spentX s key t = 0 := by simp [spentX, hm]
    rw [hv] at hR
    exact spent_empty ph mm s.nm _ key t w c1 h.moms hlen none 0 (by rw [encS_at, if_pos hm]; rfl) hR
  · obtain ⟨g, cap, hv, hc⟩ := ownsRow_cells (h.row key hm) hm
    have hf : ((encS fun k => if s.mom k = [] then none else some (sl k)) (.string key)).getD (.slice none 0 0) = .slice (some ⟨g, 0, none⟩) (s.mom key).length cap := by rw [encS_at, if_neg hm, hv]; rfl
    have hft := filter_take (s.mom key) t hs
    by_cases h0 : (s.mom key).countP (fun m => decide (m ≤ t)) = 0
    · have hval : spentX s key t = 0 := by simp [spentX, hft, h0]
      rw [hval] at hR
      exact spent_none ph mm s.nm _ key t w c1 h.moms hlen g cap (s.mom key) hf hl hc hs h0 hR
    · obtain ⟨idx, hidx⟩ : ∃ idx, (s.mom key).countP (fun m => decide (m ≤ t)) = idx + 1 := ⟨_, (Nat.succ_pred_eq_of_ne_zero h0).symm⟩
      have hle : idx + 1 ≤ (s.mom key).length := by rw [← hidx]; exact List.countP_le_length
      have hmem : (s.mom key).getD idx 0 ∈ s.mom key := by
        simp only [List.getD, List.getElem?_eq_getElem (show idx < (s.mom key).length by omega), Option.getD_some]
        exact List.getElem_mem _
      obtain ⟨hwf, hsome⟩ := hw _ hmem
      obtain ⟨v, hv'⟩ := Option.isSome_iff_exists.1 hsome
      have hlast : ((s.mom key).filter (fun m => decide (m ≤ t))).getLast? = some ((s.mom key).getD idx 0) := by
        rw [hft, hidx, List.getLast?_eq_getElem?, List.length_take, Nat.min_eq_left hle, Nat.add_sub_cancel, List.getElem?_take]
        simp [List.getD, List.getElem?_eq_getElem (show idx < (s.mom key).length by omega)]
      have hval : spentX s key t = if v.2 = true then idx + 1 else idx := by simp only [spentX, hlast, hv', Option.getD_some, hidx, Nat.add_sub_cancel]
      rw [hval] at hR
      refine spent_some ph mv mm s.nm s.nv _ _ key t w c0 c1 h.moms h.vers hlen g cap (s.mom key) hf hl hc hs idx hidx _ rfl hwf v.1 v.2 (by rw [encP_at, hv']; rfl) (fun e w' k => ?_) (fun e w' k => ?_)
      · have := hR w' k
        rw [if_pos e] at this
        exact this
      · have := hR w' k
        rw [if_neg (by rw [e]; simp)] at this
        exact this

end

end Go.Proofs.YthbdpfccfcceiaaDoor
