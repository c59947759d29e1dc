/-
  What the history's Value answers where there is a version.
-/
import Derived.Test.YthbdpfccfcceiaaDoorH1
namespace Go.Proofs.YthbdpfccfcceiaaDoor
open Go.RowKit Go.Maps

section
variable {R : Ending → World → Prop}

set_option maxRecDepth 20000 in
set_option maxHeartbeats 1000000 in
theorem value_some (ph mv mm n nv : Nat) (f fv : Value → Option Value) (key : ByteArray) (t : Int) (w : World) (c0 : w.cell? ⟨ph, 0, none⟩ = some (.map (some mv))) (c1 : w.cell? ⟨ph, 1, none⟩ = some (.map (some mm)))
    (hown : fmap w Tryd.prog 9 mm n f) (hver : fmap w Tryd.prog 117 mv nv fv)
    (hlen : key.size ≤ 8) (g cap : Nat) (zs : List Int) (hf : (f (.string key)).getD (.slice none 0 0) = .slice (some ⟨g, 0, none⟩) zs.length cap) (hl : zs.length < 1000000)
    (hc : ∀ j, j < zs.length → w.cell? ⟨g, j, none⟩ = some (.int .i64 (zs.getD j 0))) (hs : zs.Pairwise (· < ·))
    (idx : Nat) (hidx : zs.countP (fun m => decide (m ≤ t)) = idx + 1)
    (m : Int) (hm : zs.getD idx 0 = m) (hwm : (Lit.int .i64 m).wf = true) (val : ByteArray) (gone : Bool) (hv : fv (.agg #[.string key, .int .i64 m]) = some (.agg #[.string val, .bool gone]))
    (hR : ∀ w', Kp (fun _ => False) w w' → R (.returned (.tuple #[.string val, .bool (!gone)])) w') :
    Calls Tryd.prog 45 #[.pointer (some ⟨ph, 0, none⟩), .string key, .int .i64 t] w R := by
  have hkey : Hid _ := WideMaps.keyOf_string_mk Tryd.underlying9 (show key.size ≤ maxLen by unfold maxLen; omega)
  have HR := hid_of hR
  have hB := hid_of (fun (R : Ending → World → Prop) => upto_row (R := R) g cap zs t w (idx + 1) hl hc hs hidx)
  have hlt : idx < zs.length := by have := List.countP_le_length (p := fun m => decide (m ≤ t)) (l := zs); omega
  have hcm := hc idx hlt
  rw [hm] at hcm
  obtain ⟨kl, hkl⟩ := keyPlace key m (by unfold maxLen; omega) hwm
  have hlk : Hid (∀ W : World, W.heap[mv]? = w.heap[mv]? → (Instr.lookup 108 (.map (some mv)) (.agg #[.string key, .int .i64 m]) false).run Tryd.prog W = .ok (.agg #[.string val, .bool gone]) W) := fun W hW => by
    have := (hver.of_block hW).look false kPlace Tryd.underlying108 (zVer W) hkl
    rw [hv] at this
    simpa using this
  have hmv := hver.lt
  have hlt' : (idx : Int) < zs.length := by omega
  have hi0 : (idx : Int) ≤ 1000000 := by omega
  clear hlen hR hc hs hidx hm hwm hv hkl hver hlt hl
  generalize zs.length = L at hf hB hlt'
  have hne0 : ((idx : Int) + 1 == 0) = false := by simp; omega
  go_enter Tryd.func45, Tryd.ntmps45
  go_wp2_with (first
    | (at_lookup; refine wpL_lookup _ rfl _ _ 109 rfl 9 46 kStr Tryd.underlying109 (zInts _) mm n f rfl hown (.string key) _ rfl hkey.out _ hf ?_)
    | (go_at_call 58; refine hB.out _ (fun q => ?_); rw [show ((idx + 1 : Nat) : Int) = (idx : Int) + 1 from rfl])
    | go_in)
  generalize hW : w.drewN q = W
  have a0 : W.cell? ⟨ph, 0, none⟩ = some (.map (some mv)) := by rw [← hW]; exact c0
  have a1 : W.cell? ⟨g, idx, none⟩ = some (.int .i64 m) := by rw [← hW]; exact hcm
  have l1 := hlk.out W.drew (by rw [← hW]; rfl)
  have l2 : ∀ o, (Instr.lookup 108 (.map (some mv)) (.agg #[.string key, .int .i64 m]) false).run Tryd.prog (W.alloc o).drew = .ok (.agg #[.string val, .bool gone]) (W.alloc o).drew := fun o => hlk.out (W.alloc o).drew (by rw [← hW]; exact Below.heap_alloc _ _ _ hmv)
  have kk : Kp (fun _ => False) w W := by rw [← hW]; exact Kp.drewN _ _ _
  have b0 : ph < W.heap.size := World.block_lt_of_cell? W _ a0
  have b1 : g < W.heap.size := World.block_lt_of_cell? W _ a1
  clear hlk hW hown c0 c1 hcm
  go_region
  clear l1 l2 b0 b1 a0 a1
  go_wp2
  go_region
  all_goals
    try go_wp2
    exact HR.out _ (((kk.trans (Kp.alloc (fun _ => False) _ _) (fun _ _ h => h)).trans (Kp.drew (fun _ => False) _) (fun _ _ h => h)).trans (Kp.drew (fun _ => False) _) (fun _ _ h => h))

end

end Go.Proofs.YthbdpfccfcceiaaDoor
