/-
  What the history's Value answers where there is a version.
-/
import Derived.Test.YtcingdaijfaeeaaGreatH1
namespace Go.Proofs.YtcingdaijfaeeaaGreat
open Go.RowKit Go.Maps

section
variable {R : Ending → World → Prop}

set_option maxRecDepth 20000 in
set_option maxHeartbeats 1000000 in
theorem value_some (ph mv mm n nv : Nat) (f fv : Value → Option Value) (key : ByteArray) (t : Int) (w : World) (c0 : w.cell? ⟨ph, 0, none⟩ = some (.map (some mv))) (c1 : w.cell? ⟨ph, 1, none⟩ = some (.map (some mm)))
    (hown : fmap w Tryz.prog 9 mm n f) (hver : fmap w Tryz.prog 190 mv nv fv)
    (hlen : key.size ≤ 8) (g cap : Nat) (zs : List Int) (hf : (f (.string key)).getD (.slice none 0 0) = .slice (some ⟨g, 0, none⟩) zs.length cap) (hl : zs.length < 1000000)
    (hc : ∀ j, j < zs.length → w.cell? ⟨g, j, none⟩ = some (.int .i64 (zs.getD j 0))) (hs : zs.Pairwise (· ≤ ·))
    (pos idx : Nat) (fd : Bool) (hpos : zs.countP (· < t) = pos) (hfd : zs.contains t = fd) (hidx : pos + (if fd then 1 else 0) = idx + 1) (hlt : idx < zs.length)
    (m : Int) (hm : zs.getD idx 0 = m) (hwm : (Lit.int .i64 m).wf = true) (val : ByteArray) (gone : Bool) (hv : fv (.agg #[.string key, .int .i64 m]) = some (.agg #[.string val, .bool gone]))
    (hR : ∀ w', Kp (fun _ => False) w w' → R (.returned (.tuple #[.string val, .bool (!gone)])) w') :
    Calls Tryz.prog 104 #[.pointer (some ⟨ph, 0, none⟩), .string key, .int .i64 t] w R := by
  have hkey : Hid _ := WideMaps.keyOf_string_mk Tryz.underlying9 (show key.size ≤ maxLen by unfold maxLen; omega)
  have HR : Hid _ := hR
  have hB : Hid _ := Tryz.slices_BinarySearch_int g 0 zs.length cap zs t w (Nat.le_refl _) (by omega) (by simpa using hc) (by simpa using hs)
  rw [List.take_length, hpos, hfd] at hB
  have hcm := hc idx hlt
  rw [hm] at hcm
  obtain ⟨kl, hkl⟩ := keyPlace key m (by unfold maxLen; omega) hwm
  have hlk : Hid (∀ W : World, W.heap[mv]? = w.heap[mv]? → (Instr.lookup 127 (.map (some mv)) (.agg #[.string key, .int .i64 m]) false).run Tryz.prog W = .ok (.agg #[.string val, .bool gone]) W) := fun W hW => by
    have := (hver.of_block hW).look false kPlace Tryz.underlying127 (zVer W) hkl
    rw [hv] at this
    simpa using this
  have hmv := hver.lt
  have hlt' : (idx : Int) < zs.length := by omega
  have hi0 : (idx : Int) ≤ 1000000 := by omega
  clear hlen hR hc hs hpos hfd hm hwm hv hkl hver hlt hl
  generalize zs.length = L at hf hB hlt'
  cases fd
  · simp only [Bool.false_eq_true, if_false, Nat.add_zero] at hidx
    subst hidx
    go_enter Tryz.func104, Tryz.ntmps104
    go_wp2_with (first
      | (at_lookup; refine wpL_lookup _ rfl _ _ 128 rfl 9 29 kStr Tryz.underlying128 (zInts _) mm n f rfl hown (.string key) _ rfl hkey.out _ hf ?_)
      | (go_at_call 115; refine Calls.mono hB.out ?_; rintro e w' ⟨rfl, q, rfl⟩)
      | go_in)
    generalize hW : w.drewN q = W
    have a0 : W.cell? ⟨ph, 0, none⟩ = some (.map (some mv)) := by rw [← hW]; exact c0
    have a1 : W.cell? ⟨g, idx, none⟩ = some (.int .i64 m) := by rw [← hW]; exact hcm
    have l1 := hlk.out W.drew (by rw [← hW]; rfl)
    have l2 : ∀ o, (Instr.lookup 127 (.map (some mv)) (.agg #[.string key, .int .i64 m]) false).run Tryz.prog (W.alloc o).drew = .ok (.agg #[.string val, .bool gone]) (W.alloc o).drew := fun o => hlk.out (W.alloc o).drew (by rw [← hW]; exact Below.heap_alloc _ _ _ hmv)
    have kk : Kp (fun _ => False) w W := by rw [← hW]; exact Kp.drewN _ _ _
    have b0 : ph < W.heap.size := World.block_lt_of_cell? W _ a0
    have b1 : g < W.heap.size := World.block_lt_of_cell? W _ a1
    clear hlk hW hown c0 c1 hcm
    go_region
    clear l1 l2 b0 b1 a0 a1
    go_wp2
    go_region
    all_goals
      try go_wp2
      exact HR.out _ (((kk.trans (Kp.alloc (fun _ => False) _ _) (fun _ _ h => h)).trans (Kp.drew (fun _ => False) _) (fun _ _ h => h)).trans (Kp.drew (fun _ => False) _) (fun _ _ h => h))
  · simp only [if_true] at hidx
    have hidx' : pos = idx := by omega
    subst hidx'
    clear hidx
    go_enter Tryz.func104, Tryz.ntmps104
    go_wp2_with (first
      | (at_lookup; refine wpL_lookup _ rfl _ _ 128 rfl 9 29 kStr Tryz.underlying128 (zInts _) mm n f rfl hown (.string key) _ rfl hkey.out _ hf ?_)
      | (go_at_call 115; refine Calls.mono hB.out ?_; rintro e w' ⟨rfl, q, rfl⟩)
      | go_in)
    generalize hW : w.drewN q = W
    have a0 : W.cell? ⟨ph, 0, none⟩ = some (.map (some mv)) := by rw [← hW]; exact c0
    have a1 : W.cell? ⟨g, pos, none⟩ = some (.int .i64 m) := by rw [← hW]; exact hcm
    have l1 := hlk.out W.drew (by rw [← hW]; rfl)
    have l2 : ∀ o, (Instr.lookup 127 (.map (some mv)) (.agg #[.string key, .int .i64 m]) false).run Tryz.prog (W.alloc o).drew = .ok (.agg #[.string val, .bool gone]) (W.alloc o).drew := fun o => hlk.out (W.alloc o).drew (by rw [← hW]; exact Below.heap_alloc _ _ _ hmv)
    have kk : Kp (fun _ => False) w W := by rw [← hW]; exact Kp.drewN _ _ _
    have b0 : ph < W.heap.size := World.block_lt_of_cell? W _ a0
    have b1 : g < W.heap.size := World.block_lt_of_cell? W _ a1
    clear hlk hW hown c0 c1 hcm
    go_region
    clear l1 l2 b0 b1 a0 a1
    go_wp2
    go_region
    all_goals
      try go_wp2
      exact HR.out _ (((kk.trans (Kp.alloc (fun _ => False) _ _) (fun _ _ h => h)).trans (Kp.drew (fun _ => False) _) (fun _ _ h => h)).trans (Kp.drew (fun _ => False) _) (fun _ _ h => h))

end

end Go.Proofs.YtcingdaijfaeeaaGreat
