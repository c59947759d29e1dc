/-
  What the history's questions answer: ChangedAfter and Value.
  What the history's Value answers where there is a version.
-/
import Derived.Test.YthbdpfccfcceiaaGreatDoorX1K1
import Derived.Test.YthbdpfccfcceiaaGreatDoorShelf
import Derived.Deep.RegionWith
import Derived.Deep.QuietTactic
import Derived.BigQuiet
import Derived.DeepKeys4
namespace Go.Proofs.YthbdpfccfcceiaaGreatDoor
open Go.RowKit Go.Maps

theorem laidOutP : laidOutB Tryz.prog = true := by kernel_rfl
theorem rowPlace : 225 < Tryz.prog.types.size := by decide +kernel
theorem widePlace : (match Tryz.prog.underlying 225 with | some (.array _ _) | some (.struct _) => true | _ => false) = true := by kernel_rfl
set_option maxRecDepth 100000 in
theorem kPlace : Keyed Tryz.prog 225 := Keyed.of_law (deep_law_laid laidOutP (m := 2) (by omega) rowPlace (by kernel_rfl) widePlace)

theorem typesP : ∃ m, Tryz.prog.types.size = m + 1 := ⟨Tryz.prog.types.size - 1, by have := rowPlace; omega⟩
theorem keyTypePlace : Tryz.prog.keyType 225 = true := by kernel_rfl
theorem cellsPlace : Tryz.prog.cellsOf 225 = 2 := by kernel_rfl
theorem cellsStr : Tryz.prog.cellsOf 9 = 1 := by kernel_rfl
theorem cellsInt : Tryz.prog.cellsOf 3 = 1 := by kernel_rfl

set_option maxRecDepth 20000 in
theorem keyPlace (s : ByteArray) (m : Int) (hs : s.size ≤ maxLen) (hm : (Lit.int .i64 m).wf = true) : ∃ kl, keyOf Tryz.prog 225 (.agg #[.string s, .int .i64 m]) = some kl := by
  refine ⟨.string (keyBytes [.string s.data.toList, .int .i64 m]), ?_⟩
  obtain ⟨k, hk⟩ := typesP
  unfold keyOf
  rw [Tryz.underlying225]
  simp only [keyTypePlace, Value.formed, Tryz.underlying225, cellsPlace, Value.cells, hk]
  simp [Program.keyLits, Tryz.underlying225, Tryz.underlying9, Tryz.underlying3, cellsPlace, cellsStr, cellsInt, hs, hm]

theorem count_le : ∀ (l : List Int) (t : Int), l.Pairwise (· < ·) → l.countP (fun m => decide (m < t)) + (if l.contains t then 1 else 0) = l.countP (fun m => decide (m ≤ t))
  | [], _, _ => rfl
  | x :: r, t, h => by
    obtain ⟨h1, h2⟩ := List.pairwise_cons.1 h
    have ih := count_le r t h2
    by_cases hx : x < t
    · have hne : (t == x) = false := by simp; omega
      rw [List.countP_cons_of_pos (by simpa using hx), List.countP_cons_of_pos (by simp; omega), List.contains_cons, hne, Bool.false_or]
      omega
    · have hr : ∀ y ∈ r, ¬ y < t := fun y hy => by have := h1 y hy; omega
      have hr' : ∀ y ∈ r, ¬ y ≤ t := fun y hy => by have := h1 y hy; omega
      have e2 : r.countP (fun m => decide (m < t)) = 0 := by rw [List.countP_eq_zero]; intro y hy; simpa using hr y hy
      have e3 : r.countP (fun m => decide (m ≤ t)) = 0 := by rw [List.countP_eq_zero]; intro y hy; simpa using hr' y hy
      have e4 : r.contains t = false := by
        cases hh : r.contains t with
        | false => rfl
        | true => exact absurd (Int.le_refl t) (hr' t (by simpa using hh))
      rw [List.countP_cons_of_neg (by simpa using hx), e2, List.contains_cons, e4, Bool.or_false]
      by_cases he : x = t
      · subst he; rw [List.countP_cons_of_pos (by simp), e3]; simp
      · have hne : (t == x) = false := by simp; omega
        rw [List.countP_cons_of_neg (by simp; omega), e3, hne]; simp

section
variable {R : Ending → World → Prop}

set_option maxRecDepth 20000 in
set_option maxHeartbeats 400000 in
theorem changed_nil (ph mm n : Nat) (f : Value → Option Value) (key : ByteArray) (t : Int) (w : World) (c1 : w.cell? ⟨ph, 1, none⟩ = some (.map (some mm))) (hown : fmap w Tryz.prog 9 mm n f)
    (hlen : key.size ≤ 8) (a : Option Addr) (cap : Nat) (hf : (f (.string key)).getD (.slice none 0 0) = .slice a 0 cap)
    (hR : R (.returned (.bool false)) w) :
    Calls Tryz.prog 125 #[.pointer (some ⟨ph, 0, none⟩), .string key, .int .i64 t] w R := by
  have hkey : Hid _ := WideMaps.keyOf_string_mk Tryz.underlying9 (show key.size ≤ maxLen by unfold maxLen; omega)
  go_enter Tryz.func125, Tryz.ntmps125
  go_wp2_with (first
    | (at_lookup; refine wpL_lookup _ rfl _ _ 207 rfl 9 26 kStr Tryz.underlying207 (zInts _) mm n f rfl hown (.string key) _ rfl hkey.out _ hf ?_)
    | go_in)
  exact hR

set_option maxRecDepth 20000 in
set_option maxHeartbeats 400000 in
theorem changed_some (ph mm n : Nat) (f : Value → Option Value) (key : ByteArray) (t : Int) (w : World) (c1 : w.cell? ⟨ph, 1, none⟩ = some (.map (some mm))) (hown : fmap w Tryz.prog 9 mm n f)
    (hlen : key.size ≤ 8) (g len cap : Nat) (hf : (f (.string key)).getD (.slice none 0 0) = .slice (some ⟨g, 0, none⟩) (len + 1) cap) (hl : (len : Int) < 1000000) (last : Int) (hc : w.cell? ⟨g, len, none⟩ = some (.int .i64 last))
    (hR : R (.returned (.bool (decide (t < last)))) w) :
    Calls Tryz.prog 125 #[.pointer (some ⟨ph, 0, none⟩), .string key, .int .i64 t] w R := by
  have hkey : Hid _ := WideMaps.keyOf_string_mk Tryz.underlying9 (show key.size ≤ maxLen by unfold maxLen; omega)
  clear hlen
  go_enter Tryz.func125, Tryz.ntmps125
  go_wp2_with (first
    | (at_lookup; refine wpL_lookup _ rfl _ _ 207 rfl 9 26 kStr Tryz.underlying207 (zInts _) mm n f rfl hown (.string key) _ rfl hkey.out _ hf ?_)
    | go_in)
  exact hR

theorem zVerW (w : World) : (zeroValue 138).run Tryz.prog w = .ok (.agg #[.string ByteArray.empty, .bool false]) w := zVer w

set_option maxRecDepth 20000 in
set_option maxHeartbeats 400000 in
theorem upto_empty (a : Option Addr) (cap : Nat) (t : Int) (w : World) (hR : R (.returned (.int .i64 0)) w) :
    Calls Tryz.prog 134 #[.slice a 0 cap, .int .i64 t] w R := by
  go_enter Tryz.func134, Tryz.ntmps134
  go_wp2_with (first
    | (go_at_call 180; refine (Tryz.slices_BinarySearch_int_empty _ _ _ _).mono ?_; rintro e w' ⟨rfl, rfl⟩)
    | go_in)
  exact hR

set_option maxRecDepth 20000 in
set_option maxHeartbeats 400000 in
theorem upto_row (g cap : Nat) (zs : List Int) (t : Int) (w : World) (n : Nat) (hl : zs.length < 1000000)
    (hc : ∀ j, j < zs.length → w.cell? ⟨g, j, none⟩ = some (.int .i64 (zs.getD j 0))) (hs : zs.Pairwise (· < ·)) (hn : zs.countP (fun m => decide (m ≤ t)) = n)
    (hR : ∀ q, R (.returned (.int .i64 n)) (w.drewN q)) :
    Calls Tryz.prog 134 #[.slice (some ⟨g, 0, none⟩) zs.length cap, .int .i64 t] w R := by
  have HR := hid_of hR
  have hB := hid_of (Tryz.slices_BinarySearch_int g 0 zs.length cap zs t w (Nat.le_refl _) (by omega) (by simpa using hc) (by simpa using hs.imp (fun h => Int.le_of_lt h)))
  have hcnt := count_le zs t hs
  rw [hn] at hcnt
  have hle : n ≤ zs.length := by rw [← hn]; exact List.countP_le_length
  rw [List.take_length] at hB
  generalize zs.countP (· < t) = pos at hB hcnt
  generalize zs.contains t = fd at hB hcnt
  have hn1 : (n : Int) ≤ 1000000 := by omega
  generalize zs.length = L at hB
  clear hR hc hs hn hl hle
  cases fd
  · simp only [Bool.false_eq_true, if_false, Nat.add_zero] at hcnt
    subst hcnt
    go_enter Tryz.func134, Tryz.ntmps134
    go_wp2_with (first
      | (go_at_call 180; refine Calls.mono hB.out ?_; rintro e w' ⟨rfl, q, rfl⟩)
      | go_in)
    exact HR.out q
  · simp only [if_true] at hcnt
    subst hcnt
    have h1 : (pos : Int) + 1 ≤ 1000000 := by omega
    go_enter Tryz.func134, Tryz.ntmps134
    go_wp2_with (first
      | (go_at_call 180; refine Calls.mono hB.out ?_; rintro e w' ⟨rfl, q, rfl⟩)
      | go_in)
    exact HR.out q

set_option maxRecDepth 20000 in
set_option maxHeartbeats 400000 in
theorem value_empty (ph mm n : Nat) (f : Value → Option Value) (key : ByteArray) (t : Int) (w : World) (c1 : w.cell? ⟨ph, 1, none⟩ = some (.map (some mm))) (hown : fmap w Tryz.prog 9 mm n f)
    (hlen : key.size ≤ 8) (a : Option Addr) (cap : Nat) (hf : (f (.string key)).getD (.slice none 0 0) = .slice a 0 cap)
    (hR : R (.returned (.tuple #[.string ⟨#[]⟩, .bool false])) w) :
    Calls Tryz.prog 91 #[.pointer (some ⟨ph, 0, none⟩), .string key, .int .i64 t] w R := by
  have hkey : Hid _ := WideMaps.keyOf_string_mk Tryz.underlying9 (show key.size ≤ maxLen by unfold maxLen; omega)
  clear hlen
  go_enter Tryz.func91, Tryz.ntmps91
  go_wp2_with (first
    | (at_lookup; refine wpL_lookup _ rfl _ _ 207 rfl 9 26 kStr Tryz.underlying207 (zInts _) mm n f rfl hown (.string key) _ rfl hkey.out _ hf ?_)
    | (go_at_call 134; refine upto_empty _ _ _ _ ?_)
    | go_in)
  exact hR

set_option maxRecDepth 20000 in
set_option maxHeartbeats 400000 in
theorem value_none (ph mm n : Nat) (f : Value → Option Value) (key : ByteArray) (t : Int) (w : World) (c1 : w.cell? ⟨ph, 1, none⟩ = some (.map (some mm))) (hown : fmap w Tryz.prog 9 mm n f)
    (hlen : key.size ≤ 8) (g cap : Nat) (zs : List Int) (hf : (f (.string key)).getD (.slice none 0 0) = .slice (some ⟨g, 0, none⟩) zs.length cap) (hl : zs.length < 1000000)
    (hc : ∀ j, j < zs.length → w.cell? ⟨g, j, none⟩ = some (.int .i64 (zs.getD j 0))) (hs : zs.Pairwise (· < ·)) (h0 : zs.countP (fun m => decide (m ≤ t)) = 0)
    (hR : ∀ q, R (.returned (.tuple #[.string ⟨#[]⟩, .bool false])) (w.drewN q)) :
    Calls Tryz.prog 91 #[.pointer (some ⟨ph, 0, none⟩), .string key, .int .i64 t] w R := by
  have hkey : Hid _ := WideMaps.keyOf_string_mk Tryz.underlying9 (show key.size ≤ maxLen by unfold maxLen; omega)
  have HR := hid_of hR
  have hB := hid_of (fun (R : Ending → World → Prop) => upto_row (R := R) g cap zs t w 0 hl hc hs h0)
  clear hlen hR hc hs h0
  go_enter Tryz.func91, Tryz.ntmps91
  go_wp2_with (first
    | (at_lookup; refine wpL_lookup _ rfl _ _ 207 rfl 9 26 kStr Tryz.underlying207 (zInts _) mm n f rfl hown (.string key) _ rfl hkey.out _ hf ?_)
    | (go_at_call 134; refine hB.out _ (fun q => ?_))
    | go_in)
  exact HR.out q

end

end Go.Proofs.YthbdpfccfcceiaaGreatDoor

namespace Go.Proofs.YthbdpfccfcceiaaGreatDoor
open Go.RowKit Go.Maps

section
variable {R : Ending → World → Prop}

set_option maxRecDepth 20000 in
set_option maxHeartbeats 1000000 in
theorem value_some (ph mv mm n nv : Nat) (f fv : Value → Option Value) (key : ByteArray) (t : Int) (w : World) (c0 : w.cell? ⟨ph, 0, none⟩ = some (.map (some mv))) (c1 : w.cell? ⟨ph, 1, none⟩ = some (.map (some mm)))
    (hown : fmap w Tryz.prog 9 mm n f) (hver : fmap w Tryz.prog 225 mv nv fv)
    (hlen : key.size ≤ 8) (g cap : Nat) (zs : List Int) (hf : (f (.string key)).getD (.slice none 0 0) = .slice (some ⟨g, 0, none⟩) zs.length cap) (hl : zs.length < 1000000)
    (hc : ∀ j, j < zs.length → w.cell? ⟨g, j, none⟩ = some (.int .i64 (zs.getD j 0))) (hs : zs.Pairwise (· < ·))
    (idx : Nat) (hidx : zs.countP (fun m => decide (m ≤ t)) = idx + 1)
    (m : Int) (hm : zs.getD idx 0 = m) (hwm : (Lit.int .i64 m).wf = true) (val : ByteArray) (gone : Bool) (hv : fv (.agg #[.string key, .int .i64 m]) = some (.agg #[.string val, .bool gone]))
    (hR : ∀ w', Kp (fun _ => False) w w' → R (.returned (.tuple #[.string val, .bool (!gone)])) w') :
    Calls Tryz.prog 91 #[.pointer (some ⟨ph, 0, none⟩), .string key, .int .i64 t] w R := by
  have hkey : Hid _ := WideMaps.keyOf_string_mk Tryz.underlying9 (show key.size ≤ maxLen by unfold maxLen; omega)
  have HR := hid_of hR
  have hB := hid_of (fun (R : Ending → World → Prop) => upto_row (R := R) g cap zs t w (idx + 1) hl hc hs hidx)
  have hlt : idx < zs.length := by have := List.countP_le_length (p := fun m => decide (m ≤ t)) (l := zs); omega
  have hcm := hc idx hlt
  rw [hm] at hcm
  obtain ⟨kl, hkl⟩ := keyPlace key m (by unfold maxLen; omega) hwm
  have hlk : Hid (∀ W : World, W.heap[mv]? = w.heap[mv]? → (Instr.lookup 206 (.map (some mv)) (.agg #[.string key, .int .i64 m]) false).run Tryz.prog W = .ok (.agg #[.string val, .bool gone]) W) := fun W hW => by
    have := (hver.of_block hW).look false kPlace Tryz.underlying206 (zVer W) hkl
    rw [hv] at this
    simpa using this
  have hmv := hver.lt
  have hlt' : (idx : Int) < zs.length := by omega
  have hi0 : (idx : Int) ≤ 1000000 := by omega
  clear hlen hR hc hs hidx hm hwm hv hkl hver hlt hl
  generalize zs.length = L at hf hB hlt'
  have hne0 : ((idx : Int) + 1 == 0) = false := by simp; omega
  go_enter Tryz.func91, Tryz.ntmps91
  go_wp2_with (first
    | (at_lookup; refine wpL_lookup _ rfl _ _ 207 rfl 9 26 kStr Tryz.underlying207 (zInts _) mm n f rfl hown (.string key) _ rfl hkey.out _ hf ?_)
    | (go_at_call 134; refine hB.out _ (fun q => ?_); rw [show ((idx + 1 : Nat) : Int) = (idx : Int) + 1 from rfl])
    | go_in)
  generalize hW : w.drewN q = W
  have a0 : W.cell? ⟨ph, 0, none⟩ = some (.map (some mv)) := by rw [← hW]; exact c0
  have a1 : W.cell? ⟨g, idx, none⟩ = some (.int .i64 m) := by rw [← hW]; exact hcm
  have l1 := hlk.out W.drew (by rw [← hW]; rfl)
  have l2 : ∀ o, (Instr.lookup 206 (.map (some mv)) (.agg #[.string key, .int .i64 m]) false).run Tryz.prog (W.alloc o).drew = .ok (.agg #[.string val, .bool gone]) (W.alloc o).drew := fun o => hlk.out (W.alloc o).drew (by rw [← hW]; exact Below.heap_alloc _ _ _ hmv)
  have kk : Kp (fun _ => False) w W := by rw [← hW]; exact Kp.drewN _ _ _
  have b0 : ph < W.heap.size := World.block_lt_of_cell? W _ a0
  have b1 : g < W.heap.size := World.block_lt_of_cell? W _ a1
  clear hlk hW hown c0 c1 hcm
  go_region
  clear l1 l2 b0 b1 a0 a1
  go_wp2
  go_region
  all_goals
    try go_wp2
    exact HR.out _ (((kk.trans (Kp.alloc (fun _ => False) _ _) (fun _ _ h => h)).trans (Kp.drew (fun _ => False) _) (fun _ _ h => h)).trans (Kp.drew (fun _ => False) _) (fun _ _ h => h))

end

end Go.Proofs.YthbdpfccfcceiaaGreatDoor
