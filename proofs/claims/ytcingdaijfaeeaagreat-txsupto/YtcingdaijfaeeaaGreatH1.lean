/-
  What the history's questions answer: ChangedAfter and Value.
-/
import Derived.Test.YtcingdaijfaeeaaGreatX1
import Derived.Test.YtcingdaijfaeeaaGreatK1
import Derived.Test.YtcingdaijfaeeaaGreatShelf
import Derived.Deep.RegionWith
import Derived.Deep.QuietTactic
import Derived.BigQuiet
import Derived.DeepKeys4
namespace Go.Proofs.YtcingdaijfaeeaaGreat
open Go.RowKit Go.Maps

theorem laidOutP : laidOutB Tryz.prog = true := by kernel_rfl
theorem rowPlace : 190 < Tryz.prog.types.size := by decide +kernel
theorem widePlace : (match Tryz.prog.underlying 190 with | some (.array _ _) | some (.struct _) => true | _ => false) = true := by kernel_rfl
set_option maxRecDepth 100000 in
theorem kPlace : Keyed Tryz.prog 190 := Keyed.of_law (deep_law_laid laidOutP (m := 2) (by omega) rowPlace (by kernel_rfl) widePlace)

theorem typesP : ∃ m, Tryz.prog.types.size = m + 1 := ⟨Tryz.prog.types.size - 1, by have := rowPlace; omega⟩
theorem keyTypePlace : Tryz.prog.keyType 190 = true := by kernel_rfl
theorem cellsPlace : Tryz.prog.cellsOf 190 = 2 := by kernel_rfl
theorem cellsStr : Tryz.prog.cellsOf 9 = 1 := by kernel_rfl
theorem cellsInt : Tryz.prog.cellsOf 3 = 1 := by kernel_rfl

set_option maxRecDepth 20000 in
theorem keyPlace (s : ByteArray) (m : Int) (hs : s.size ≤ maxLen) (hm : (Lit.int .i64 m).wf = true) : ∃ kl, keyOf Tryz.prog 190 (.agg #[.string s, .int .i64 m]) = some kl := by
  refine ⟨.string (keyBytes [.string s.data.toList, .int .i64 m]), ?_⟩
  obtain ⟨k, hk⟩ := typesP
  unfold keyOf
  rw [Tryz.underlying190]
  simp only [keyTypePlace, Value.formed, Tryz.underlying190, cellsPlace, Value.cells, hk]
  simp [Program.keyLits, Tryz.underlying190, Tryz.underlying9, Tryz.underlying3, cellsPlace, cellsStr, cellsInt, hs, hm]

section
variable {R : Ending → World → Prop}

set_option maxRecDepth 20000 in
set_option maxHeartbeats 400000 in
theorem changed_nil (ph mm n : Nat) (f : Value → Option Value) (key : ByteArray) (t : Int) (w : World) (c1 : w.cell? ⟨ph, 1, none⟩ = some (.map (some mm))) (hown : fmap w Tryz.prog 9 mm n f)
    (hlen : key.size ≤ 8) (a : Option Addr) (cap : Nat) (hf : (f (.string key)).getD (.slice none 0 0) = .slice a 0 cap)
    (hR : R (.returned (.bool false)) w) :
    Calls Tryz.prog 109 #[.pointer (some ⟨ph, 0, none⟩), .string key, .int .i64 t] w R := by
  have hkey : Hid _ := WideMaps.keyOf_string_mk Tryz.underlying9 (show key.size ≤ maxLen by unfold maxLen; omega)
  go_enter Tryz.func109, Tryz.ntmps109
  go_wp2_with (first
    | (at_lookup; refine wpL_lookup _ rfl _ _ 128 rfl 9 29 kStr Tryz.underlying128 (zInts _) mm n f rfl hown (.string key) _ rfl hkey.out _ hf ?_)
    | go_in)
  exact hR

set_option maxRecDepth 20000 in
set_option maxHeartbeats 400000 in
theorem changed_some (ph mm n : Nat) (f : Value → Option Value) (key : ByteArray) (t : Int) (w : World) (c1 : w.cell? ⟨ph, 1, none⟩ = some (.map (some mm))) (hown : fmap w Tryz.prog 9 mm n f)
    (hlen : key.size ≤ 8) (g len cap : Nat) (hf : (f (.string key)).getD (.slice none 0 0) = .slice (some ⟨g, 0, none⟩) (len + 1) cap) (hl : (len : Int) < 1000000) (last : Int) (hc : w.cell? ⟨g, len, none⟩ = some (.int .i64 last))
    (hR : R (.returned (.bool (decide (t < last)))) w) :
    Calls Tryz.prog 109 #[.pointer (some ⟨ph, 0, none⟩), .string key, .int .i64 t] w R := by
  have hkey : Hid _ := WideMaps.keyOf_string_mk Tryz.underlying9 (show key.size ≤ maxLen by unfold maxLen; omega)
  clear hlen
  go_enter Tryz.func109, Tryz.ntmps109
  go_wp2_with (first
    | (at_lookup; refine wpL_lookup _ rfl _ _ 128 rfl 9 29 kStr Tryz.underlying128 (zInts _) mm n f rfl hown (.string key) _ rfl hkey.out _ hf ?_)
    | go_in)
  exact hR

theorem zVerW (w : World) : (zeroValue 162).run Tryz.prog w = .ok (.agg #[.string ByteArray.empty, .bool false]) w := zVer w

set_option maxRecDepth 20000 in
set_option maxHeartbeats 400000 in
theorem value_empty (ph mm n : Nat) (f : Value → Option Value) (key : ByteArray) (t : Int) (w : World) (c1 : w.cell? ⟨ph, 1, none⟩ = some (.map (some mm))) (hown : fmap w Tryz.prog 9 mm n f)
    (hlen : key.size ≤ 8) (a : Option Addr) (cap : Nat) (hf : (f (.string key)).getD (.slice none 0 0) = .slice a 0 cap)
    (hR : R (.returned (.tuple #[.string ⟨#[]⟩, .bool false])) w) :
    Calls Tryz.prog 104 #[.pointer (some ⟨ph, 0, none⟩), .string key, .int .i64 t] w R := by
  have hkey : Hid _ := WideMaps.keyOf_string_mk Tryz.underlying9 (show key.size ≤ maxLen by unfold maxLen; omega)
  clear hlen
  go_enter Tryz.func104, Tryz.ntmps104
  go_wp2_with (first
    | (at_lookup; refine wpL_lookup _ rfl _ _ 128 rfl 9 29 kStr Tryz.underlying128 (zInts _) mm n f rfl hown (.string key) _ rfl hkey.out _ hf ?_)
    | (go_at_call 115; refine (Tryz.slices_BinarySearch_int_empty _ _ _ _).mono ?_; rintro e w' ⟨rfl, rfl⟩)
    | go_in)
  exact hR

set_option maxRecDepth 20000 in
set_option maxHeartbeats 400000 in
theorem value_none (ph mm n : Nat) (f : Value → Option Value) (key : ByteArray) (t : Int) (w : World) (c1 : w.cell? ⟨ph, 1, none⟩ = some (.map (some mm))) (hown : fmap w Tryz.prog 9 mm n f)
    (hlen : key.size ≤ 8) (g cap : Nat) (zs : List Int) (hf : (f (.string key)).getD (.slice none 0 0) = .slice (some ⟨g, 0, none⟩) zs.length cap) (hl : zs.length < 1000000)
    (hc : ∀ j, j < zs.length → w.cell? ⟨g, j, none⟩ = some (.int .i64 (zs.getD j 0))) (hs : zs.Pairwise (· ≤ ·)) (h0 : ∀ z ∈ zs, t < z)
    (hR : ∀ q, R (.returned (.tuple #[.string ⟨#[]⟩, .bool false])) (w.drewN q)) :
    Calls Tryz.prog 104 #[.pointer (some ⟨ph, 0, none⟩), .string key, .int .i64 t] w R := by
  have hkey : Hid _ := WideMaps.keyOf_string_mk Tryz.underlying9 (show key.size ≤ maxLen by unfold maxLen; omega)
  have HR : Hid _ := hR
  have hB : Hid _ := Tryz.slices_BinarySearch_int g 0 zs.length cap zs t w (Nat.le_refl _) (by omega) (by simpa using hc) (by simpa using hs)
  have e1 : (zs.take zs.length).countP (· < t) = 0 := by
    rw [List.take_length, List.countP_eq_zero]; intro z hz; have := h0 z hz; simp; omega
  have e2 : (zs.take zs.length).contains t = false := by
    rw [List.take_length]; cases h : zs.contains t with
    | false => rfl
    | true => have := h0 t (by simpa using h); omega
  rw [e1, e2] at hB
  clear hlen hR hc hs h0 e1 e2
  go_enter Tryz.func104, Tryz.ntmps104
  go_wp2_with (first
    | (at_lookup; refine wpL_lookup _ rfl _ _ 128 rfl 9 29 kStr Tryz.underlying128 (zInts _) mm n f rfl hown (.string key) _ rfl hkey.out _ hf ?_)
    | (go_at_call 115; refine Calls.mono hB.out ?_; rintro e w' ⟨rfl, q, rfl⟩)
    | go_in)
  exact HR.out q

end

end Go.Proofs.YtcingdaijfaeeaaGreat
