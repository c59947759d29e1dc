/-
  What a write into a transaction does: (*transaction).write, Put, Delete.
  What Put and Delete of a store do.
-/
import Derived.Test.YthbdpfccfcceiaaGreatDoorX1K1
import Derived.Test.YthbdpfccfcceiaaGreatDoorShelf
import Derived.Deep.RegionWith
namespace Go.Proofs.YthbdpfccfcceiaaGreatDoor
open Go.RowKit Go.Maps

theorem clone_any (s : ByteArray) (w : World) (_hs : s.size ≤ maxLen) (hlim : s.size ≤ 281474976710656) :
    Calls Tryz.prog 70 #[.string s] w fun e w' => e = .returned (.string s) ∧ Below w.heap.size w w' := by
  go_enter Tryz.func70, Tryz.ntmps70
  go_wp2_with (go_at_call 124; refine (Tryz.stringslite_Clone _ _ hlim).mono ?_; rintro e w' ⟨rfl, hb⟩)
  go_ret
  exact ⟨rfl, hb⟩

section
variable {R : Ending → World → Prop}

set_option maxHeartbeats 400000 in
theorem write_full (pt mw n : Nat) (f : Value → Option Value) (key val : ByteArray) (g : Bool) (w : World) (c1 : w.cell? ⟨pt, 1, none⟩ = some (.map (some mw))) (hown : fmap w Tryz.prog 9 mw n f)
    (hlen : key.size ≤ maxLen) (hf : f (.string key) = none) (hn : (10 : Int) ≤ n)
    (hR : ∀ w', Kp (fun _ => False) w w' → R (.returned (.int .i64 3)) w') :
    Calls Tryz.prog 69 #[.pointer (some ⟨pt, 0, none⟩), .string key, .agg #[.string val, .bool g]] w R := by
  have hkey : Hid _ := WideMaps.keyOf_string_mk Tryz.underlying9 hlen
  have hpt : pt < w.heap.size := World.block_lt_of_cell? w _ c1
  clear hlen
  go_enter Tryz.func69, Tryz.ntmps69
  go_wp2_with (first
    | (at_lookup; refine wpL_lookup_ok _ rfl _ _ 130 rfl 9 138 kStr Tryz.underlying130 (zVer _) mw n f rfl (hown.alloc _) (.string key) _ rfl hkey.out _ hf ?_)
    | (at_len; refine wpL_len _ rfl _ 130 rfl 9 138 Tryz.underlying130 mw n f rfl ((hown.alloc _).alloc _) ?_)
    | go_in)
  exact (Kp.alloc _ _ _).trans (Kp.alloc _ _ _) (fun _ _ h => h)

theorem bcell {W w1 : World} (hb : Below W.heap.size W w1) : (∀ b o, b < W.heap.size → w1.cell? ⟨b, o, none⟩ = W.cell? ⟨b, o, none⟩) ∧ (∀ b o, b < W.heap.size → w1.frozen? ⟨b, o, none⟩ = W.frozen? ⟨b, o, none⟩) :=
  ⟨fun b o h => hb.cell (p := ⟨b, o, none⟩) h, fun b o h => hb.frozen (p := ⟨b, o, none⟩) h⟩

set_option maxHeartbeats 1000000 in
theorem write_again (pt mw n : Nat) (f : Value → Option Value) (key val : ByteArray) (g : Bool) (w : World) (c1 : w.cell? ⟨pt, 1, none⟩ = some (.map (some mw))) (hown : fmap w Tryz.prog 9 mw n f)
    (hlen : key.size ≤ 8) (v0 : ByteArray) (g0 : Bool) (hf : f (.string key) = some (.agg #[.string v0, .bool g0])) (hn : (n : Int) ≤ 10)
    {f' : Value → Option Value} (hp : IsPut f (.string key) (.agg #[.string val, .bool g]) f')
    (hR : ∀ w', Kp (fun b => b = mw) w w' → fmap w' Tryz.prog 9 mw n f' → R (.returned (.int .i64 0)) w') :
    Calls Tryz.prog 69 #[.pointer (some ⟨pt, 0, none⟩), .string key, .agg #[.string val, .bool g]] w R := by
  have hkey : Hid _ := WideMaps.keyOf_string_mk Tryz.underlying9 (show key.size ≤ maxLen by unfold maxLen; omega)
  have hpt : pt < w.heap.size := World.block_lt_of_cell? w _ c1
  have HR : Hid _ := hR
  have HL : Hid _ := hlen
  have HP : Hid _ := hp
  clear hR hlen hp
  go_enter Tryz.func69, Tryz.ntmps69
  go_wp2_with (first
    | (at_lookup; refine wpL_lookup_ok _ rfl _ _ 130 rfl 9 138 kStr Tryz.underlying130 (zVer _) mw n f rfl (hown.alloc _) (.string key) _ rfl hkey.out _ hf ?_)
    | (at_len; refine wpL_len _ rfl _ 130 rfl 9 138 Tryz.underlying130 mw n f rfl ((hown.alloc _).alloc _) ?_)
    | go_in)
  have hkp : Hid (Kp (fun b => b = mw) w ((w.alloc (Obj.cells #[Value.string val, Value.bool g] 138)).alloc (Obj.cells #[Value.string v0, Value.bool g0] 138))) := (Kp.alloc _ _ _).trans (Kp.alloc _ _ _) (fun _ _ h => h)
  have hown2 := (hown.alloc (Obj.cells #[Value.string val, Value.bool g] 138)).alloc (Obj.cells #[Value.string v0, Value.bool g0] 138)
  have c1' : ((w.alloc (Obj.cells #[Value.string val, Value.bool g] 138)).alloc (Obj.cells #[Value.string v0, Value.bool g0] 138)).cell? ⟨pt, 1, none⟩ = some (.map (some mw)) := by go_simp
  have d0 : ((w.alloc (Obj.cells #[Value.string val, Value.bool g] 138)).alloc (Obj.cells #[Value.string v0, Value.bool g0] 138)).cell? ⟨w.heap.size, 0, none⟩ = some (.string val) := by go_simp
  have d1 : ((w.alloc (Obj.cells #[Value.string val, Value.bool g] 138)).alloc (Obj.cells #[Value.string v0, Value.bool g0] 138)).cell? ⟨w.heap.size, 1, none⟩ = some (.bool g) := by go_simp
  generalize hW : (w.alloc (Obj.cells #[Value.string val, Value.bool g] 138)).alloc (Obj.cells #[Value.string v0, Value.bool g0] 138) = W at *
  clear hW
  go_region_with (go_at_call 70; refine (clone_any _ _ (by have := HL.out; unfold maxLen; omega) (by have := HL.out; omega)).mono ?_; rintro e w1 ⟨rfl, hb1⟩; have k1 := (hb1.cell (p := ⟨pt, 1, none⟩) (World.block_lt_of_cell? W _ c1')).trans c1'; have k2 := (hb1.cell (p := ⟨w.heap.size, 0, none⟩) (World.block_lt_of_cell? W _ d0)).trans d0; have k3 := (hb1.cell (p := ⟨w.heap.size, 1, none⟩) (World.block_lt_of_cell? W _ d1)).trans d1; obtain ⟨w2, hrun, hown3, hturn⟩ := (hown2.drew.of_block (hb1.block mw hown2.lt)).store kStr Tryz.underlying130 (by unfold maxLen; omega) hkey.out (.agg #[.string val, .bool g]) HP.out; clear hkey)
  all_goals
    rw [hf] at hown3
    replace HR := HR.out w2 (((hkp.out.trans (Kp.drew (fun b => b = mw) W) (fun _ _ h => h)).trans (Kp.of_below hb1 (fun b => b = mw)) (fun _ _ h => h)).trans (Kp.of_turned (S := fun b => b = mw) hturn rfl) (fun _ _ h => h)) hown3
    clear hrun hown3 hturn hb1 k1 k2 k3 d0 d1 c1' hown2 hkp hpt hf hown c1
    go_wp2
    exact HR

set_option maxHeartbeats 1000000 in
set_option maxRecDepth 20000 in
theorem write_new (pt mw n : Nat) (f : Value → Option Value) (key val : ByteArray) (g : Bool) (w : World) (c1 : w.cell? ⟨pt, 1, none⟩ = some (.map (some mw))) (hown : fmap w Tryz.prog 9 mw n f)
    (hlen : key.size ≤ 8) (hf : f (.string key) = none) (hn : (n : Int) < 10)
    {f' : Value → Option Value} (hp : IsPut f (.string key) (.agg #[.string val, .bool g]) f')
    (hR : ∀ w', Kp (fun b => b = mw) w w' → fmap w' Tryz.prog 9 mw (n + 1) f' → R (.returned (.int .i64 0)) w') :
    Calls Tryz.prog 69 #[.pointer (some ⟨pt, 0, none⟩), .string key, .agg #[.string val, .bool g]] w R := by
  have hkey : Hid _ := WideMaps.keyOf_string_mk Tryz.underlying9 (show key.size ≤ maxLen by unfold maxLen; omega)
  have hpt : pt < w.heap.size := World.block_lt_of_cell? w _ c1
  have HR : Hid _ := hR
  have HL : Hid _ := hlen
  have HP : Hid _ := hp
  clear hR hlen hp
  go_enter Tryz.func69, Tryz.ntmps69
  go_wp2_with (first
    | (at_lookup; refine wpL_lookup_ok _ rfl _ _ 130 rfl 9 138 kStr Tryz.underlying130 (zVer _) mw n f rfl (hown.alloc _) (.string key) _ rfl hkey.out _ hf ?_)
    | (at_len; refine wpL_len _ rfl _ 130 rfl 9 138 Tryz.underlying130 mw n f rfl ((hown.alloc _).alloc _) ?_)
    | go_in)
  have hkp : Hid (Kp (fun b => b = mw) w ((w.alloc (Obj.cells #[Value.string val, Value.bool g] 138)).alloc (Obj.cells #[Value.string ByteArray.empty, Value.bool false] 138))) := (Kp.alloc _ _ _).trans (Kp.alloc _ _ _) (fun _ _ h => h)
  have hown2 := (hown.alloc (Obj.cells #[Value.string val, Value.bool g] 138)).alloc (Obj.cells #[Value.string ByteArray.empty, Value.bool false] 138)
  have c1' : ((w.alloc (Obj.cells #[Value.string val, Value.bool g] 138)).alloc (Obj.cells #[Value.string ByteArray.empty, Value.bool false] 138)).cell? ⟨pt, 1, none⟩ = some (.map (some mw)) := by go_simp
  have d0 : ((w.alloc (Obj.cells #[Value.string val, Value.bool g] 138)).alloc (Obj.cells #[Value.string ByteArray.empty, Value.bool false] 138)).cell? ⟨w.heap.size, 0, none⟩ = some (.string val) := by go_simp
  have d1 : ((w.alloc (Obj.cells #[Value.string val, Value.bool g] 138)).alloc (Obj.cells #[Value.string ByteArray.empty, Value.bool false] 138)).cell? ⟨w.heap.size, 1, none⟩ = some (.bool g) := by go_simp
  generalize hW : (w.alloc (Obj.cells #[Value.string val, Value.bool g] 138)).alloc (Obj.cells #[Value.string ByteArray.empty, Value.bool false] 138) = W at *
  clear hW
  go_region_with (go_at_call 70; refine (clone_any _ _ (by have := HL.out; unfold maxLen; omega) (by have := HL.out; omega)).mono ?_; rintro e w1 ⟨rfl, hb1⟩; have k1 := (hb1.cell (p := ⟨pt, 1, none⟩) (World.block_lt_of_cell? W _ c1')).trans c1'; have k2 := (hb1.cell (p := ⟨w.heap.size, 0, none⟩) (World.block_lt_of_cell? W _ d0)).trans d0; have k3 := (hb1.cell (p := ⟨w.heap.size, 1, none⟩) (World.block_lt_of_cell? W _ d1)).trans d1; obtain ⟨w2, hrun, hown3, hturn⟩ := (hown2.drew.of_block (hb1.block mw hown2.lt)).store kStr Tryz.underlying130 (by unfold maxLen; omega) hkey.out (.agg #[.string val, .bool g]) HP.out; clear hkey)
  all_goals
    rw [hf] at hown3
    replace HR := HR.out w2 (((hkp.out.trans (Kp.drew (fun b => b = mw) W) (fun _ _ h => h)).trans (Kp.of_below hb1 (fun b => b = mw)) (fun _ _ h => h)).trans (Kp.of_turned (S := fun b => b = mw) hturn rfl) (fun _ _ h => h)) hown3
    clear hrun hown3 hturn hb1 k1 k2 k3 d0 d1 c1' hown2 hkp hpt hf hown c1
    go_wp2
    exact HR

end

end Go.Proofs.YthbdpfccfcceiaaGreatDoor

namespace Go.Proofs.YthbdpfccfcceiaaGreatDoor
open Go.RowKit Go.Maps

section
variable {R : Ending → World → Prop}

set_option maxHeartbeats 400000 in
theorem put_none (p mo n : Nat) (f : Value → Option Value) (tx : Int) (key val : ByteArray) (w : World) (c2 : w.cell? ⟨p, 7, none⟩ = some (.map (some mo))) (hown : fmap w Tryz.prog 3 mo n f) (hwx : (Lit.int .i64 tx).wf = true) (hf : f (.int .i64 tx) = none)
    (hR : R (.returned (.int .i64 2)) w) :
    Calls Tryz.prog 35 #[.pointer (some ⟨p, 0, none⟩), .int .i64 tx, .string key, .string val] w R := by
  have hkey : Hid _ := keyOf_int_mk Tryz.underlying3 hwx
  go_enter Tryz.func35, Tryz.ntmps35
  go_wp2_with (first
    | (at_lookup; refine wpL_lookup_ok _ rfl _ _ 99 rfl 3 129 kInt Tryz.underlying99 (zTxP _) mo n f rfl hown (.int .i64 tx) _ rfl hkey.out _ hf ?_)
    | go_in)
  exact hR

set_option maxRecDepth 20000 in
set_option maxHeartbeats 400000 in
theorem put_bad (p mo n : Nat) (f : Value → Option Value) (tx : Int) (key val : ByteArray) (w : World) (c2 : w.cell? ⟨p, 7, none⟩ = some (.map (some mo))) (hown : fmap w Tryz.prog 3 mo n f) (hwx : (Lit.int .i64 tx).wf = true) (a : Addr) (hf : f (.int .i64 tx) = some (.pointer (some a)))
    (hk : key.size ≤ maxLen) (hv : val.size ≤ maxLen) (hbad : (isKey key && decide (val.size ≤ 20)) = false)
    (hR : R (.returned (.int .i64 1)) w) :
    Calls Tryz.prog 35 #[.pointer (some ⟨p, 0, none⟩), .int .i64 tx, .string key, .string val] w R := by
  have hkey : Hid _ := keyOf_int_mk Tryz.underlying3 hwx
  have HK : Hid _ := hk
  have HV : Hid _ := hv
  clear hk hv hwx
  cases h1 : isKey key
  · clear hbad
    go_enter Tryz.func35, Tryz.ntmps35
    go_wp2_with (first
      | (at_lookup; refine wpL_lookup_ok _ rfl _ _ 99 rfl 3 129 kInt Tryz.underlying99 (zTxP _) mo n f rfl hown (.int .i64 tx) _ rfl hkey.out _ hf ?_)
      | (go_at_call 67; refine (isKey_any _ _ HK.out).mono ?_; rintro e w' ⟨rfl, rfl⟩)
      | go_in)
    exact hR
  · have h2 : decide (val.size ≤ 20) = false := by rw [h1] at hbad; simpa using hbad
    clear hbad
    go_enter Tryz.func35, Tryz.ntmps35
    go_wp2_with (first
      | (at_lookup; refine wpL_lookup_ok _ rfl _ _ 99 rfl 3 129 kInt Tryz.underlying99 (zTxP _) mo n f rfl hown (.int .i64 tx) _ rfl hkey.out _ hf ?_)
      | (go_at_call 67; refine (isKey_any _ _ HK.out).mono ?_; rintro e w' ⟨rfl, rfl⟩)
      | (go_at_call 68; refine (isValue_any _ _ HV.out).mono ?_; rintro e w' ⟨rfl, rfl⟩)
      | go_in)
    exact hR

theorem isKey_le (s : ByteArray) (h : isKey s = true) : s.size ≤ 8 := by
  unfold isKey at h
  simp at h
  exact h.2.1

set_option maxRecDepth 20000 in
set_option maxHeartbeats 1000000 in
theorem put_good (p mo n pt : Nat) (f : Value → Option Value) (tx : Int) (key val : ByteArray) (w : World) (c2 : w.cell? ⟨p, 7, none⟩ = some (.map (some mo))) (hown : fmap w Tryz.prog 3 mo n f) (hwx : (Lit.int .i64 tx).wf = true) (hf : f (.int .i64 tx) = some (.pointer (some ⟨pt, 0, none⟩)))
    (h1 : isKey key = true) (hv : val.size ≤ 20)
    (hR : ∀ w1, Kp (fun _ => False) w w1 → Calls Tryz.prog 69 #[.pointer (some ⟨pt, 0, none⟩), .string key, .agg #[.string val, .bool false]] w1 fun e w2 => ∃ r, e = .returned (.int .i64 r) ∧ R (.returned (.int .i64 r)) w2) :
    Calls Tryz.prog 35 #[.pointer (some ⟨p, 0, none⟩), .int .i64 tx, .string key, .string val] w R := by
  have hkey : Hid _ := keyOf_int_mk Tryz.underlying3 hwx
  have hl := isKey_le key h1
  have HK : Hid (key.size ≤ maxLen) := by show key.size ≤ maxLen; unfold maxLen; omega
  have HV : Hid (val.size ≤ 20) := hv
  have h2 : decide (val.size ≤ 20) = true := by simpa using hv
  have HR : Hid _ := hR
  clear hv hwx hl hR
  go_enter Tryz.func35, Tryz.ntmps35
  go_wp2_with (first
    | (at_lookup; refine wpL_lookup_ok _ rfl _ _ 99 rfl 3 129 kInt Tryz.underlying99 (zTxP _) mo n f rfl hown (.int .i64 tx) _ rfl hkey.out _ hf ?_)
    | (go_at_call 67; refine (isKey_any _ _ HK.out).mono ?_; rintro e w' ⟨rfl, rfl⟩)
    | (go_at_call 68; refine (isValue_any _ _ (by have := HV.out; unfold maxLen; omega)).mono ?_; rintro e w' ⟨rfl, rfl⟩)
    | (go_at_call 70; refine (clone_any _ _ (by have := HV.out; unfold maxLen; omega) (by have := HV.out; omega)).mono ?_; rintro e w1 ⟨rfl, hb1⟩)
    | (go_at_call 69; refine (HR.out _ (Kp.of_below hb1 _)).mono ?_; rintro e w2 ⟨r, rfl, hr⟩)
    | go_in)
  exact hr

set_option maxHeartbeats 400000 in
theorem delete_none (p mo n : Nat) (f : Value → Option Value) (tx : Int) (key : ByteArray) (w : World) (c2 : w.cell? ⟨p, 7, none⟩ = some (.map (some mo))) (hown : fmap w Tryz.prog 3 mo n f) (hwx : (Lit.int .i64 tx).wf = true) (hf : f (.int .i64 tx) = none)
    (hR : R (.returned (.int .i64 2)) w) :
    Calls Tryz.prog 73 #[.pointer (some ⟨p, 0, none⟩), .int .i64 tx, .string key] w R := by
  have hkey : Hid _ := keyOf_int_mk Tryz.underlying3 hwx
  go_enter Tryz.func73, Tryz.ntmps73
  go_wp2_with (first
    | (at_lookup; refine wpL_lookup_ok _ rfl _ _ 99 rfl 3 129 kInt Tryz.underlying99 (zTxP _) mo n f rfl hown (.int .i64 tx) _ rfl hkey.out _ hf ?_)
    | go_in)
  exact hR

set_option maxRecDepth 20000 in
set_option maxHeartbeats 400000 in
theorem delete_bad (p mo n : Nat) (f : Value → Option Value) (tx : Int) (key : ByteArray) (w : World) (c2 : w.cell? ⟨p, 7, none⟩ = some (.map (some mo))) (hown : fmap w Tryz.prog 3 mo n f) (hwx : (Lit.int .i64 tx).wf = true) (a : Addr) (hf : f (.int .i64 tx) = some (.pointer (some a)))
    (hk : key.size ≤ maxLen) (h1 : isKey key = false)
    (hR : R (.returned (.int .i64 1)) w) :
    Calls Tryz.prog 73 #[.pointer (some ⟨p, 0, none⟩), .int .i64 tx, .string key] w R := by
  have hkey : Hid _ := keyOf_int_mk Tryz.underlying3 hwx
  have HK : Hid _ := hk
  clear hk hwx
  go_enter Tryz.func73, Tryz.ntmps73
  go_wp2_with (first
    | (at_lookup; refine wpL_lookup_ok _ rfl _ _ 99 rfl 3 129 kInt Tryz.underlying99 (zTxP _) mo n f rfl hown (.int .i64 tx) _ rfl hkey.out _ hf ?_)
    | (go_at_call 67; refine (isKey_any _ _ HK.out).mono ?_; rintro e w' ⟨rfl, rfl⟩)
    | go_in)
  exact hR

set_option maxRecDepth 20000 in
set_option maxHeartbeats 1000000 in
theorem delete_good (p mo n pt : Nat) (f : Value → Option Value) (tx : Int) (key : ByteArray) (w : World) (c2 : w.cell? ⟨p, 7, none⟩ = some (.map (some mo))) (hown : fmap w Tryz.prog 3 mo n f) (hwx : (Lit.int .i64 tx).wf = true) (hf : f (.int .i64 tx) = some (.pointer (some ⟨pt, 0, none⟩)))
    (h1 : isKey key = true)
    (hR : Calls Tryz.prog 69 #[.pointer (some ⟨pt, 0, none⟩), .string key, .agg #[.string { data := #[] }, .bool true]] w fun e w2 => ∃ r, e = .returned (.int .i64 r) ∧ R (.returned (.int .i64 r)) w2) :
    Calls Tryz.prog 73 #[.pointer (some ⟨p, 0, none⟩), .int .i64 tx, .string key] w R := by
  have hkey : Hid _ := keyOf_int_mk Tryz.underlying3 hwx
  have hl := isKey_le key h1
  have HK : Hid (key.size ≤ maxLen) := by show key.size ≤ maxLen; unfold maxLen; omega
  have HR : Hid _ := hR
  clear hwx hl hR
  go_enter Tryz.func73, Tryz.ntmps73
  go_wp2_with (first
    | (at_lookup; refine wpL_lookup_ok _ rfl _ _ 99 rfl 3 129 kInt Tryz.underlying99 (zTxP _) mo n f rfl hown (.int .i64 tx) _ rfl hkey.out _ hf ?_)
    | (go_at_call 67; refine (isKey_any _ _ HK.out).mono ?_; rintro e w' ⟨rfl, rfl⟩)
    | (go_at_call 69; refine Calls.mono HR.out ?_; rintro e w2 ⟨r, rfl, hr⟩)
    | go_in)
  exact hr

end

end Go.Proofs.YthbdpfccfcceiaaGreatDoor
