/-
  The body of a record, read: readBody.
  The body of a record that is of no kind, read.
-/
import Derived.Test.YthbdpfccfcceiaaGreatDoorF10F11
namespace Go.Proofs.YthbdpfccfcceiaaGreatDoor
open Go.RowKit Go.Maps Go.Lib

/-- What a body's reader is behind its kind and its moment. -/
def bodyS (body : List UInt8) : Nat × Nat × RS := ((⟨body, false⟩ : RS).one.1, (⟨body, false⟩ : RS).one.2.four.1, (⟨body, false⟩ : RS).one.2.four.2)

theorem results_row1 {fn : Func} {p u : Tmp} {ty : TypeId} (h : fn.results = #[.cell p ty, .tmp u]) (tmps : Array Value) (w : World) (g : Nat) (cs : Array Value)
    (hp : tmps.getD p undef = .pointer (some ⟨g, 0, none⟩)) (hv : (loadVar ty ⟨g, 0, none⟩).run Tryz.prog w = .ok (.agg cs) w) :
    (results fn tmps).run Tryz.prog w = .ok (.tuple #[.agg cs, tmps.getD u undef]) w := by
  have hp' : tmps[p]?.getD undef = .pointer (some ⟨g, 0, none⟩) := by simpa using hp
  simp [results, h, hp', asAddr, hv]

theorem load_rec {w : World} {g : Nat} {cs : Array Value} {fr : Nat × Nat} (hg : w.heap[g]? = some (.cells cs 110 fr)) (hs : cs.size = 3) : (loadVar 110 ⟨g, 0, none⟩).run Tryz.prog w = .ok (.agg cs) w :=
  run_loadVar_row w g 110 110 cs fr _ hg Tryz.underlying110 rfl (by rw [hs]; kernel_rfl)

section
variable {R : Ending → World → Prop}

theorem RS.four_len (s : RS) : s.four.2.bs.length ≤ s.bs.length := by
  show (s.take 4).2.bs.length ≤ _
  unfold RS.take
  split
  · exact Nat.le_refl _
  · show (s.bs.drop 4).length ≤ _
    rw [List.length_drop]; omega
theorem RS.four_lt (s : RS) : s.four.1 < 4294967296 := by
  unfold RS.four
  split
  · exact le4_lt _
  · omega

set_option maxRecDepth 20000 in
set_option maxHeartbeats 2000000 in
theorem readBody_hor (v : Value) (body : List UInt8) (g : Nat) (w : World) (h : RdC w v body g) (hg : g < w.heap.size) (hl : body.length ≤ 1000000) (hk : (bodyS body).1 = 72)
    (hR : ∀ w', Kp (fun _ => False) w w' → R (.returned (.tuple #[.agg #[.int .u8 72, .int .i64 ((bodyS body).2.1 : Nat), .slice none 0 0], .bool (bodyS body).2.2.done])) w') :
    Calls Tryz.prog 175 #[v] w R := by
  obtain ⟨o, cap, rfl, hcap, hc⟩ := h
  have k0 := Kp.alloc (fun _ => False) w (.cells #[.int .u8 0, .int .i64 0, .slice none 0 0] 110)
  have h0 : RdC (w.alloc (.cells #[.int .u8 0, .int .i64 0, .slice none 0 0] 110)) (.slice (some ⟨g, o, none⟩) body.length cap) body g := RdC.kept ⟨o, cap, rfl, hcap, hc⟩ k0
  have H1 := hid_of (reader_new h0 (Nat.lt_of_lt_of_le hg k0.size))
  have K0 := hid_of k0
  have HR0 := hid_of hR
  have HL := hid_of hl
  have b0 := heap_alloc_new w (.cells #[.int .u8 0, .int .i64 0, .slice none 0 0] 110)
  have B0 := hid_of b0
  have sA : (w.alloc (.cells #[.int .u8 0, .int .i64 0, .slice none 0 0] 110)).heap.size = w.heap.size + 1 := by simp
  have SA := hid_of sA
  have HK : Hid ((⟨body, false⟩ : RS).one.1 = 72) := hk
  clear h0 hR hl hc hcap k0 b0 hk hg sA
  go_enter Tryz.func175, Tryz.ntmps175
  generalize hA : w.alloc (.cells #[.int .u8 0, .int .i64 0, .slice none 0 0] 110) = A at H1 K0 B0 SA ⊢
  have HT := hid_of (RS.four_lt (⟨body, false⟩ : RS).one.2)
  have e64 : wrap64 (((⟨body, false⟩ : RS).one.2.four.1 : Nat) : Int) = (((⟨body, false⟩ : RS).one.2.four.1 : Nat) : Int) := by
    have h64 : IntKind.i64.wrap (((⟨body, false⟩ : RS).one.2.four.1 : Nat) : Int) = (((⟨body, false⟩ : RS).one.2.four.1 : Nat) : Int) := IntWalk.i64_in _ (by have := HT.out; omega)
    exact IntWalk.i64_left _ ▸ h64
  have HBk2 : Hid (∀ w1 w2 : World, (A.alloc (.cells #[.slice (some ⟨g, o, none⟩) body.length cap, .bool false] 303)).heap.size ≤ w1.heap.size → Kp (fun b => b = A.heap.size) (w1.alloc (.cells #[.int .u8 72, .int .i64 0, .slice none 0 0] 110)) w2 → w2.heap[w1.heap.size]? = some (.cells #[.int .u8 72, .int .i64 0, .slice none 0 0] 110 (0, 0))) := fun w1 w2 hs hk => by
    have hb := heap_alloc_new w1 (.cells #[.int .u8 72, .int .i64 0, .slice none 0 0] 110)
    simp at hs
    exact (hk.block _ (block_lt hb) (fun e => by omega)).trans hb
  go_wp2_with (first
    | (go_at_call 144; refine newReader_any _ _ _ _ ?_)
    | (go_at_call 206; refine one_any _ ⟨body, false⟩ _ g _ H1.out HL.out ?_; intro w1 v1 hr1 hk1; rw [HK.out]; have HR1 := hid_of hr1; have HK1 := hid_of hk1; have HS1 := hid_of hk1.size; have kB := Kp.alloc (fun _ => False) w1 (.cells #[.int .u8 72, .int .i64 0, .slice none 0 0] 110); have bB := heap_alloc_new w1 (.cells #[.int .u8 72, .int .i64 0, .slice none 0 0] 110); have HB2 := hid_of (hr1.kp kB (fun e => e) (fun e => e)); have KB := hid_of kB; have BB := hid_of bB; clear hr1 hk1 kB bB)
    | (go_at_call 174; refine four_any _ (⟨body, false⟩ : RS).one.2 v1 g _ HB2.out (Nat.le_trans (RS.one_len _) HL.out) ?_; intro w2 v2 hr2 hk2; have HR2 := hid_of hr2; have HK2 := hid_of hk2; have b2 := HBk2.out w1 w2 HS1.out hk2; have c20 : w2.cell? ⟨w1.heap.size, 0, none⟩ = some (.int .u8 72) := cell_of b2 0; have c21 : w2.cell? ⟨w1.heap.size, 1, none⟩ = some (.int .i64 0) := cell_of b2 1; have c22 : w2.cell? ⟨w1.heap.size, 2, none⟩ = some (.slice none 0 0) := cell_of b2 2; have f21 := frozen_at b2 1; have BX2 := hid_of b2; clear hr2 hk2 b2)
    | fail)
  have hs1 := HS1.out
  simp at hs1
  have hT := HT.out
  have HR : Hid (∀ w', Kp (fun _ => False) w w' → R (.returned (.tuple #[.agg #[.int .u8 72, .int .i64 ((⟨body, false⟩ : RS).one.2.four.1 : Nat), .slice none 0 0], .bool (⟨body, false⟩ : RS).one.2.four.2.done])) w') := HR0.out
  generalize hTT : (⟨body, false⟩ : RS).one.2.four.1 = T at HR HT hT e64 ⊢
  clear c20 c21 c22 f21
  have kS : Kp (fun b => b = w1.heap.size) w2 (w2.setCell ⟨w1.heap.size, 1, none⟩ (.int .i64 (T : Nat))) := Kp.setCell _ _ _ rfl
  have bS : (w2.setCell ⟨w1.heap.size, 1, none⟩ (.int .i64 (T : Nat))).heap[w1.heap.size]? = some (.cells #[.int .u8 72, .int .i64 (T : Nat), .slice none 0 0] 110 (0, 0)) := heap_set BX2.out _
  rw [e64]
  generalize w2.setCell ⟨w1.heap.size, 1, none⟩ (.int .i64 (T : Nat)) = W at kS bS ⊢
  have ka : Kp (fun b => b = A.heap.size ∨ b = w1.heap.size) A W := ((((Kp.alloc _ _ _).trans HK1.out (fun _ _ h => Or.inl h)).trans (Kp.alloc _ _ _) (fun _ _ h => h)).trans HK2.out (fun _ _ h => Or.inl h)).trans kS (fun _ _ h => Or.inr h)
  have hsA := SA.out
  have hb0 : W.heap[w.heap.size]? = some (.cells #[.int .u8 0, .int .i64 0, .slice none 0 0] 110 (0, 0)) := (ka.block _ (block_lt B0.out) (fun e => by omega)).trans B0.out
  have kw : Kp (fun _ => False) w W := K0.out.trans ka (fun b hb e => by omega)
  have HRW := hid_of (HR2.out.kp kS (fun e => by omega) (fun e => by have := HR1.out.lt; omega))
  have q20 : W.cell? ⟨w1.heap.size, 0, none⟩ = some (.int .u8 72) := cell_of bS 0
  have q21 : W.cell? ⟨w1.heap.size, 1, none⟩ = some (.int .i64 (T : Nat)) := cell_of bS 1
  have q22 : W.cell? ⟨w1.heap.size, 2, none⟩ = some (.slice none 0 0) := cell_of bS 2
  have q00 : W.cell? ⟨w.heap.size, 0, none⟩ = some (.int .u8 0) := cell_of hb0 0
  have q01 : W.cell? ⟨w.heap.size, 1, none⟩ = some (.int .i64 0) := cell_of hb0 1
  have q02 : W.cell? ⟨w.heap.size, 2, none⟩ = some (.slice none 0 0) := cell_of hb0 2
  have f00 := frozen_at hb0 0
  have f01 := frozen_at hb0 1
  have f02 := frozen_at hb0 2
  have HB0 := hid_of hb0
  have KW := hid_of kw
  have HLEN : Hid ((⟨body, false⟩ : RS).one.2.four.2.bs.length ≤ 1000000) := Nat.le_trans (Nat.le_trans (RS.four_len _) (RS.one_len _)) HL.out
  clear ka kS bS hs1 hsA hb0 kw
  go_region_law (refine step_call rfl 192 _ _ _ rfl Tryz.func192 (by kernel_rfl) (by kernel_rfl) _ (by simp [Act.eval]; rfl) ?_; refine done_any _ (⟨body, false⟩ : RS).one.2.four.2 v2 g _ (HRW.out.kp (Kp.drew (fun _ => False) W) (fun e => e) (fun e => e)) HLEN.out ?_; refine ⟨_, rfl, ?_⟩)
  all_goals
    go_wp2_with fail
    refine bodyPost_ret (results_row1 rfl _ _ w.heap.size #[.int .u8 72, .int .i64 (T : Nat), .slice none 0 0] rfl (load_rec (fr := (0, 0)) ?_ rfl)) rfl ?_
    · exact heap_set (heap_set (heap_set (show W.drew.heap[w.heap.size]? = _ from HB0.out) _) _) _
    · refine HR.out _ ?_
      refine (KW.out.trans (Kp.drew _ _) (fun _ _ h => h)).trans (S' := fun b => b = w.heap.size) ?_ (fun b hb e => by omega)
      exact ((Kp.setCell (S := fun b => b = w.heap.size) _ _ _ rfl).trans (Kp.setCell (S := fun b => b = w.heap.size) _ _ _ rfl) (fun _ _ h => h)).trans (Kp.setCell (S := fun b => b = w.heap.size) _ _ _ rfl) (fun _ _ h => h)

end

end Go.Proofs.YthbdpfccfcceiaaGreatDoor

namespace Go.Proofs.YthbdpfccfcceiaaGreatDoor
open Go.RowKit Go.Maps Go.Lib

section
variable {R : Ending → World → Prop}

set_option maxRecDepth 20000 in
set_option maxHeartbeats 2000000 in
theorem readBody_other (v : Value) (body : List UInt8) (g : Nat) (w : World) (h : RdC w v body g) (hg : g < w.heap.size) (hl : body.length ≤ 1000000) (hk1 : (bodyS body).1 ≠ 67) (hk2 : (bodyS body).1 ≠ 72)
    (hR : ∀ w', Kp (fun _ => False) w w' → R (.returned (.tuple #[.agg #[.int .u8 0, .int .i64 0, .slice none 0 0], .bool false])) w') :
    Calls Tryz.prog 175 #[v] w R := by
  obtain ⟨o, cap, rfl, hcap, hc⟩ := h
  have k0 := Kp.alloc (fun _ => False) w (.cells #[.int .u8 0, .int .i64 0, .slice none 0 0] 110)
  have h0 : RdC (w.alloc (.cells #[.int .u8 0, .int .i64 0, .slice none 0 0] 110)) (.slice (some ⟨g, o, none⟩) body.length cap) body g := RdC.kept ⟨o, cap, rfl, hcap, hc⟩ k0
  have H1 := hid_of (reader_new h0 (Nat.lt_of_lt_of_le hg k0.size))
  have K0 := hid_of k0
  have HR0 := hid_of hR
  have HL := hid_of hl
  have b0 := heap_alloc_new w (.cells #[.int .u8 0, .int .i64 0, .slice none 0 0] 110)
  have B0 := hid_of b0
  have sA : (w.alloc (.cells #[.int .u8 0, .int .i64 0, .slice none 0 0] 110)).heap.size = w.heap.size + 1 := by simp
  have SA := hid_of sA
  obtain ⟨k, hk⟩ : ∃ k, (⟨body, false⟩ : RS).one.1 = k := ⟨_, rfl⟩
  have hk8 := RS.one_lt (⟨body, false⟩ : RS)
  have hk67 : (⟨body, false⟩ : RS).one.1 ≠ 67 := hk1
  have hk72 : (⟨body, false⟩ : RS).one.1 ≠ 72 := hk2
  rw [hk] at hk8 hk67 hk72
  have HK := hid_of hk
  have n67 : ((k : Int) == 67) = false := by simp; omega
  have n72 : ((k : Int) == 72) = false := by simp; omega
  have e8 : IntKind.u8.wrap (k : Int) = (k : Int) := by
    simp only [IntKind.wrap, IntKind.bits, IntKind.signed]
    simp
    omega
  clear hk1 hk2 hk67 hk72
  clear h0 hR hl hc hcap k0 b0 hk hg sA
  go_enter Tryz.func175, Tryz.ntmps175
  generalize hA : w.alloc (.cells #[.int .u8 0, .int .i64 0, .slice none 0 0] 110) = A at H1 K0 B0 SA ⊢
  have HT := hid_of (RS.four_lt (⟨body, false⟩ : RS).one.2)
  have e64 : wrap64 (((⟨body, false⟩ : RS).one.2.four.1 : Nat) : Int) = (((⟨body, false⟩ : RS).one.2.four.1 : Nat) : Int) := by
    have h64 : IntKind.i64.wrap (((⟨body, false⟩ : RS).one.2.four.1 : Nat) : Int) = (((⟨body, false⟩ : RS).one.2.four.1 : Nat) : Int) := IntWalk.i64_in _ (by have := HT.out; omega)
    exact IntWalk.i64_left _ ▸ h64
  have HNQ : Hid (∀ w1 : World, (A.alloc (.cells #[.slice (some ⟨g, o, none⟩) body.length cap, .bool false] 303)).heap.size ≤ w1.heap.size → w.heap.size ≠ w1.heap.size) := fun w1 hs => by
    have := SA.out
    simp at hs
    omega
  have HBk0 : Hid (∀ w1 w2 : World, Kp (fun b => b = A.heap.size) (A.alloc (.cells #[.slice (some ⟨g, o, none⟩) body.length cap, .bool false] 303)) w1 → Kp (fun b => b = A.heap.size) (w1.alloc (.cells #[.int .u8 (k : Int), .int .i64 0, .slice none 0 0] 110)) w2 → w2.heap[w.heap.size]? = some (.cells #[.int .u8 0, .int .i64 0, .slice none 0 0] 110 (0, 0))) := fun w1 w2 hk1 hk2 => by
    have hs := SA.out
    have ka : Kp (fun b => b = A.heap.size) A w2 := (((Kp.alloc _ _ _).trans hk1 (fun _ _ h => h)).trans (Kp.alloc _ _ _) (fun _ _ h => h)).trans hk2 (fun _ _ h => h)
    exact (ka.block _ (block_lt B0.out) (fun e => by omega)).trans B0.out
  have HBk2 : Hid (∀ w1 w2 : World, (A.alloc (.cells #[.slice (some ⟨g, o, none⟩) body.length cap, .bool false] 303)).heap.size ≤ w1.heap.size → Kp (fun b => b = A.heap.size) (w1.alloc (.cells #[.int .u8 (k : Int), .int .i64 0, .slice none 0 0] 110)) w2 → w2.heap[w1.heap.size]? = some (.cells #[.int .u8 (k : Int), .int .i64 0, .slice none 0 0] 110 (0, 0))) := fun w1 w2 hs hk => by
    have hb := heap_alloc_new w1 (.cells #[.int .u8 (k : Int), .int .i64 0, .slice none 0 0] 110)
    simp at hs
    exact (hk.block _ (block_lt hb) (fun e => by omega)).trans hb
  go_wp2_with (first
    | (go_at_call 144; refine newReader_any _ _ _ _ ?_)
    | (go_at_call 206; refine one_any _ ⟨body, false⟩ _ g _ H1.out HL.out ?_; intro w1 v1 hr1 hk1; rw [HK.out]; have HR1 := hid_of hr1; have HK1 := hid_of hk1; have HS1 := hid_of hk1.size; have kB := Kp.alloc (fun _ => False) w1 (.cells #[.int .u8 (k : Int), .int .i64 0, .slice none 0 0] 110); have bB := heap_alloc_new w1 (.cells #[.int .u8 (k : Int), .int .i64 0, .slice none 0 0] 110); have HB2 := hid_of (hr1.kp kB (fun e => e) (fun e => e)); have KB := hid_of kB; have BB := hid_of bB; clear hr1 hk1 kB bB)
    | (go_at_call 174; refine four_any _ (⟨body, false⟩ : RS).one.2 v1 g _ HB2.out (Nat.le_trans (RS.one_len _) HL.out) ?_; intro w2 v2 hr2 hk2; have HR2 := hid_of hr2; have HK2 := hid_of hk2; have b2 := HBk2.out w1 w2 HS1.out hk2; have c20 : w2.cell? ⟨w1.heap.size, 0, none⟩ = some (.int .u8 (k : Int)) := cell_of b2 0; have c21 : w2.cell? ⟨w1.heap.size, 1, none⟩ = some (.int .i64 0) := cell_of b2 1; have c22 : w2.cell? ⟨w1.heap.size, 2, none⟩ = some (.slice none 0 0) := cell_of b2 2; have f21 := frozen_at b2 1; have BX2 := hid_of b2; have b3 := HBk0.out w1 w2 HK1.out hk2; have c00 : w2.cell? ⟨w.heap.size, 0, none⟩ = some (.int .u8 0) := cell_of b3 0; have c01 : w2.cell? ⟨w.heap.size, 1, none⟩ = some (.int .i64 0) := cell_of b3 1; have c02 : w2.cell? ⟨w.heap.size, 2, none⟩ = some (.slice none 0 0) := cell_of b3 2; have f00 := frozen_at b3 0; have f01 := frozen_at b3 1; have f02 := frozen_at b3 2; have B3 := hid_of b3; have nq := HNQ.out w1 HS1.out; have nq' : w1.heap.size ≠ w.heap.size := fun e => nq e.symm; clear hr2 hk2 b2 b3)
    | fail)
  have hnq := HNQ.out w1 HS1.out
  have hsA := SA.out
  refine bodyPost_ret (results_row1 rfl _ _ w.heap.size #[.int .u8 0, .int .i64 0, .slice none 0 0] rfl (load_rec (fr := (0, 0)) ?_ rfl)) rfl ?_
  · have kS : Kp (fun b => b = w1.heap.size) w2 (w2.setCell ⟨w1.heap.size, 1, none⟩ (.int .i64 ((⟨body, false⟩ : RS).one.2.four.1 : Nat))) := Kp.setCell _ _ _ rfl
    exact heap_set (heap_set (heap_set ((kS.block _ (block_lt B3.out) hnq).trans B3.out) _) _) _
  · refine HR0.out _ ?_
    have hs1 := HS1.out
    simp at hs1
    have ka : Kp (fun b => b = A.heap.size) A w2 := (((Kp.alloc _ _ _).trans HK1.out (fun _ _ h => h)).trans (Kp.alloc _ _ _) (fun _ _ h => h)).trans HK2.out (fun _ _ h => h)
    have kw : Kp (fun _ => False) w w2 := K0.out.trans ka (fun b hb (e : b = A.heap.size) => by omega)
    refine kw.trans (S' := fun b => b = w.heap.size ∨ b = w1.heap.size) ?_ (fun b hb e => by omega)
    exact (((Kp.setCell _ _ _ (Or.inr rfl)).trans (Kp.setCell _ _ _ (Or.inl rfl)) (fun _ _ h => h)).trans (Kp.setCell _ _ _ (Or.inl rfl)) (fun _ _ h => h)).trans (Kp.setCell _ _ _ (Or.inl rfl)) (fun _ _ h => h)

end

end Go.Proofs.YthbdpfccfcceiaaGreatDoor
