/-
  A record, taken off the bytes that begin with it: cutRecord.
-/
import Derived.Test.YthbdpfccfcceiaaGreatDoorF15F16
namespace Go.Proofs.YthbdpfccfcceiaaGreatDoor
open Go.RowKit Go.Maps Go.Lib

section
variable {R : Ending → World → Prop}

def recZ : Array Value := #[.int .u8 0, .int .i64 0, .slice none 0 0]

set_option maxRecDepth 20000 in
set_option maxHeartbeats 1000000 in
theorem cutRecord_short (g o cap n : Nat) (w : World) (q : n < 2)
    (hR : ∀ w', Kp (fun _ => False) w w' → R (.returned (.tuple #[.agg recZ, .slice none 0 0, .bool false])) w') :
    Calls Tryz.prog 129 #[.slice (some ⟨g, o, none⟩) n cap] w R := by
  have q' : (n : Int) < 2 := by omega
  have b0 := heap_alloc_new w (.cells #[.int .u8 0, .int .i64 0, .slice none 0 0] 110)
  have k0 := Kp.alloc (fun _ => False) w (.cells #[.int .u8 0, .int .i64 0, .slice none 0 0] 110)
  have HR := hid_of hR
  have B0 := hid_of b0
  have K0 := hid_of k0
  have SA : Hid (w.heap.size < (w.alloc (.cells #[.int .u8 0, .int .i64 0, .slice none 0 0] 110)).heap.size) := by show _ < _; simp
  clear hR q k0 b0
  go_enter Tryz.func129, Tryz.ntmps129
  generalize hA : w.alloc (.cells #[.int .u8 0, .int .i64 0, .slice none 0 0] 110) = A at B0 K0 SA ⊢
  have c00 : A.cell? ⟨w.heap.size, 0, none⟩ = some (.int .u8 0) := cell_of B0.out 0
  have c01 : A.cell? ⟨w.heap.size, 1, none⟩ = some (.int .i64 0) := cell_of B0.out 1
  have c02 : A.cell? ⟨w.heap.size, 2, none⟩ = some (.slice none 0 0) := cell_of B0.out 2
  have f00 := frozen_at B0.out 0
  have f01 := frozen_at B0.out 1
  have f02 := frozen_at B0.out 2
  go_wp2_with fail
  refine bodyPost_ret (results_row2 rfl _ _ w.heap.size recZ rfl (load_rec (fr := (0, 0)) ?_ rfl)) rfl ?_
  · exact heap_set (heap_set (heap_set B0.out _) _) _
  · refine HR.out _ (K0.out.trans (S' := fun b => b = w.heap.size) ?_ (fun b hb e => by omega))
    exact ((Kp.setCell (S := fun b => b = w.heap.size) _ _ _ rfl).trans (Kp.setCell (S := fun b => b = w.heap.size) _ _ _ rfl) (fun _ _ h => h)).trans (Kp.setCell (S := fun b => b = w.heap.size) _ _ _ rfl) (fun _ _ h => h)

set_option maxRecDepth 20000 in
set_option maxHeartbeats 2000000 in
theorem cutRecord_any (v : Value) (bs : List UInt8) (g : Nat) (w : World) (h : RdC w v bs g) (hg : g < w.heap.size) (hT : Tab w) (hl : bs.length ≤ 1000000) (hf : CutFine bs)
    (h1 : (∀ k t ws r, ¬ CutIs bs k t ws r) → ∀ w', Kp (fun _ => False) w w' → R (.returned (.tuple #[.agg recZ, .slice none 0 0, .bool false])) w')
    (h2 : ∀ (k t : Nat) ws r w' u v', CutIs bs k t ws r → t < 4294967296 → (k = 72 → u = .slice none 0 0) → Kp (fun _ => False) w w' → WR w.heap.size w' u ws → RdC w' v' r g → R (.returned (.tuple #[.agg #[.int .u8 k, .int .i64 t, u], v', .bool true])) w') :
    Calls Tryz.prog 129 #[v] w R := by
  obtain ⟨o, cap, rfl, hcap, hc⟩ := h
  by_cases q : bs.length < 2
  · exact cutRecord_short g o cap _ w q (h1 (fun k t ws r hh => by have := hh.1; omega))
  · have k0 := Kp.alloc (fun _ => False) w (.cells #[.int .u8 0, .int .i64 0, .slice none 0 0] 110)
    have b0 := heap_alloc_new w (.cells #[.int .u8 0, .int .i64 0, .slice none 0 0] 110)
    have h0 : RdC (w.alloc (.cells #[.int .u8 0, .int .i64 0, .slice none 0 0] 110)) (.slice (some ⟨g, o, none⟩) bs.length cap) bs g := RdC.kept ⟨o, cap, rfl, hcap, hc⟩ k0
    have H0 := hid_of h0
    have K0 := hid_of k0
    have B0 := hid_of b0
    have HR1 := hid_of h1
    have HR2 := hid_of h2
    have HT := hid_of hT
    have HL := hid_of hl
    have HF := hid_of hf
    have HG := hid_of hg
    have HQ := hid_of q
    have SA : Hid (w.heap.size < (w.alloc (.cells #[.int .u8 0, .int .i64 0, .slice none 0 0] 110)).heap.size) := by show _ < _; simp
    have q1 : ¬ (bs.length : Int) < 2 := by omega
    have q2 : (0 : Int) < bs.length := by omega
    have q3 : (1 : Int) < bs.length := by omega
    have q4 : 0 < bs.length := by omega
    have q5 : 1 < bs.length := by omega
    have hx0 := (bs.getD 0 0).toNat_lt
    have hx1 := (bs.getD 1 0).toNat_lt
    have HC : Hid (∀ j, j < bs.length → (w.alloc (.cells #[.int .u8 0, .int .i64 0, .slice none 0 0] 110)).cell? ⟨g, o + j, none⟩ = some (b8 (bs.getD j 0))) := fun j hj => (k0.cell (a := ⟨g, o + j, none⟩) hg (fun e => e)).trans (hc j hj)
    have HLEN : Hid (lenB bs = (bs.getD 0 0).toNat + 256 * (bs.getD 1 0).toNat) := rfl
    clear h1 h2 hT hl hf hg q h0 b0 k0 hc
    go_enter Tryz.func129, Tryz.ntmps129
    generalize hA : w.alloc (.cells #[.int .u8 0, .int .i64 0, .slice none 0 0] 110) = A at B0 K0 SA H0 HC ⊢
    have d0 := HC.out 0 q4
    have d1 := HC.out 1 q5
    rw [Nat.add_zero] at d0
    unfold b8 at d0 d1
    generalize (bs.getD 0 0).toNat = x at d0 hx0 HLEN
    generalize (bs.getD 1 0).toNat = y at d1 hx1 HLEN
    go_wp2_with fail
    go_region_held3 (fun w' => w'.cell? ⟨g, o, none⟩ = some (.int .u8 (x : Int)) ∧ w'.cell? ⟨g, o + 1, none⟩ = some (.int .u8 (y : Int))) (go_keep) (fail)
    all_goals go_wp2_with fail
    have en : (2 + ((x : Int) + (y : Int) * 256)) = ((2 + lenB bs : Nat) : Int) := by have := HLEN.out; omega
    have hn : 2 + lenB bs ≤ 100000 := by have := HLEN.out; omega
    generalize hN : 2 + lenB bs = n at en hn
    have HN := hid_of hN
    rw [en]
    clear en d0 d1 hA
    generalize (x : Int) = x' 
    generalize (y : Int) = y'
    have kD := Kp.drew (fun _ => False) A
    refine unseal_any _ bs g n A.drew (H0.out.kept kD) (Nat.lt_of_lt_of_le HG.out (K0.out.trans kD (fun _ _ h => h)).size) (HT.out.kept (K0.out.trans kD (fun _ _ h => h))) hn HL.out ?_ ?_
    · intro e w1 hk1
      have k1 : Kp (fun _ => False) A w1 := kD.trans hk1 (fun _ _ h => h)
      have b1 := (k1.block _ (block_lt B0.out) (fun e => e)).trans B0.out
      have HF := hid_of (HR1.out (fun k t ws r hh => by
        obtain ⟨_, c, h1, _⟩ := hh
        rw [HN.out, e] at h1; cases h1))
      have K1 := hid_of (K0.out.trans k1 (fun _ _ h => h))
      have B1 := hid_of b1
      have c00 : w1.cell? ⟨w.heap.size, 0, none⟩ = some (.int .u8 0) := cell_of b1 0
      have c01 : w1.cell? ⟨w.heap.size, 1, none⟩ = some (.int .i64 0) := cell_of b1 1
      have c02 : w1.cell? ⟨w.heap.size, 2, none⟩ = some (.slice none 0 0) := cell_of b1 2
      have f00 := frozen_at b1 0
      have f01 := frozen_at b1 1
      have f02 := frozen_at b1 2
      clear hk1 k1 b1 e
      go_wp2_with fail
      refine bodyPost_ret (results_row2 rfl _ _ w.heap.size recZ rfl (load_rec (fr := (0, 0)) ?_ rfl)) rfl ?_
      · exact heap_set (heap_set (heap_set B1.out _) _) _
      · refine HF.out _ (K1.out.trans (S' := fun b => b = w.heap.size) ?_ (fun b hb e => by omega))
        exact ((Kp.setCell (S := fun b => b = w.heap.size) _ _ _ rfl).trans (Kp.setCell (S := fun b => b = w.heap.size) _ _ _ rfl) (fun _ _ h => h)).trans (Kp.setCell (S := fun b => b = w.heap.size) _ _ _ rfl) (fun _ _ h => h)
    · intro v1 v2 w1 e hr1 hr2 hk1
      obtain ⟨o1, c1, rfl, hcap1, hc1⟩ := hr1
      obtain ⟨o2, c2, rfl, hcap2, hc2⟩ := hr2
      have hle : n + 4 ≤ bs.length := by
        unfold unsealB at e
        split at e
        · cases e
        · rename_i hq
          omega
      have l1 : (bs.take n).length = n := by rw [List.length_take]; omega
      obtain ⟨n2, hn2⟩ : ∃ n2, (bs.drop (n + 4)).length = n2 := ⟨_, rfl⟩
      have HR3 : Hid (RdC w1 (.slice (some ⟨g, o2, none⟩) n2 c2) (bs.drop (n + 4)) g) := ⟨o2, c2, by rw [hn2], hcap2, hc2⟩
      rw [l1] at hcap1 hc1
      have k1 : Kp (fun _ => False) A w1 := kD.trans hk1 (fun _ _ h => h)
      have n2' : 2 ≤ n := by have := HN.out; omega
      obtain ⟨body, hbody⟩ : ∃ body, (bs.take n).drop 2 = body := ⟨_, rfl⟩
      have HBY := hid_of hbody
      have HBF : Hid (BodyFine body) := hbody ▸ HF.out (bs.take n) (bs.drop (n + 4)) (by rw [HN.out]; exact e)
      have HE := hid_of e
      have b1 := (k1.block _ (block_lt B0.out) (fun e => e)).trans B0.out
      have B1 := hid_of b1
      have K1 := hid_of (K0.out.trans k1 (fun _ _ h => h))
      have S1 : Hid (w.heap.size < w1.heap.size) := Nat.lt_of_lt_of_le SA.out k1.size
      have HG1 : Hid (g < w1.heap.size) := Nat.lt_of_lt_of_le HG.out K1.out.size
      have HLB : Hid (body.length ≤ 1000000) := by
        show _ ≤ _
        rw [← hbody]
        have := HL.out
        simp; omega
      have n3' : (2 : Int) ≤ n := by omega
      have n4' : (n : Int) ≤ 100000 := by omega
      have hcap1' : (n : Int) ≤ c1 := by omega
      rw [l1, hn2]
      by_cases q5 : c1 = 2
      · have q6 : n = 2 := by omega
        have HV : Hid (RdC w1 (.slice (some ⟨g, o1, none⟩) 0 0) body g) := hbody ▸ RdC.dropAll 2 (by rw [l1]; omega)
        clear hbody hc1 hc2 hcap2 hk1 e b1 k1 hle l1 hn2 hcap1' n3' n4'
        subst q5
        rw [q6]
        go_wp2_with (first
          | (go_at_call 175; refine readBody_any _ body g w1 HV.out HG1.out HLB.out HBF.out ?_ ?_)
          | fail)
        · intro hno w2 a b pu nu cu hk2
          have b2 := (hk2.block _ (block_lt B1.out) (fun e => e)).trans B1.out
          have HF1 := hid_of (HR1.out (fun k t ws r hh => by
            obtain ⟨_, c, h1, h2⟩ := hh
            rw [HN.out, HE.out] at h1
            injection h1 with h1
            injection h1 with h1 _
            subst h1
            rw [HBY.out] at h2
            exact hno k t ws h2))
          have K2 := hid_of (K1.out.trans hk2 (fun _ _ h => h))
          have B2 := hid_of b2
          have c00 : w2.cell? ⟨w.heap.size, 0, none⟩ = some (.int .u8 0) := cell_of b2 0
          have c01 : w2.cell? ⟨w.heap.size, 1, none⟩ = some (.int .i64 0) := cell_of b2 1
          have c02 : w2.cell? ⟨w.heap.size, 2, none⟩ = some (.slice none 0 0) := cell_of b2 2
          have f00 := frozen_at b2 0
          have f01 := frozen_at b2 1
          have f02 := frozen_at b2 2
          clear hno hk2 b2
          go_wp2_with fail
          refine bodyPost_ret (results_row2 rfl _ _ w.heap.size recZ rfl (load_rec (fr := (0, 0)) ?_ rfl)) rfl ?_
          · exact heap_set (heap_set (heap_set (heap_set (heap_set (heap_set B2.out _) _) _) _) _) _
          · refine HF1.out _ (K2.out.trans (S' := fun b => b = w.heap.size) ?_ (fun b hb e => by omega))
            exact (((((Kp.setCell (S := fun b => b = w.heap.size) _ _ _ rfl).trans (Kp.setCell (S := fun b => b = w.heap.size) _ _ _ rfl) (fun _ _ h => h)).trans (Kp.setCell (S := fun b => b = w.heap.size) _ _ _ rfl) (fun _ _ h => h)).trans (Kp.setCell (S := fun b => b = w.heap.size) _ _ _ rfl) (fun _ _ h => h)).trans (Kp.setCell (S := fun b => b = w.heap.size) _ _ _ rfl) (fun _ _ h => h)).trans (Kp.setCell (S := fun b => b = w.heap.size) _ _ _ rfl) (fun _ _ h => h)
        · intro k t ws w2 u hrec ht hu hk2 hw
          have b2 := (hk2.block _ (block_lt B1.out) (fun e => e)).trans B1.out
          have hcut : CutIs bs k t ws (bs.drop (n + 4)) := ⟨by have := HQ.out; omega, bs.take n, by rw [HN.out]; exact HE.out, by rw [HBY.out]; exact hrec⟩
          have hwl : ∀ b, u.ownBlock = some b → w.heap.size < b := fun b e => by
            have h1 := (hw.lt b e).1
            have h2 := K1.out.size
            have := S1.out
            omega
          have hwr : ∀ w', Kp (fun b => b = w.heap.size) w2 w' → WR w.heap.size w' u ws := fun w' k => by
            have h := ownsRow_kp hw k (fun b e (h : b = w.heap.size) => by have := hwl b e; omega)
            exact ⟨h.1, h.2.imp id (fun ⟨g', cap', cur, e1, e2, e3⟩ => ⟨g', cap', cur, e1, by have := S1.out; omega, e3⟩)⟩
          obtain ⟨pu, cu, rfl⟩ := ownsRow_slice hw
          have HF2 := hid_of (fun w' (k' : Kp (fun b => b = w.heap.size) w2 w') => HR2.out k t ws (bs.drop (n + 4)) w' (.slice pu ws.length cu) (.slice (some ⟨g, o2, none⟩) n2 c2) hcut ht hu ((K1.out.trans hk2 (fun _ _ h => h)).trans k' (fun b hb (e : b = w.heap.size) => by omega)) (hwr w' k') ((HR3.out.kept hk2).kp k' (fun (e : g = w.heap.size) => by have := HG.out; omega)))
          have B2 := hid_of b2
          have c00 : w2.cell? ⟨w.heap.size, 0, none⟩ = some (.int .u8 0) := cell_of b2 0
          have c01 : w2.cell? ⟨w.heap.size, 1, none⟩ = some (.int .i64 0) := cell_of b2 1
          have c02 : w2.cell? ⟨w.heap.size, 2, none⟩ = some (.slice none 0 0) := cell_of b2 2
          have f00 := frozen_at b2 0
          have f01 := frozen_at b2 1
          have f02 := frozen_at b2 2
          clear hrec ht hu hk2 hw b2 hcut hwl hwr
          go_wp2_with fail
          refine bodyPost_ret (results_row2 rfl _ _ w.heap.size #[.int .u8 k, .int .i64 t, .slice pu ws.length cu] rfl (load_rec (fr := (0, 0)) ?_ rfl)) rfl ?_
          · exact heap_set (heap_set (heap_set (heap_set (heap_set (heap_set B2.out _) _) _) _) _) _
          · refine HF2.out _ ?_
            exact (((((Kp.setCell (S := fun b => b = w.heap.size) _ _ _ rfl).trans (Kp.setCell (S := fun b => b = w.heap.size) _ _ _ rfl) (fun _ _ h => h)).trans (Kp.setCell (S := fun b => b = w.heap.size) _ _ _ rfl) (fun _ _ h => h)).trans (Kp.setCell (S := fun b => b = w.heap.size) _ _ _ rfl) (fun _ _ h => h)).trans (Kp.setCell (S := fun b => b = w.heap.size) _ _ _ rfl) (fun _ _ h => h)).trans (Kp.setCell (S := fun b => b = w.heap.size) _ _ _ rfl) (fun _ _ h => h)
      · have HV : Hid (RdC w1 (.slice (some ⟨g, o1 + 2, none⟩) (n - 2) (c1 - 2)) body g) := by
          have h := RdC.drop (w := w1) (g := g) (o := o1) (bs := bs.take n) (cap := c1) (by rw [l1]; exact hcap1) (by rw [l1]; exact hc1) 2 (by rw [l1]; omega)
          rw [l1, hbody] at h
          exact h
        clear hbody hc1 hc2 hcap2 hk1 e b1 k1 hle l1 hn2
        go_wp2_with (first
          | (go_at_call 175; refine readBody_any _ body g w1 HV.out HG1.out HLB.out HBF.out ?_ ?_)
          | fail)
        · intro hno w2 a b pu nu cu hk2
          have b2 := (hk2.block _ (block_lt B1.out) (fun e => e)).trans B1.out
          have HF1 := hid_of (HR1.out (fun k t ws r hh => by
            obtain ⟨_, c, h1, h2⟩ := hh
            rw [HN.out, HE.out] at h1
            injection h1 with h1
            injection h1 with h1 _
            subst h1
            rw [HBY.out] at h2
            exact hno k t ws h2))
          have K2 := hid_of (K1.out.trans hk2 (fun _ _ h => h))
          have B2 := hid_of b2
          have c00 : w2.cell? ⟨w.heap.size, 0, none⟩ = some (.int .u8 0) := cell_of b2 0
          have c01 : w2.cell? ⟨w.heap.size, 1, none⟩ = some (.int .i64 0) := cell_of b2 1
          have c02 : w2.cell? ⟨w.heap.size, 2, none⟩ = some (.slice none 0 0) := cell_of b2 2
          have f00 := frozen_at b2 0
          have f01 := frozen_at b2 1
          have f02 := frozen_at b2 2
          clear hno hk2 b2
          go_wp2_with fail
          refine bodyPost_ret (results_row2 rfl _ _ w.heap.size recZ rfl (load_rec (fr := (0, 0)) ?_ rfl)) rfl ?_
          · exact heap_set (heap_set (heap_set (heap_set (heap_set (heap_set B2.out _) _) _) _) _) _
          · refine HF1.out _ (K2.out.trans (S' := fun b => b = w.heap.size) ?_ (fun b hb e => by omega))
            exact (((((Kp.setCell (S := fun b => b = w.heap.size) _ _ _ rfl).trans (Kp.setCell (S := fun b => b = w.heap.size) _ _ _ rfl) (fun _ _ h => h)).trans (Kp.setCell (S := fun b => b = w.heap.size) _ _ _ rfl) (fun _ _ h => h)).trans (Kp.setCell (S := fun b => b = w.heap.size) _ _ _ rfl) (fun _ _ h => h)).trans (Kp.setCell (S := fun b => b = w.heap.size) _ _ _ rfl) (fun _ _ h => h)).trans (Kp.setCell (S := fun b => b = w.heap.size) _ _ _ rfl) (fun _ _ h => h)
        · intro k t ws w2 u hrec ht hu hk2 hw
          have b2 := (hk2.block _ (block_lt B1.out) (fun e => e)).trans B1.out
          have hcut : CutIs bs k t ws (bs.drop (n + 4)) := ⟨by have := HQ.out; omega, bs.take n, by rw [HN.out]; exact HE.out, by rw [HBY.out]; exact hrec⟩
          have hwl : ∀ b, u.ownBlock = some b → w.heap.size < b := fun b e => by
            have h1 := (hw.lt b e).1
            have h2 := K1.out.size
            have := S1.out
            omega
          have hwr : ∀ w', Kp (fun b => b = w.heap.size) w2 w' → WR w.heap.size w' u ws := fun w' k => by
            have h := ownsRow_kp hw k (fun b e (h : b = w.heap.size) => by have := hwl b e; omega)
            exact ⟨h.1, h.2.imp id (fun ⟨g', cap', cur, e1, e2, e3⟩ => ⟨g', cap', cur, e1, by have := S1.out; omega, e3⟩)⟩
          obtain ⟨pu, cu, rfl⟩ := ownsRow_slice hw
          have HF2 := hid_of (fun w' (k' : Kp (fun b => b = w.heap.size) w2 w') => HR2.out k t ws (bs.drop (n + 4)) w' (.slice pu ws.length cu) (.slice (some ⟨g, o2, none⟩) n2 c2) hcut ht hu ((K1.out.trans hk2 (fun _ _ h => h)).trans k' (fun b hb (e : b = w.heap.size) => by omega)) (hwr w' k') ((HR3.out.kept hk2).kp k' (fun (e : g = w.heap.size) => by have := HG.out; omega)))
          have B2 := hid_of b2
          have c00 : w2.cell? ⟨w.heap.size, 0, none⟩ = some (.int .u8 0) := cell_of b2 0
          have c01 : w2.cell? ⟨w.heap.size, 1, none⟩ = some (.int .i64 0) := cell_of b2 1
          have c02 : w2.cell? ⟨w.heap.size, 2, none⟩ = some (.slice none 0 0) := cell_of b2 2
          have f00 := frozen_at b2 0
          have f01 := frozen_at b2 1
          have f02 := frozen_at b2 2
          clear hrec ht hu hk2 hw b2 hcut hwl hwr
          go_wp2_with fail
          refine bodyPost_ret (results_row2 rfl _ _ w.heap.size #[.int .u8 k, .int .i64 t, .slice pu ws.length cu] rfl (load_rec (fr := (0, 0)) ?_ rfl)) rfl ?_
          · exact heap_set (heap_set (heap_set (heap_set (heap_set (heap_set B2.out _) _) _) _) _) _
          · refine HF2.out _ ?_
            exact (((((Kp.setCell (S := fun b => b = w.heap.size) _ _ _ rfl).trans (Kp.setCell (S := fun b => b = w.heap.size) _ _ _ rfl) (fun _ _ h => h)).trans (Kp.setCell (S := fun b => b = w.heap.size) _ _ _ rfl) (fun _ _ h => h)).trans (Kp.setCell (S := fun b => b = w.heap.size) _ _ _ rfl) (fun _ _ h => h)).trans (Kp.setCell (S := fun b => b = w.heap.size) _ _ _ rfl) (fun _ _ h => h)).trans (Kp.setCell (S := fun b => b = w.heap.size) _ _ _ rfl) (fun _ _ h => h)

end

end Go.Proofs.YthbdpfccfcceiaaGreatDoor
