/-
  The law: lists of bytes, of which one byte is another (changed).
  The law's book: a list of lists of bytes that came out is written full and kept: first the inner ones.
  The law's book: a list of lists of bytes that came out is written full and kept.
-/
import Derived.Test.YthbdpfccfcceiaaGreatDoorF3F23F24F34
import Derived.Test.YthbdpfccfcceiaaGreatDoorG14DA4
import Derived.Test.YthbdpfccfcceiaaGreatDoorT2G2Z1
import Derived.Test.YthbdpfccfcceiaaGreatDoorDC1DBB
import Derived.Test.YthbdpfccfcceiaaGreatDoorF17F18
namespace Go.Proofs.YthbdpfccfcceiaaGreatDoor
open Go.RowKit Go.Maps Go.Lib

structure MidC (w : World) (i : Nat) (wr : World) (v : Value) (fs : List (List UInt8)) (lv : List Value) : Prop where
  kp : Kp (fun _ => False) w wr
  fr : FR w.heap.size wr v fs lv
  len : fs.length = i
  small : ∀ f ∈ fs, f.length ≤ 1100000

theorem bytes_take {fs : List (List UInt8)} {i : Nat} {f : List UInt8} (h : fs[i]? = some f) : bytesOf (fs.take (i + 1)) = bytesOf (fs.take i) + f.length := by
  obtain ⟨h1, rfl⟩ := List.getElem?_eq_some_iff.1 h
  rw [List.take_succ_eq_append_getElem h1, bytesOf_append, bytesOf_cons]
  simp [bytesOf]

theorem bytes_take_le (fs : List (List UInt8)) (i : Nat) : bytesOf (fs.take i) ≤ bytesOf fs := by
  have : bytesOf fs = bytesOf (fs.take i) + bytesOf (fs.drop i) := by rw [← bytesOf_append, List.take_append_drop]
  omega

theorem BR.setAt {base : Nat} {w : World} {g cap : Nat} {bs : List UInt8} (h : BR base w (.slice (some ⟨g, 0, none⟩) bs.length cap) bs) (i : Nat) (hi : i < bs.length) (y : UInt8) : BR base (w.setCell ⟨g, i, none⟩ (b8 y)) (.slice (some ⟨g, 0, none⟩) bs.length cap) (bs.set i y) := by
  have := row_set1 h i hi g cap rfl (b8 y)
  unfold BR
  rw [List.length_set, List.map_set]
  exact this

theorem xor_b8 (a b : Int) : ∃ y : UInt8, Value.int .u8 (bits .xor .u8 a b) = b8 y := by
  have h : ∃ n : Int, bits .xor .u8 a b = n % 256 := ⟨_, (by
    show IntKind.u8.wrap _ = _
    simp [IntKind.wrap, IntKind.bits, IntKind.signed]
    rfl)⟩
  obtain ⟨n, hn⟩ := h
  refine ⟨UInt8.ofNat (n % 256).toNat, ?_⟩
  rw [hn]
  unfold b8
  congr 1
  rw [UInt8.toNat_ofNat']
  omega

theorem b8_at {f : List UInt8} {a : Nat} (h : a < f.length) : (f.map b8)[a]? = some (.int .u8 ((f.getD a 0).toNat : Nat)) := by
  rw [List.getElem?_map, List.getElem?_eq_getElem h, List.getD_eq_getElem?_getD, List.getElem?_eq_getElem h]
  rfl

theorem MidC.next {w wr w1 w2 : World} {i : Nat} {v v2 u : Value} {fs : List (List UInt8)} {lv : List Value} {f : List UInt8} (h : MidC w i wr v fs lv) (k1 : Kp (fun _ => False) wr w1) (hu : BR wr.heap.size w1 u f) (hf : f.length ≤ 1100000)
    (hrow : w2.ownsRow w.heap.size 48 1 v2 (fs.length + 1) (lv ++ [u])) (k2 : Kp (fun b => v.ownBlock = some b) w1 w2) : MidC w (i + 1) w2 v2 (fs ++ [f]) (lv ++ [u]) := by
  refine ⟨(h.kp.trans k1 (fun _ _ e => e)).trans k2 (fun b hb e => by have := (h.fr.row.lt b e).1; omega), ?_, by rw [List.length_append, h.len]; rfl, fun g hg => ?_⟩
  · exact FR.snoc (w := wr) (h.fr.kept k1) hu (fun b e => (h.fr.row.lt b e).2) (fun i x hx b e => h.fr.at_lt hx b e) h.kp.size hrow k2
  · rcases List.mem_append.1 hg with h1 | h1
    · exact h.small g h1
    · simp at h1; subst h1; exact hf

section
variable {R : Ending → World → Prop} {w : World}

set_option maxRecDepth 20000 in
set_option maxHeartbeats 4000000 in
theorem changed_any (v : Value) (fs : List (List UInt8)) (hv : FIn w v fs (fun b => b < w.heap.size)) (hne : ∀ f ∈ fs, f ≠ []) (hs : bytesOf fs ≤ 3000000) (h0 : 0 < w.heap.size) (x : Int) (hx : -9223372036854775808 ≤ x ∧ x ≤ 9223372036854775807)
    (hR : ∀ w' v' fs', FIn w' v' fs' (fun b => b < w'.heap.size) → Kp (fun _ => False) w w' → R (.returned v') w') :
    Calls Tryz.prog 117 #[v, .int .i64 x] w R := by
  have HV := hid_of hv
  have HR := hid_of hR
  have HNE := hid_of hne
  have HS := hid_of hs
  have HX := hid_of hx
  have HW0 := hid_of h0
  obtain ⟨a0, cap0, rfl, hn0, _⟩ := hv
  have HN0 := hid_of hn0
  have hn0' : (fs.length : Int) ≤ 1100000 := by omega
  have HC : Hid (∀ wr, Kp (fun _ => False) w wr → ∀ (i : Nat) f, fs[i]? = some f → ∃ (ga oa : Nat) (b : Option Addr) (c g : Nat), a0 = some ⟨ga, oa, none⟩ ∧ wr.cell? ⟨ga, oa + i, none⟩ = some (.slice b f.length c) ∧ RdN wr (.slice b f.length c) f g ∧ f.length ≤ 1100000) := fun wr k i f hf => by
    obtain ⟨a1, c1, e1, _, h1⟩ := HV.out.kp k (fun _ _ e => e)
    injection e1 with e1 _ _
    obtain ⟨ga, oa, e2, _, _, h1⟩ := h1 (fun e => by rw [e] at hf; simp at hf)
    obtain ⟨b, n, c, g, h2, h3, _, h4⟩ := h1 i f hf
    obtain ⟨q, k3, e3, _⟩ := id h3
    injection e3 with _ e3 _
    subst e3
    exact ⟨ga, oa, b, c, g, e1.trans e2, h2, h3, h4⟩
  clear hR hne hs hx h0 hn0
  go_enter Tryz.func117, Tryz.ntmps117
  go_wp2_with fail
  go_loop [5, 6] (fun v5 v6 => ∃ i : Nat, i ≤ fs.length ∧ v5 = .int .i64 (bytesOf (fs.take i) : Nat) ∧ v6 = .int .i64 i) (fun _ v6 => fs.length - (intOf v6).toNat)
  case atStart => exact ⟨0, Nat.zero_le _, by simp [bytesOf], rfl⟩
  case round =>
    obtain ⟨i, hi, rfl, rfl⟩ := hrel
    by_cases hlt : i < fs.length
    · have hlt' : (i : Int) < fs.length := by omega
      obtain ⟨f, hfi⟩ : ∃ f, fs[i]? = some f := ⟨fs[i], List.getElem?_eq_getElem hlt⟩
      have HB := hid_of (bytes_take hfi)
      have hb1 := bytes_take_le fs i
      have hb2 : (bytesOf (fs.take i) : Int) ≤ 3000000 := by have := HS.out; omega
      obtain ⟨ga, oa, b, c, g, rfl, hc, _, hfl⟩ := HC.out w (Kp.refl _ _) i f hfi
      have hfl' : (f.length : Int) ≤ 1100000 := by omega
      clear hfi hb1
      go_wp2_with fail
      refine ⟨⟨i + 1, by omega, ?_, by go_num⟩, by simp [intOf]; omega⟩
      rw [HB.out]
      go_num
    · obtain rfl : i = fs.length := by omega
      rw [List.take_length]
      have hge : ¬ (fs.length : Int) < fs.length := by omega
      by_cases hz : bytesOf fs = 0
      · have hz' : (bytesOf fs : Int) = 0 := by omega
        go_wp2_with fail
        exact HR.out _ _ _ HV.out (Kp.refl _ _)
      · have hz' : ¬ (bytesOf fs : Int) = 0 := by omega
        have hz2 : ((bytesOf fs : Int) == 0) = false := by simpa using hz
        have HZ := hid_of hz
        have HDIV : Hid (-9223372036854775808 ≤ wrap64 (x.tdiv 255) ∧ wrap64 (x.tdiv 255) ≤ 9223372036854775807) := by
          show _ ∧ _
          unfold wrap64
          omega
        have HPL : Hid (pickN (wrap64 (x.tdiv 255)) (bytesOf fs) < bytesOf fs) := pickN_lt _ _ (by omega)
        have hNB : (bytesOf fs : Int) ≤ 3000000 := by have := HS.out; omega
        generalize bytesOf fs = N at hz hz' hz2 HZ HPL hNB HS ⊢
        go_wp2_with (first
          | (go_at_call 60; refine pick_any (wrap64 (x.tdiv 255)) N _ HDIV.out (by have := HZ.out; omega) (by have := HS.out; omega) ?_)
          | fail)
        generalize pickN (wrap64 (x.tdiv 255)) N = A0 at HPL ⊢
        have HA0 : Hid (A0 < 3000000) := by have h1 := HPL.out; have h2 := HS.out; show _ < _; omega
        go_loopw [7, 8, 9, 10] (fun v7 v8 v9 _ wz => ∃ (i : Nat) (A : Int) (fs' : List (List UInt8)) (lv : List Value), i ≤ fs.length ∧ v7 = .int .i64 A ∧ v9 = .int .i64 i ∧ A < 3000000 ∧ -1100000 * (i : Int) ≤ A ∧ MidC w i wz v8 fs' lv) (fun _ _ v9 _ _ => fs.length - (intOf v9).toNat)
        case atStart => exact ⟨0, (A0 : Int), [], [], Nat.zero_le _, rfl, rfl, by have := HA0.out; omega, by omega, Kp.refl _ _, FR.nil _ _, rfl, fun f hf => (by cases hf)⟩
        case round =>
          obtain ⟨i, A, fs', lv, hi, rfl, rfl, hA1, hA2, hM⟩ := hrel
          have HM := hid_of hM
          have HNF : Hid (fs'.length = i) := hM.len
          obtain ⟨a8, c8, e8, _⟩ := row_len hM.fr.row
          subst e8
          by_cases hlt : i < fs.length
          · have hlt' : (i : Int) < fs.length := by omega
            obtain ⟨f, hfi⟩ : ∃ f, fs[i]? = some f := ⟨fs[i], List.getElem?_eq_getElem hlt⟩
            have HFN : Hid (f ≠ []) := HNE.out f (List.mem_of_getElem? hfi)
            obtain ⟨ga, oa, b, c, g, rfl, hc, hrd, hfl⟩ := HC.out wr hM.kp i f hfi
            have HRD := hid_of (rdn_cells hrd)
            have HFL := hid_of hfl
            have hfl' : (f.length : Int) ≤ 1100000 := by omega
            have HLT := hid_of hlt
            have hA3 : -1300000000000 ≤ A := by omega
            have HA2 := hid_of hA2
            clear hM hfi hrd hfl hlt hi hA2
            by_cases hA0 : 0 ≤ A
            · by_cases hAf : A < f.length
              · obtain ⟨a, rfl⟩ : ∃ a : Nat, A = a := ⟨A.toNat, by omega⟩
                have HAF : Hid (a < f.length) := by show _ < _; omega
                have dA0 : decide ((0 : Int) ≤ (a : Int)) = true := by simp
                have dAf : decide ((a : Int) < f.length) = true := by simpa using HAF.out
                go_wp2_with (first
                  | (at_builtin; refine wpB_append _ rfl _ _ rfl wr.heap.size (.slice none 0 0) [] rfl (World.ownsRow_nil _ _ _ _) _ f rfl HRD.out HFN.out (by have := HFL.out; simp; omega) (Nat.le_refl _) ?_; intro v1 w1 hb1 hk1 hl1; rw [List.nil_append] at hb1; have HB1 := hid_of hb1; have HK1 : Hid (Kp (fun _ => False) wr w1) := hk1.mono (fun _ _ e => by cases e); obtain ⟨g1, cap1, rfl⟩ := hb1.form HFN.out; have q1 : w1.cell? ⟨g1, a, none⟩ = some (.int .u8 ((f.getD a 0).toNat : Nat)) := ownsRow_cell hb1 a _ (b8_at HAF.out); have q1f : w1.frozen? ⟨g1, a, none⟩ = false := (by obtain ⟨cur, hcur⟩ := hb1.block (b := g1) rfl; exact frozen_of hcur a); clear hb1 hk1 hl1)
                  | fail)
                go_region_with (first
                  | (go_at_call 60; refine pick_any x 255 _ HX.out (by omega) (by omega) ?_)
                  | fail)
                all_goals
                  obtain ⟨y, hy⟩ := xor_b8 ((f[a]?.getD 0).toNat : Nat) (IntKind.u8.wrap (IntKind.i64.wrap (1 + (pickN x 255 : Nat))))
                  rw [hy]
                  have HB2 := hid_of ((HB1.out.setAt a HAF.out y).kept (Kp.drew (fun _ => False) _))
                  have HK2 : Hid (Kp (fun _ => False) wr (w1.setCell ⟨g1, a, none⟩ (b8 y)).drew) := (HK1.out.trans (Kp.setCell (S := fun b => b = g1) w1 ⟨g1, a, none⟩ (b8 y) rfl) (fun b hb e => by have := (HB1.out.lt g1 rfl).1; omega)).trans (Kp.drew (fun _ => False) _) (fun _ _ e => e)
                  generalize (w1.setCell ⟨g1, a, none⟩ (b8 y)).drew = wq at HB2 HK2 ⊢
                  clear hy q1 q1f
                  go_wp2_with (first
                    | (at_builtin; refine wpF_append _ rfl _ _ rfl w.heap.size (.slice a8 fs'.length c8) fs'.length lv rfl (HM.out.fr.kept (HK2.out.trans (Kp.alloc _ _ _) (fun _ _ h => h))).row wq.heap.size (.slice (some ⟨g1, 0, none⟩) f.length cap1) rfl (cell_of (heap_alloc_new wq _) 0) rfl (by have := HNF.out; have := HLT.out; have := HN0.out; omega) (by have := HM.out.kp.size; have := HK2.out.size; simp; omega) ?_; intro v2 w2 hr2 hk2 hl2; obtain ⟨a2, c2, rfl, _⟩ := row_len hr2; have HNX := hid_of (HM.out.next (HK2.out.trans (Kp.alloc _ _ _) (fun _ _ h => h)) (HB2.out.kept (Kp.alloc _ _ _)) (by rw [List.length_set]; exact HFL.out) hr2 hk2); clear hr2 hk2 hl2)
                    | fail)
                  go_roundw
                  case rel => exact ⟨i + 1, (a : Int) - f.length, _, _, by have := HLT.out; omega, rfl, by go_num, by omega, by have := HA2.out; omega, HNX.out⟩
                  case measure => have := HLT.out; simp [intOf]; omega
              · have dA0 : decide (0 ≤ A) = true := by simpa using hA0
                have dAf : decide (A < f.length) = false := by simpa using hAf
                go_wp2_with (first
                  | (at_builtin; refine wpB_append _ rfl _ _ rfl wr.heap.size (.slice none 0 0) [] rfl (World.ownsRow_nil _ _ _ _) _ f rfl HRD.out HFN.out (by have := HFL.out; simp; omega) (Nat.le_refl _) ?_; intro v1 w1 hb1 hk1 hl1; rw [List.nil_append] at hb1; have HB1 := hid_of hb1; have HK1 : Hid (Kp (fun _ => False) wr w1) := hk1.mono (fun _ _ e => by cases e); obtain ⟨g1, cap1, rfl⟩ := hb1.form HFN.out; clear hb1 hk1 hl1)
                  | (at_builtin; refine wpF_append _ rfl _ _ rfl w.heap.size (.slice a8 fs'.length c8) fs'.length lv rfl (HM.out.fr.kept (HK1.out.trans (Kp.alloc _ _ _) (fun _ _ h => h))).row w1.heap.size (.slice (some ⟨g1, 0, none⟩) f.length cap1) rfl (cell_of (heap_alloc_new w1 _) 0) rfl (by have := HNF.out; have := HLT.out; have := HN0.out; omega) (by have := HM.out.kp.size; have := HK1.out.size; simp; omega) ?_; intro v2 w2 hr2 hk2 hl2; obtain ⟨a2, c2, rfl, _⟩ := row_len hr2; have HNX := hid_of (HM.out.next (HK1.out.trans (Kp.alloc _ _ _) (fun _ _ h => h)) (HB1.out.kept (Kp.alloc _ _ _)) HFL.out hr2 hk2); clear hr2 hk2 hl2)
                  | fail)
                go_roundw
                case rel => exact ⟨i + 1, A - f.length, _, _, by have := HLT.out; omega, rfl, by go_num, by omega, by have := HA2.out; omega, HNX.out⟩
                case measure => have := HLT.out; simp [intOf]; omega
            · have dA0 : decide (0 ≤ A) = false := by simpa using hA0
              go_wp2_with (first
                | (at_builtin; refine wpB_append _ rfl _ _ rfl wr.heap.size (.slice none 0 0) [] rfl (World.ownsRow_nil _ _ _ _) _ f rfl HRD.out HFN.out (by have := HFL.out; simp; omega) (Nat.le_refl _) ?_; intro v1 w1 hb1 hk1 hl1; rw [List.nil_append] at hb1; have HB1 := hid_of hb1; have HK1 : Hid (Kp (fun _ => False) wr w1) := hk1.mono (fun _ _ e => by cases e); obtain ⟨g1, cap1, rfl⟩ := hb1.form HFN.out; clear hb1 hk1 hl1)
                | (at_builtin; refine wpF_append _ rfl _ _ rfl w.heap.size (.slice a8 fs'.length c8) fs'.length lv rfl (HM.out.fr.kept (HK1.out.trans (Kp.alloc _ _ _) (fun _ _ h => h))).row w1.heap.size (.slice (some ⟨g1, 0, none⟩) f.length cap1) rfl (cell_of (heap_alloc_new w1 _) 0) rfl (by have := HNF.out; have := HLT.out; have := HN0.out; omega) (by have := HM.out.kp.size; have := HK1.out.size; simp; omega) ?_; intro v2 w2 hr2 hk2 hl2; obtain ⟨a2, c2, rfl, _⟩ := row_len hr2; have HNX := hid_of (HM.out.next (HK1.out.trans (Kp.alloc _ _ _) (fun _ _ h => h)) (HB1.out.kept (Kp.alloc _ _ _)) HFL.out hr2 hk2); clear hr2 hk2 hl2)
                | fail)
              go_roundw
              case rel => exact ⟨i + 1, A - f.length, _, _, by have := HLT.out; omega, rfl, by go_num, by omega, by have := HA2.out; omega, HNX.out⟩
              case measure => have := HLT.out; simp [intOf]; omega
          · obtain rfl : i = fs.length := by omega
            have hge : ¬ (fs.length : Int) < fs.length := by omega
            have HF := hid_of (HR.out wr _ fs' ((hM.fr.fin (by rw [HNF.out]; exact HN0.out) hM.small (Nat.lt_of_lt_of_le HW0.out hM.kp.size))) hM.kp)
            clear hM hlt
            go_wp2_with fail
            exact HF.out

end

end Go.Proofs.YthbdpfccfcceiaaGreatDoor

namespace Go.Proofs.YthbdpfccfcceiaaGreatDoor
open Go.RowKit

/-- A list of bytes in the book: where it lies, its length, its mark. -/
def Signed (w : World) (e : Value × Nat × Int) : Prop := w.ownsRow 0 5 1 e.1 e.2.1 (signs e.2.2 e.2.1) ∧ 1 ≤ e.2.2 ∧ e.2.2 < 100000000000 ∧ e.2.1 < 10000000

/-- How memory lies while inner lists are booked. -/
structure MidB (w : World) (p : Nat) (cs : Array Value) (vB vI v : Value) (qb : Nat) (bs ks : List Value) (lv : List Value) (i : Nat) (wr : World) (vB' vI' : Value) (b' : List (Value × Nat × Int)) : Prop where
  hp : ∃ cs', wr.heap[p]? = some (.cells cs' 68 (0, 0)) ∧ cs'[3]? = some vB' ∧ cs'[4]? = some vI' ∧ cs'.size = cs.size ∧ ∀ k, k ≠ 3 → k ≠ 4 → cs'[k]? = cs[k]?
  rowB : wr.ownsRow 0 48 1 vB' (4 * (qb + i)) (bs ++ b'.map (·.1))
  rowI : wr.ownsRow 0 3 1 vI' (4 * (qb + i)) (ks ++ b'.map fun e => .int .i64 e.2.2)
  len : b'.length = 4 * i
  lists : ∀ e ∈ b', Signed wr e
  loc : ∀ e ∈ b', ∀ b, e.1.ownBlock = some b → (∃ (j : Nat) (u : Value), j < i ∧ lv[j]? = some u ∧ u.ownBlock = some b) ∨ w.heap.size ≤ b
  locB : ∀ b, vB'.ownBlock = some b → vB.ownBlock = some b ∨ w.heap.size ≤ b
  locI : ∀ b, vI'.ownBlock = some b → vI.ownBlock = some b ∨ w.heap.size ≤ b
  kp : Kp (fun b => b = p ∨ vB.ownBlock = some b ∨ vI.ownBlock = some b ∨ ∃ (j : Nat) (u : Value), j < i ∧ lv[j]? = some u ∧ u.ownBlock = some b) w wr

theorem world_type {w : World} {p : Nat} {cs : Array Value} {base e size n : Nat} {v : Value} {xs : List Value} (hp : w.heap[p]? = some (.cells cs 68 (0, 0))) (h : w.ownsRow base e size v n xs) (he : e ≠ 68) : v.ownBlock ≠ some p := fun eb => by
  rcases h.2 with ⟨rfl, rfl⟩ | ⟨g, cap, cur, rfl, _, hg, _⟩
  · cases eb
  · injection eb with eb
    have eb : g = p := eb
    rw [eb, hp] at hg
    injection hg with hg
    injection hg with _ hg
    exact he hg.symm

section
variable {w : World} {p : Nat} {cs : Array Value} {vB vI v : Value} {qb : Nat} {bs ks lv : List Value} {fl : List (List UInt8)} {base : Nat}

theorem MidB.start (hp : w.heap[p]? = some (.cells cs 68 (0, 0))) (c3 : cs[3]? = some vB) (c4 : cs[4]? = some vI) (hB : w.ownsRow 0 48 1 vB (4 * qb) bs) (hI : w.ownsRow 0 3 1 vI (4 * qb) ks) : MidB w p cs vB vI v qb bs ks lv 0 w vB vI [] := by
  exact ⟨⟨cs, hp, c3, c4, rfl, fun _ _ _ => rfl⟩, by simpa using hB, by simpa using hI, rfl, fun e he => (by cases he), fun e he => (by cases he), fun b e => Or.inl e, fun b e => Or.inl e, Kp.refl _ _⟩

theorem MidB.inner {i : Nat} {wr : World} {vB' vI' : Value} {b' : List (Value × Nat × Int)} (h : MidB w p cs vB vI v qb bs ks lv i wr vB' vI' b') (hp : w.heap[p]? = some (.cells cs 68 (0, 0))) (hB : w.ownsRow 0 48 1 vB (4 * qb) bs) (hI : w.ownsRow 0 3 1 vI (4 * qb) ks) (hv : FR base w v fl lv) {j : Nat} (hj : i ≤ j) {u : Value} {f : List UInt8} (hu : lv[j]? = some u) (hf : fl[j]? = some f) : BR base wr u f := by
  have hb := hv.at_ j u f hu hf
  refine hb.kp h.kp (fun b e hs => ?_)
  rcases hs with rfl | hs | hs | ⟨k, u2, hk, hu2, e2⟩
  · exact world_type hp hb (by decide) e
  · exact row_type hb hB (by decide) b e hs
  · exact row_type hb hI (by decide) b e hs
  · have := hv.apart j k u u2 b hu hu2 e e2
    omega

theorem MidB.outer {i : Nat} {wr : World} {vB' vI' : Value} {b' : List (Value × Nat × Int)} (h : MidB w p cs vB vI v qb bs ks lv i wr vB' vI' b') (hp : w.heap[p]? = some (.cells cs 68 (0, 0))) (hI : w.ownsRow 0 3 1 vI (4 * qb) ks) (hv : FR base w v fl lv) (hne : ∀ b, v.ownBlock = some b → vB.ownBlock ≠ some b) : wr.ownsRow base 48 1 v fl.length lv := by
  refine ownsRow_kp hv.row h.kp (fun b e hs => ?_)
  rcases hs with rfl | hs | hs | ⟨k, u2, hk, hu2, e2⟩
  · exact world_type hp hv.row (by decide) e
  · exact hne b e hs
  · exact row_type hv.row hI (by decide) b e hs
  · have hkl : k < fl.length := by rw [← hv.len]; exact (List.getElem?_eq_some_iff.1 hu2).1
    exact row_type hv.row (hv.at_ k u2 _ hu2 (List.getElem?_eq_getElem hkl)) (by decide) b e e2

/-- One inner list more. -/
theorem MidB.more {i : Nat} {wr w3 : World} {vB' vI' vB3 vI3 u v1 v2 v3 : Value} {b' : List (Value × Nat × Int)} {n s5 s6 : Nat} (h : MidB w p cs vB vI v qb bs ks lv i wr vB' vI' b') (_hB : w.ownsRow 0 48 1 vB (4 * qb) bs) (_hI : w.ownsRow 0 3 1 vI (4 * qb) ks) (hv : FR base w v fl lv) (hu : lv[i]? = some u) (hub : u.ownBlock = none ∨ ∃ b, u.ownBlock = some b ∧ b < w.heap.size) (hq : qb + i < 10000000000) (hn : n < 5000000)
    (k3 : Kp (fun b => b = p ∨ vB'.ownBlock = some b ∨ vI'.ownBlock = some b ∨ u.ownBlock = some b) wr w3)
    {cs' : Array Value} (hcs : wr.heap[p]? = some (.cells cs' 68 (0, 0)) ∧ cs'[3]? = some vB' ∧ cs'[4]? = some vI' ∧ cs'.size = cs.size ∧ ∀ k, k ≠ 3 → k ≠ 4 → cs'[k]? = cs[k]?) (hp3 : w3.heap[p]? = some (.cells ((cs'.setIfInBounds 3 vB3).setIfInBounds 4 vI3) 68 (0, 0)))
    (rB3 : w3.ownsRow 0 48 1 vB3 (4 * (qb + i) + 4) (bs ++ b'.map (·.1) ++ [u, v1, v2, v3]))
    (rI3 : w3.ownsRow 0 3 1 vI3 (4 * (qb + i) + 4) ((ks ++ b'.map fun e => .int .i64 e.2.2) ++ [.int .i64 ((qb + i : Nat) + 1), .int .i64 ((qb + i : Nat) + 1), .int .i64 ((qb + i : Nat) + 1), .int .i64 ((qb + i : Nat) + 1)]))
    (f0 : w3.ownsRow 0 5 1 u n (signs ((qb + i : Nat) + 1) n)) (f1 : w3.ownsRow 0 5 1 v1 (n + 1) (signs ((qb + i : Nat) + 1) (n + 1))) (f2 : w3.ownsRow 0 5 1 v2 (n + 2) (signs ((qb + i : Nat) + 1) (n + 2))) (f3 : w3.ownsRow 0 5 1 v3 (n + 3) (signs ((qb + i : Nat) + 1) (n + 3)))
    (hs5 : wr.heap.size ≤ s5) (hs6 : s5 ≤ s6) (L1 : Lies wr u v1 s5) (L2 : Lies wr u v2 s5) (L3 : Lies wr u v3 s5) (lB : ∀ b, vB3.ownBlock = some b → vB'.ownBlock = some b ∨ (s5 ≤ b ∧ b < s6)) (lI : ∀ b, vI3.ownBlock = some b → vI'.ownBlock = some b ∨ s6 ≤ b) :
    MidB w p cs vB vI v qb bs ks lv (i + 1) w3 vB3 vI3 (b' ++ [(u, n, ((qb + i : Nat) : Int) + 1), (v1, n + 1, ((qb + i : Nat) : Int) + 1), (v2, n + 2, ((qb + i : Nat) : Int) + 1), (v3, n + 3, ((qb + i : Nat) : Int) + 1)]) := by
  have hsz := h.kp.size
  have ulow : ∀ b, u.ownBlock = some b → b < w.heap.size := fun b e => by
    rcases hub with h0 | ⟨b2, h1, h2⟩
    · rw [h0] at e; cases e
    · rw [h1] at e; injection e with e; omega
  refine ⟨?_, ?_, ?_, by rw [List.length_append, h.len]; simp; omega, fun e he => ?_, fun e he b hb => ?_, fun b e => ?_, fun b e => ?_, ?_⟩
  · obtain ⟨_, a3, a4, a5, a6⟩ := hcs
    have l3 := (Array.getElem?_eq_some_iff.1 a3).1
    have l4 := (Array.getElem?_eq_some_iff.1 a4).1
    refine ⟨_, hp3, ?_, ?_, by simp [a5], fun k k3 k4 => ?_⟩
    · rw [Array.getElem?_setIfInBounds_ne (by omega), Array.getElem?_setIfInBounds_self_of_lt l3]
    · rw [Array.getElem?_setIfInBounds_self_of_lt (by simpa using l4)]
    · rw [Array.getElem?_setIfInBounds_ne (by omega), Array.getElem?_setIfInBounds_ne (by omega)]
      exact a6 k k3 k4
  · rw [show 4 * (qb + (i + 1)) = 4 * (qb + i) + 4 by omega, List.map_append, ← List.append_assoc]
    exact rB3
  · rw [show 4 * (qb + (i + 1)) = 4 * (qb + i) + 4 by omega, List.map_append, ← List.append_assoc]
    exact rI3
  · rcases List.mem_append.1 he with h1 | h1
    · obtain ⟨a1, a2⟩ := h.lists e h1
      refine ⟨ownsRow_kp a1 k3 (fun b hb hs => ?_), a2⟩
      rcases hs with rfl | hs | hs | hs
      · exact world_type hcs.1 a1 (by decide) hb
      · exact row_type a1 h.rowB (by decide) b hb hs
      · exact row_type a1 h.rowI (by decide) b hb hs
      · rcases h.loc e h1 b hb with ⟨j, u2, hj, hu2, e2⟩ | hge
        · have := hv.apart i j u u2 b hu hu2 hs e2
          omega
        · have := ulow b hs; omega
    · simp only [List.mem_cons, List.not_mem_nil, or_false] at h1
      rcases h1 with rfl | rfl | rfl | rfl
      · exact ⟨f0, by dsimp only; omega, by dsimp only; omega, by dsimp only; omega⟩
      · exact ⟨f1, by dsimp only; omega, by dsimp only; omega, by dsimp only; omega⟩
      · exact ⟨f2, by dsimp only; omega, by dsimp only; omega, by dsimp only; omega⟩
      · exact ⟨f3, by dsimp only; omega, by dsimp only; omega, by dsimp only; omega⟩
  · rcases List.mem_append.1 he with h1 | h1
    · rcases h.loc e h1 b hb with ⟨j, u2, hj, hu2, e2⟩ | hge
      · exact Or.inl ⟨j, u2, by omega, hu2, e2⟩
      · exact Or.inr hge
    · have lie : ∀ x, Lies wr u x s5 → x.ownBlock = some b → (∃ (j : Nat) (u : Value), j < i + 1 ∧ lv[j]? = some u ∧ u.ownBlock = some b) ∨ w.heap.size ≤ b := fun x hx hxb => by
        rcases hx b hxb with h2 | h2
        · exact Or.inl ⟨i, u, by omega, hu, h2⟩
        · exact Or.inr (by omega)
      simp only [List.mem_cons, List.not_mem_nil, or_false] at h1
      rcases h1 with rfl | rfl | rfl | rfl
      · exact Or.inl ⟨i, u, by omega, hu, hb⟩
      · exact lie v1 L1 hb
      · exact lie v2 L2 hb
      · exact lie v3 L3 hb
  · rcases lB b e with h1 | h1
    · exact h.locB b h1
    · exact Or.inr (by omega)
  · rcases lI b e with h1 | h1
    · exact h.locI b h1
    · exact Or.inr (by omega)
  · refine (h.kp.mono (fun b _ hs => ?_)).trans k3 (fun b hb hs => ?_)
    · exact hs.imp id (Or.imp id (Or.imp id (fun ⟨j, u2, hj, r⟩ => ⟨j, u2, by omega, r⟩)))
    · rcases hs with hs | hs | hs | hs
      · exact Or.inl hs
      · rcases h.locB b hs with h1 | h1
        · exact Or.inr (Or.inl h1)
        · omega
      · rcases h.locI b hs with h1 | h1
        · exact Or.inr (Or.inr (Or.inl h1))
        · omega
      · exact Or.inr (Or.inr (Or.inr ⟨i, u, by omega, hu, hs⟩))

end

end Go.Proofs.YthbdpfccfcceiaaGreatDoor

namespace Go.Proofs.YthbdpfccfcceiaaGreatDoor
open Go.RowKit

theorem infoLists : (Tryz.prog.info? 37).map (fun i => (i.zero, i.size, i.bytes)) = some (some (.slice none 0 0), 1, 24) := by kernel_rfl

theorem rep_succ (n : Nat) (m : Value) : List.replicate (n + 1) m = List.replicate n m ++ [m] := List.replicate_succ'

theorem rowZ {w : World} {base e size n : Nat} {v : Value} {xs : List Value} (h : w.ownsRow base e size v n xs) : w.ownsRow 0 e size v n xs :=
  ⟨h.1, h.2.imp id (fun ⟨g, cap, cur, e1, _, e3⟩ => ⟨g, cap, cur, e1, Nat.zero_le _, e3⟩)⟩

section
variable {R : Ending → World → Prop} {w : World}

set_option maxRecDepth 20000 in
set_option maxHeartbeats 4000000 in
theorem book_files (p : Nat) (cs : Array Value) (vB vI vF vJ v : Value) (qb q : Nat) (bs ks ps js : List Value) (fl : List (List UInt8)) (lv : List Value) (base : Nat) (hqb : qb < 9000000000) (hq : q < 1000000) (hfl : fl.length ≤ 2000) (hfs : ∀ f ∈ fl, f.length < 5000000)
    (hp : w.heap[p]? = some (.cells cs 68 (0, 0))) (c3 : cs[3]? = some vB) (c4 : cs[4]? = some vI) (c7 : cs[7]? = some vF) (c8 : cs[8]? = some vJ)
    (hB : w.ownsRow 0 48 1 vB (4 * qb) bs) (hI : w.ownsRow 0 3 1 vI (4 * qb) ks) (hF : w.ownsRow 0 37 1 vF (4 * q) ps) (hJ : w.ownsRow 0 3 1 vJ (4 * q) js) (hv : FR base w v fl lv)
    (nB : ∀ b, v.ownBlock = some b → vB.ownBlock ≠ some b) (nIJ : ∀ b, vI.ownBlock = some b → vJ.ownBlock ≠ some b)
    (hR : ∀ w' vB' vI' vF' vJ' (b' : List (Value × Nat × Int)) v1 v2 v3 (gm : Nat) (cs' : Array Value), Kp (fun b => b = p ∨ vB.ownBlock = some b ∨ vI.ownBlock = some b ∨ vF.ownBlock = some b ∨ vJ.ownBlock = some b ∨ v.ownBlock = some b ∨ ∃ (j : Nat) (u : Value), lv[j]? = some u ∧ u.ownBlock = some b) w w' →
      (w'.heap[p]? = some (.cells cs' 68 (0, 0)) ∧ cs'[3]? = some vB' ∧ cs'[4]? = some vI' ∧ cs'[7]? = some vF' ∧ cs'[8]? = some vJ' ∧ cs'.size = cs.size ∧ ∀ k, k ≠ 3 → k ≠ 4 → k ≠ 7 → k ≠ 8 → cs'[k]? = cs[k]?) →
      w'.ownsRow 0 48 1 vB' (4 * (qb + fl.length)) (bs ++ b'.map (·.1)) → w'.ownsRow 0 3 1 vI' (4 * (qb + fl.length)) (ks ++ b'.map fun e => .int .i64 e.2.2) → b'.length = 4 * fl.length → (∀ e ∈ b', Signed w' e) → (∀ e ∈ b', ∀ b, e.1.ownBlock = some b → (∃ (j : Nat) (u : Value), lv[j]? = some u ∧ u.ownBlock = some b) ∨ w.heap.size ≤ b) →
      w'.ownsRow 0 37 1 vF' (4 * q + 4) (ps ++ [v, v1, v2, v3]) → w'.ownsRow 0 3 1 vJ' (4 * q + 4) (js ++ [.int .i64 (q + 1), .int .i64 (q + 1), .int .i64 (q + 1), .int .i64 (q + 1)]) →
      w'.ownsRow 0 48 1 v fl.length (List.replicate fl.length (markV gm)) → w'.ownsRow 0 48 1 v1 (fl.length + 1) (List.replicate (fl.length + 1) (markV gm)) → w'.ownsRow 0 48 1 v2 (fl.length + 2) (List.replicate (fl.length + 2) (markV gm)) → w'.ownsRow 0 48 1 v3 (fl.length + 3) (List.replicate (fl.length + 3) (markV gm)) →
      w'.heap[gm]? = some (.cells (markC (q + 1)) 5 (0, 0)) → w.heap.size ≤ gm →
      (∀ x, x = v1 ∨ x = v2 ∨ x = v3 → ∀ b, x.ownBlock = some b → (v.ownBlock = some b ∨ w.heap.size ≤ b) ∧ vB'.ownBlock ≠ some b) →
      (∀ b, vB'.ownBlock = some b → vB.ownBlock = some b ∨ w.heap.size ≤ b) → (∀ b, vI'.ownBlock = some b → vI.ownBlock = some b ∨ w.heap.size ≤ b) → (∀ b, vF'.ownBlock = some b → vF.ownBlock = some b ∨ w.heap.size ≤ b) → (∀ b, vJ'.ownBlock = some b → vJ.ownBlock = some b ∨ w.heap.size ≤ b) → (∀ b, vI'.ownBlock = some b → vJ'.ownBlock ≠ some b) → R (.returned (.tuple #[])) w') :
    Calls Tryz.prog 164 #[.pointer (some ⟨p, 3, none⟩), v] w R := by
  obtain ⟨av, capv, rfl, hcv⟩ := row_len hv.row
  have HP0 := hid_of hp
  have HB := hid_of hB
  have HI0 := hid_of hI
  have HF := hid_of hF
  have HJ := hid_of hJ
  have HV := hid_of hv
  have NB := hid_of nB
  have NIJ := hid_of nIJ
  have HR := hid_of hR
  have HFS := hid_of hfs
  have HQB := hid_of hqb
  have C7 := hid_of c7
  have C8 := hid_of c8
  have HM0 : Hid (MidB w p cs vB vI (.slice av fl.length capv) qb bs ks lv 0 w vB vI []) := MidB.start hp c3 c4 hB hI
  have hfl' : (fl.length : Int) ≤ 2000 := by omega
  clear hp c3 c4 c7 c8 hB hI hF hJ hv nB nIJ hR hfs hqb hcv
  go_enter Tryz.func164, Tryz.ntmps164
  go_wp2_with fail
  go_loopw [4] (fun v4 wr => ∃ (i : Nat) (vB' vI' : Value) (b' : List (Value × Nat × Int)), i ≤ fl.length ∧ v4 = .int .i64 i ∧ MidB w p cs vB vI (.slice av fl.length capv) qb bs ks lv i wr vB' vI' b') (fun v4 _ => fl.length - (intOf v4).toNat)
  case atStart => exact ⟨0, vB, vI, [], Nat.zero_le _, rfl, HM0.out⟩
  case round =>
    clear HM0
    obtain ⟨i, vB', vI', b', hile, rfl, hm⟩ := hrel
    have HM := hid_of hm
    by_cases hin : i < fl.length
    · have hin' : (i : Int) < fl.length := by omega
      obtain ⟨f, hf⟩ : ∃ f, fl[i]? = some f := ⟨fl[i], List.getElem?_eq_getElem hin⟩
      have hul : i < lv.length := by rw [HV.out.len]; exact hin
      obtain ⟨u, hu⟩ : ∃ u, lv[i]? = some u := ⟨lv[i], List.getElem?_eq_getElem hul⟩
      have hbr := hm.inner HP0.out HB.out HI0.out HV.out (Nat.le_refl i) hu hf
      have hout := hm.outer HP0.out HI0.out HV.out NB.out
      obtain ⟨gv, capv', curv, ev, _⟩ := ownsRow_some hout (by omega)
      injection ev with ev _ ecv
      subst ev
      subst ecv
      have hcell := World.ownsRow.cells hout (g := gv) rfl i u hu
      rw [addr_add, Nat.zero_add] at hcell
      obtain ⟨pu, cu, rfl⟩ := ownsRow_slice hbr
      obtain ⟨cs', hcs⟩ := hm.hp
      have HCS := hid_of hcs
      have HU := hid_of hu
      have HBR : Hid (wr.ownsRow 0 5 1 (.slice pu f.length cu) f.length (f.map b8)) := hbr.mono (Nat.zero_le _)
      have HFL : Hid (f.length < 5000000) := HFS.out f (List.mem_of_getElem? hf)
      have HUB : Hid ((Value.slice pu f.length cu).ownBlock = none ∨ ∃ b, (Value.slice pu f.length cu).ownBlock = some b ∧ b < w.heap.size) := by
        show _ ∨ _
        cases hb : (Value.slice pu f.length cu).ownBlock with
        | none => exact Or.inl rfl
        | some b => exact Or.inr ⟨b, rfl, ((HV.out.at_ i _ f hu hf).lt b hb).2⟩
      have HIN := hid_of hin
      clear hm hbr hout hcs hu hf hul hile hin
      go_wp2_with (first
        | (go_at_call 120; refine book_bytes p cs' vB' vI' _ (qb + i) f.length _ _ _ (by have := HQB.out; have := HIN.out; omega) HFL.out HCS.out.1 HCS.out.2.1 HCS.out.2.2.1 HM.out.rowB HM.out.rowI HBR.out (world_type HCS.out.1 HBR.out (by decide)) (world_type HCS.out.1 HM.out.rowB (by decide)) (world_type HCS.out.1 HM.out.rowI (by decide)) (row_type HM.out.rowB HBR.out (by decide)) (row_type HM.out.rowI HBR.out (by decide)) (row_type HM.out.rowI HM.out.rowB (by decide)) ?_; intro w3 vB3 vI3 v1 v2 v3 s5 s6 k3 hp3 rB3 rI3 f0 f1 f2 f3 hs5 hs6 L1 L2 L3 lB lI; have HM3 := hid_of (HM.out.more HB.out HI0.out HV.out HU.out HUB.out (by have := HQB.out; have := HIN.out; omega) HFL.out k3 HCS.out hp3 rB3 rI3 f0 f1 f2 f3 hs5 hs6 L1 L2 L3 lB lI); clear k3 hp3 rB3 rI3 f0 f1 f2 f3 hs5 hs6 L1 L2 L3 lB lI)
        | fail)
      go_roundw
      case rel => exact ⟨i + 1, vB3, vI3, _, by have := HIN.out; omega, by go_num, HM3.out⟩
      case measure => have := HIN.out; simp [intOf]; omega
    · have hie : i = fl.length := by omega
      subst hie
      obtain ⟨cs', hcs⟩ := hm.hp
      have HWa := hid_of hcs.1
      have C7a := hid_of ((hcs.2.2.2.2 7 (by omega) (by omega)).trans C7.out)
      have C8a := hid_of ((hcs.2.2.2.2 8 (by omega) (by omega)).trans C8.out)
      have HCSa := hid_of hcs.2
      have HMa := HM
      have HVa : Hid (wr.ownsRow 0 48 1 (.slice av fl.length capv) fl.length lv) := rowZ (hm.outer HP0.out HI0.out HV.out NB.out)
      have hul : ∀ {j : Nat} {u : Value}, lv[j]? = some u → ∃ f, BR base w u f := fun {j u} hu => by
        have hj : j < fl.length := by rw [← HV.out.len]; exact (List.getElem?_eq_some_iff.1 hu).1
        exact ⟨_, HV.out.at_ j u _ hu (List.getElem?_eq_getElem hj)⟩
      have HFa : Hid (wr.ownsRow 0 37 1 vF (4 * q) ps) := ownsRow_kp HF.out hm.kp (fun b e hs => by
        rcases hs with rfl | hs | hs | ⟨j, u, _, hu, e2⟩
        · exact world_type HP0.out HF.out (by decide) e
        · exact row_type HF.out HB.out (by decide) b e hs
        · exact row_type HF.out HI0.out (by decide) b e hs
        · obtain ⟨f, hf⟩ := hul hu
          exact row_type HF.out hf (by decide) b e e2)
      have HJa : Hid (wr.ownsRow 0 3 1 vJ (4 * q) js) := ownsRow_kp HJ.out hm.kp (fun b e hs => by
        rcases hs with rfl | hs | hs | ⟨j, u, _, hu, e2⟩
        · exact world_type HP0.out HJ.out (by decide) e
        · exact row_type HJ.out HB.out (by decide) b e hs
        · exact NIJ.out b hs e
        · obtain ⟨f, hf⟩ := hul hu
          exact row_type HJ.out hf (by decide) b e e2)
      have LPa : Hid (p < w.heap.size) := block_lt HP0.out
      have HLV : Hid (lv.length = fl.length) := HV.out.len
      obtain ⟨aF, capF, hvF, _⟩ := row_len HFa.out
      subst hvF
      have d7 : wr.cell? ⟨p, 7, none⟩ = some (.slice aF (4 * q) capF) := (cell_of HWa.out 7).trans C7a.out
      have e5 : ((4 * q : Nat) : Int) / 4 = q := by omega
      have hq' : (q : Int) < 1000000 := by omega
      have N1 : Hid ((Value.slice av fl.length capv).ownBlock ≠ some p) := world_type HWa.out HVa.out (by decide)
      have N2 : Hid ((Value.slice aF (4 * q) capF).ownBlock ≠ some p) := world_type HWa.out HFa.out (by decide)
      have N3 : Hid (vJ.ownBlock ≠ some p) := world_type HWa.out HJa.out (by decide)
      have N4 : Hid (∀ b, (Value.slice aF (4 * q) capF).ownBlock = some b → (Value.slice av fl.length capv).ownBlock ≠ some b) := row_type HFa.out HVa.out (by decide)
      have N5 : Hid (∀ b, vJ.ownBlock = some b → (Value.slice av fl.length capv).ownBlock ≠ some b) := row_type HJa.out HVa.out (by decide)
      have N6 : Hid (∀ b, vJ.ownBlock = some b → (Value.slice aF (4 * q) capF).ownBlock ≠ some b) := row_type HJa.out HFa.out (by decide)
      obtain ⟨i0, hi, hz0, hz1, hz2⟩ := info_parts infoBytes
      have HI := hid_of (And.intro hi (And.intro hz0 (And.intro hz1 hz2)))
      clear hi hz0 hz1 hz2 hm hcs hul hile hin HM
      generalize fl.length = n at *
      generalize wr = wa at *
      go_wp2_with fail
      go_loopw [7] (fun vj wr => ∃ i : Nat, i ≤ n ∧ vj = .int .i64 i ∧ Kp (fun b => (Value.slice av n capv).ownBlock = some b) wa wr ∧ wr.ownsRow 0 48 1 (.slice av n capv) n (List.replicate i (markV wa.heap.size) ++ lv.drop i) ∧ wr.heap[wa.heap.size]? = some (.cells (markC (q + 1)) 5 (0, 0))) (fun vj _ => n - (intOf vj).toNat)
      case atStart => exact ⟨0, Nat.zero_le _, rfl, Kp.alloc _ _ _, by simpa using HVa.out.alloc _, heap_alloc_new wa _⟩
      case round =>
        obtain ⟨i, hile, rfl, hkp, hrow, hmk⟩ := hrel
        by_cases hin : i < n
        · have hin' : (i : Int) < n := by omega
          rcases hrow.2 with ⟨_, h0⟩ | ⟨g, cap, cur, hvx, hbx, hgx, hnx, hmx, hcsx, htx⟩
          · omega
          · injection hvx with hav _ hcap
            subst hav
            subst hcap
            have m0 : (wr.cell? ⟨g, i, none⟩).isSome = true := by
              rw [cell_of hgx, Array.getElem?_eq_getElem (by omega)]; rfl
            have mf0 : wr.frozen? ⟨g, i, none⟩ = false := frozen_of hgx i
            obtain ⟨x0, e0⟩ := Option.isSome_iff_exists.1 m0
            have HRS := hid_of (row_set1 hrow i hin g capv rfl (markV wa.heap.size))
            have HMK := hid_of hmk
            have HGL : Hid (g < wa.heap.size) := (HVa.out.lt g rfl).2
            have HKP := hid_of hkp
            clear hrow hin hgx htx hcsx hnx hmx hbx m0 hkp hmk hile
            go_wp2_with fail
            go_roundw
            case rel =>
              refine ⟨i + 1, by omega, by go_num, HKP.out.trans (Kp.setCell (S := fun b => (Value.slice (some ⟨g, 0, none⟩) n capv).ownBlock = some b) wr ⟨g, i, none⟩ _ rfl) (fun _ _ h => h), ?_, ?_⟩
              · have := HRS.out
                rw [fill_next lv i (by have := HLV.out; omega)] at this
                exact this
              · exact ((Kp.setCell (S := fun b => b = g) wr ⟨g, i, none⟩ _ rfl).block _ (block_lt HMK.out) (by have := HGL.out; omega)).trans HMK.out
            case measure => simp [intOf]; omega
        · have hie : i = n := by omega
          subst hie
          have hX : wr.ownsRow 0 48 1 (.slice av i capv) i (List.replicate i (markV wa.heap.size)) := by
            have := hrow
            rw [List.drop_eq_nil_of_le (by have := HLV.out; omega), List.append_nil] at this
            exact this
          have HX := hid_of hX
          have HKP := hid_of hkp
          have HSZ := hid_of hkp.size
          have HVL : Hid (∀ b, (Value.slice av i capv).ownBlock = some b → b < wa.heap.size) := fun b hb => (HVa.out.lt b hb).2
          obtain ⟨iP, hP⟩ := info_parts infoLists
          have HIP := hid_of hP
          obtain ⟨iI, hI⟩ := info_parts infoInt
          have HII := hid_of hI
          clear hP hI
          have HMK := hid_of hmk
          have NMK : Hid (¬ (Value.slice av i capv).ownBlock = some wa.heap.size) := fun h => by have := HVL.out _ h; omega
          generalize hXs : List.replicate i (markV wa.heap.size) = X at *
          clear hrow hkp hX hin hile hmk
          have HXs := hid_of hXs
          clear hXs
          go_wp2_with (first
            | (at_builtin; refine wpL_append_keep rfl _ _ 37 rfl 0 48 i0 (.slice none 0 0) 1 24 Tryz.underlying37 HI.out.1 HI.out.2.1 HI.out.2.2.1 HI.out.2.2.2 rfl (by decide) _ _ _ rfl (HX.out.alloc _) ⟨wr.heap.size, 0, none⟩ 1 1 [.slice (some ⟨wa.heap.size, 0, none⟩) 2 2] rfl rfl (cell_one_new _ _ _) (by simp [Value.oneCell']) (by unfold maxLen; omega) (by omega) (Nat.zero_le _) (by decide) ?_; intro v7 w7 own7 grow7 loc7 keep7; have hk := after_app (S := fun b => (Value.slice av i capv).ownBlock = some b) grow7 (fun _ h => h); have HR7 := hid_of (keep7 _ _ _ (HX.out.alloc _) (List.prefix_append _ _)); have HL7 := hid_of (lies_new1 (w := wa) HSZ.out loc7 own7); obtain ⟨a7, cap7, rfl, _⟩ := row_len own7; have HO7 := hid_of own7; have HK7 := hid_of hk; have HM7 := hid_of (mbs hk HMK.out NMK.out); have HS7 : Hid (wa.heap.size ≤ w7.heap.size) := Nat.le_trans HSZ.out hk.size; clear hk own7 grow7 loc7 keep7)
            | (at_builtin; refine wpL_append_keep rfl _ _ 37 rfl 0 48 i0 (.slice none 0 0) 1 24 Tryz.underlying37 HI.out.1 HI.out.2.1 HI.out.2.2.1 HI.out.2.2.2 rfl (by decide) _ _ _ rfl (HR7.out.alloc _) ⟨w7.heap.size, 0, none⟩ 2 2 [.slice (some ⟨wa.heap.size, 0, none⟩) 2 2, .slice (some ⟨wa.heap.size, 0, none⟩) 2 2] rfl rfl (two_newB w7 _ _ _) (by simp [Value.oneCell']) (by unfold maxLen; omega) (by omega) (Nat.zero_le _) (by decide) ?_; intro v8 w8 own8 grow8 loc8 keep8; have hk := after_app (S := fun b => (Value.slice av i capv).ownBlock = some b) grow8 (fun _ h => h); have HR8 := hid_of (keep8 _ _ _ (HR7.out.alloc _) (List.prefix_append _ _)); have HR8a := hid_of (keep8 _ _ _ (HO7.out.alloc _) (by simp [List.prefix_append_right_inj])); have HL8 := hid_of (lies_new1 (w := wa) HS7.out loc8 own8); obtain ⟨a8, cap8, rfl, _⟩ := row_len own8; have HO8 := hid_of own8; have HK8 := hid_of hk; have HM8 := hid_of (mbs hk HM7.out NMK.out); have HS8 : Hid (wa.heap.size ≤ w8.heap.size) := Nat.le_trans HS7.out hk.size; clear hk own8 grow8 loc8 keep8)
            | (at_builtin; refine wpL_append_keep rfl _ _ 37 rfl 0 48 i0 (.slice none 0 0) 1 24 Tryz.underlying37 HI.out.1 HI.out.2.1 HI.out.2.2.1 HI.out.2.2.2 rfl (by decide) _ _ _ rfl (HR8.out.alloc _) ⟨w8.heap.size, 0, none⟩ 3 3 [.slice (some ⟨wa.heap.size, 0, none⟩) 2 2, .slice (some ⟨wa.heap.size, 0, none⟩) 2 2, .slice (some ⟨wa.heap.size, 0, none⟩) 2 2] rfl rfl (three_newB w8 _ _ _ _) (by simp [Value.oneCell']) (by unfold maxLen; omega) (by omega) (Nat.zero_le _) (by decide) ?_; intro v9 w9 own9 grow9 loc9 keep9; have hk := after_app (S := fun b => (Value.slice av i capv).ownBlock = some b) grow9 (fun _ h => h); have HR9 := hid_of (keep9 _ _ _ (HR8.out.alloc _) (List.prefix_append _ _)); have HR9a := hid_of (keep9 _ _ _ (HR8a.out.alloc _) (by simp [List.prefix_append_right_inj])); have HR9b := hid_of (keep9 _ _ _ (HO8.out.alloc _) (by simp [List.prefix_append_right_inj])); have HL9 := hid_of (lies_new1 (w := wa) HS8.out loc9 own9); obtain ⟨a9, cap9, rfl, _⟩ := row_len own9; have HO9 := hid_of own9; have HK9 := hid_of hk; have HM9 := hid_of (mbs hk HM8.out NMK.out); have HS9 : Hid (wa.heap.size ≤ w9.heap.size) := Nat.le_trans HS8.out hk.size; have hkw := ((HKP.out.trans HK7.out (fun _ _ h => h)).trans HK8.out (fun _ _ h => h)).trans hk (fun _ _ h => h); have hp9 := mbs hkw HWa.out N1.out; have y5 : w9.cell? ⟨p, 7, none⟩ = some (.slice aF (4 * q) capF) := (cell_of hp9 7).trans C7a.out; have HP9 := hid_of hp9; have HKW := hid_of hkw; clear hp9 hkw; clear hk own9 grow9 loc9 keep9)
            | (at_builtin; refine wpL_append_keep rfl _ _ 64 rfl 0 37 iP (.slice none 0 0) 1 24 Tryz.underlying64 HIP.out.1 HIP.out.2.1 HIP.out.2.2.1 HIP.out.2.2.2 rfl (by decide) _ _ _ rfl ((ownsRow_kp HFa.out HKW.out N4.out).alloc _) ⟨w9.heap.size, 0, none⟩ 4 4 [.slice av i capv, .slice a7 (i + 1) cap7, .slice a8 (i + 2) cap8, .slice a9 (i + 3) cap9] rfl rfl (four_new w9 _ _ _ _ _) (by simp [Value.oneCell']) (by unfold maxLen; omega) (by omega) (Nat.zero_le _) (by decide) ?_; intro v10 w10 own10 grow10 loc10 keep10; have hk := after_app (S := fun b => (Value.slice aF (4 * q) capF).ownBlock = some b) grow10 (fun _ h => h); have hp10 := mbs hk HP9.out N2.out; have y5 : w10.cell? ⟨p, 7, none⟩ = some (.slice aF (4 * q) capF) := (cell_of hp10 7).trans C7a.out; have yf5 := frozen_of hp10 7; have y6 : w10.cell? ⟨p, 8, none⟩ = some vJ := (cell_of hp10 8).trans C8a.out; obtain ⟨a10, cap10, rfl, _⟩ := row_len own10; have HP10 := hid_of hp10; have HK10 := hid_of hk; have HO10 := hid_of own10; have HL10 := hid_of loc10; clear hp10 hk own10 grow10 loc10 keep10)
            | (at_builtin; refine wpL_append_keep rfl _ _ 26 rfl 0 3 iI (.int .i64 0) 1 8 Tryz.underlying26 HII.out.1 HII.out.2.1 HII.out.2.2.1 HII.out.2.2.2 rfl (by decide) _ _ _ rfl ((ownsRow_kp (ownsRow_kp (ownsRow_kp HJa.out HKW.out N5.out) HK10.out N6.out) (Kp.setCell (S := fun b => b = p) w10 ⟨p, 7, none⟩ (.slice a10 (4 * q + 4) cap10) rfl) (fun b hb e => N3.out (by rw [← e]; exact hb))).alloc _) ⟨w10.heap.size, 0, none⟩ 4 4 [.int .i64 (q + 1), .int .i64 (q + 1), .int .i64 (q + 1), .int .i64 (q + 1)] rfl rfl (four_newI w10 p 7 _ _ _ _ _ _) (by simp [Value.oneCell']) (by unfold maxLen; omega) (by omega) (Nat.zero_le _) (by decide) ?_; intro v11 w11 own11 grow11 loc11 keep11; have hk := after_app (S := fun b => vJ.ownBlock = some b) grow11 (fun _ h => h); have hp11 := mbs hk (heap_setCell_at HP10.out _) N3.out; have y6 : w11.cell? ⟨p, 8, none⟩ = some vJ := (cell_of hp11 8).trans (by simpa using C8a.out); have yf6 := frozen_of hp11 8; obtain ⟨a11, cap11, rfl, _⟩ := row_len own11; have HP11 := hid_of hp11; have HK11 := hid_of hk; have HO11 := hid_of own11; have HL11 := hid_of loc11; clear hp11 hk own11 grow11 loc11 keep11)
            | fail)
          have lp : p < wa.heap.size := block_lt HWa.out
          have lP : ∀ b, (Value.slice aF (4 * q) capF).ownBlock = some b → b < wa.heap.size := fun b hb => (HFa.out.lt b hb).2
          have lK : ∀ b, vJ.ownBlock = some b → b < wa.heap.size := fun b hb => (HJa.out.lt b hb).2
          have s9 := HS9.out
          have s10 := HK10.out.size
          have s11 : w10.heap.size ≤ w11.heap.size := by have := HK11.out.size; simpa [World.setCell] using this
          have t11 : Kp (fun b => b = p ∨ vJ.ownBlock = some b) w10 (w11.setCell ⟨p, 8, none⟩ (.slice a11 (4 * q + 4) cap11)) :=
            ((Kp.setCell (S := fun b => b = p ∨ vJ.ownBlock = some b) w10 ⟨p, 7, none⟩ (.slice a10 (4 * q + 4) cap10) (Or.inl rfl)).trans (HK11.out.mono (S' := fun b => b = p ∨ vJ.ownBlock = some b) (fun _ _ h => Or.inr h)) (fun _ _ h => h)).trans (Kp.setCell (S := fun b => b = p ∨ vJ.ownBlock = some b) w11 _ _ (Or.inl rfl)) (fun _ _ h => h)
          have t10 : Kp (fun b => b = p ∨ (Value.slice aF (4 * q) capF).ownBlock = some b ∨ vJ.ownBlock = some b) w9 (w11.setCell ⟨p, 8, none⟩ (.slice a11 (4 * q + 4) cap11)) :=
            (HK10.out.mono (S' := fun b => b = p ∨ (Value.slice aF (4 * q) capF).ownBlock = some b ∨ vJ.ownBlock = some b) (fun _ _ h => Or.inr (Or.inl h))).trans t11 (fun _ _ h => h.imp id Or.inr)
          have t9 : Kp (fun b => b = p ∨ (Value.slice aF (4 * q) capF).ownBlock = some b ∨ vJ.ownBlock = some b ∨ (Value.slice av i capv).ownBlock = some b) wa (w11.setCell ⟨p, 8, none⟩ (.slice a11 (4 * q + 4) cap11)) :=
            (HKW.out.mono (S' := fun b => b = p ∨ (Value.slice aF (4 * q) capF).ownBlock = some b ∨ vJ.ownBlock = some b ∨ (Value.slice av i capv).ownBlock = some b) (fun _ _ h => Or.inr (Or.inr (Or.inr h)))).trans t10 (fun _ _ h => h.imp id (fun h => h.imp id Or.inl))
          have nv : ∀ b, (Value.slice av i capv).ownBlock = some b → ¬ (b = p ∨ (Value.slice aF (4 * q) capF).ownBlock = some b ∨ vJ.ownBlock = some b) := fun b hb h => by
            rcases h with h | h | h
            · exact N1.out (by rw [← h]; exact hb)
            · exact N4.out b h hb
            · exact N5.out b h hb
          have nu : ∀ u s, Lies wa (Value.slice av i capv) u s → ∀ b, u.ownBlock = some b → ¬ (b = p ∨ (Value.slice aF (4 * q) capF).ownBlock = some b ∨ vJ.ownBlock = some b) := fun u s hu b hb => by
            rcases hu b hb with h | h
            · exact nv b h
            · intro h2
              rcases h2 with h2 | h2 | h2
              · omega
              · have := lP b h2; omega
              · have := lK b h2; omega
          have x1 : X ++ [.slice (some ⟨wa.heap.size, 0, none⟩) 2 2] = List.replicate (i + 1) (markV wa.heap.size) := by rw [rep_succ, HXs.out]; rfl
          have x2 : X ++ [.slice (some ⟨wa.heap.size, 0, none⟩) 2 2, .slice (some ⟨wa.heap.size, 0, none⟩) 2 2] = List.replicate (i + 2) (markV wa.heap.size) := by rw [rep_succ, ← x1]; simp [markV]
          have x3 : X ++ [.slice (some ⟨wa.heap.size, 0, none⟩) 2 2, .slice (some ⟨wa.heap.size, 0, none⟩) 2 2, .slice (some ⟨wa.heap.size, 0, none⟩) 2 2] = List.replicate (i + 3) (markV wa.heap.size) := by rw [rep_succ, ← x2]; simp [markV]
          have f0 := ownsRow_kp HR9.out t10 nv
          have f1 := ownsRow_kp HR9a.out t10 (nu _ _ HL7.out)
          have f2 := ownsRow_kp HR9b.out t10 (nu _ _ HL8.out)
          have f3 := ownsRow_kp HO9.out t10 (nu _ _ HL9.out)
          rw [x1] at f1
          rw [x2] at f2
          rw [x3] at f3
          have l10 : ∀ b, (Value.slice a10 (4 * q + 4) cap10).ownBlock = some b → (Value.slice aF (4 * q) capF).ownBlock = some b ∨ (w9.heap.size ≤ b ∧ b < w10.heap.size) := fun b hb => by
            have hlt := (HO10.out.lt b hb).2
            rcases HL10.out with h | h
            · exact Or.inl (h ▸ hb)
            · rw [h] at hb
              injection hb with hb
              simp at hb
              exact Or.inr ⟨by omega, hlt⟩
          have l11 : ∀ b, (Value.slice a11 (4 * q + 4) cap11).ownBlock = some b → vJ.ownBlock = some b ∨ w10.heap.size ≤ b := fun b hb => by
            rcases HL11.out with h | h
            · exact Or.inl (h ▸ hb)
            · rw [h] at hb
              injection hb with hb
              simp [World.setCell] at hb
              exact Or.inr (by omega)
          have g10 := ownsRow_kp HO10.out t11 (fun b hb h => by
            rcases l10 b hb with h1 | h1
            · rcases h with h | h
              · exact N2.out (by rw [← h]; exact h1)
              · exact N6.out b h h1
            · rcases h with h | h
              · omega
              · have := lK b h; omega)
          have g11 := ownsRow_kp HO11.out (Kp.setCell (S := fun b => b = p) w11 ⟨p, 8, none⟩ (.slice a11 (4 * q + 4) cap11) rfl) (fun b hb h => by
            rcases l11 b hb with h1 | h1
            · exact N3.out (by rw [← h]; exact h1)
            · omega)
          rw [← HXs.out] at f0
          have hsa := HMa.out.kp.size
          have lva : ∀ b, (Value.slice av i capv).ownBlock = some b → b < w.heap.size := fun b e => (HV.out.row.lt b e).2
          have lFa : ∀ b, (Value.slice aF (4 * q) capF).ownBlock = some b → b < w.heap.size := fun b e => (HF.out.lt b e).2
          have lJa : ∀ b, vJ.ownBlock = some b → b < w.heap.size := fun b e => (HJ.out.lt b e).2
          have kFin := (HMa.out.kp.mono (S' := fun b => b = p ∨ vB.ownBlock = some b ∨ vI.ownBlock = some b ∨ (Value.slice aF (4 * q) capF).ownBlock = some b ∨ vJ.ownBlock = some b ∨ (Value.slice av i capv).ownBlock = some b ∨ ∃ (j : Nat) (u : Value), lv[j]? = some u ∧ u.ownBlock = some b) (fun b _ hs => by
            rcases hs with hs | hs | hs | ⟨j, u, _, r⟩
            · exact Or.inl hs
            · exact Or.inr (Or.inl hs)
            · exact Or.inr (Or.inr (Or.inl hs))
            · exact Or.inr (Or.inr (Or.inr (Or.inr (Or.inr (Or.inr ⟨j, u, r⟩))))))).trans t9 (fun b _ hs => by
            rcases hs with hs | hs | hs | hs
            · exact Or.inl hs
            · exact Or.inr (Or.inr (Or.inr (Or.inl hs)))
            · exact Or.inr (Or.inr (Or.inr (Or.inr (Or.inl hs))))
            · exact Or.inr (Or.inr (Or.inr (Or.inr (Or.inr (Or.inl hs))))))
          have nIv : ∀ b, vI'.ownBlock = some b → vJ.ownBlock ≠ some b := fun b e e2 => by
            rcases HMa.out.locI b e with h | h
            · exact NIJ.out b h e2
            · have := lJa b e2; omega
          have rBf := ownsRow_kp HMa.out.rowB t9 (fun b e hs => by
            rcases hs with rfl | hs | hs | hs
            · exact world_type HWa.out HMa.out.rowB (by decide) e
            · exact row_type HMa.out.rowB HFa.out (by decide) b e hs
            · exact row_type HMa.out.rowB HJa.out (by decide) b e hs
            · rcases HMa.out.locB b e with h | h
              · exact NB.out b hs h
              · have := lva b hs; omega)
          have rIf := ownsRow_kp HMa.out.rowI t9 (fun b e hs => by
            rcases hs with rfl | hs | hs | hs
            · exact world_type HWa.out HMa.out.rowI (by decide) e
            · exact row_type HMa.out.rowI HFa.out (by decide) b e hs
            · exact nIv b e hs
            · exact row_type HMa.out.rowI HVa.out (by decide) b e hs)
          have lsf : ∀ e ∈ b', Signed (w11.setCell ⟨p, 8, none⟩ (.slice a11 (4 * q + 4) cap11)) e := fun e he => by
            obtain ⟨a1, a2⟩ := HMa.out.lists e he
            refine ⟨ownsRow_kp a1 t9 (fun b eb hs => ?_), a2⟩
            rcases hs with rfl | hs | hs | hs
            · exact world_type HWa.out a1 (by decide) eb
            · exact row_type a1 HFa.out (by decide) b eb hs
            · exact row_type a1 HJa.out (by decide) b eb hs
            · exact row_type a1 HVa.out (by decide) b eb hs
          have mkf : (w11.setCell ⟨p, 8, none⟩ (.slice a11 (4 * q + 4) cap11)).heap[wa.heap.size]? = some (.cells (markC (q + 1)) 5 (0, 0)) := (t10.block wa.heap.size (block_lt HM9.out) (fun hs => by
            rcases hs with hs | hs | hs
            · have := LPa.out; omega
            · have := lFa _ hs; omega
            · have := lJa _ hs; omega)).trans HM9.out
          obtain ⟨a7, a8, a5, a6⟩ := HCSa.out
          have l7 := (Array.getElem?_eq_some_iff.1 C7a.out).1
          have l8 := (Array.getElem?_eq_some_iff.1 C8a.out).1
          have hpf : (w11.setCell ⟨p, 8, none⟩ (.slice a11 (4 * q + 4) cap11)).heap[p]? = some (.cells ((cs'.setIfInBounds 7 (.slice a10 (4 * q + 4) cap10)).setIfInBounds 8 (.slice a11 (4 * q + 4) cap11)) 68 (0, 0)) := heap_setCell_at HP11.out _
          have HFin := hid_of (HR.out _ vB' vI' _ _ b' _ _ _ wa.heap.size _ kFin ⟨hpf, by rw [Array.getElem?_setIfInBounds_ne (by omega), Array.getElem?_setIfInBounds_ne (by omega)]; exact a7, by rw [Array.getElem?_setIfInBounds_ne (by omega), Array.getElem?_setIfInBounds_ne (by omega)]; exact a8, by rw [Array.getElem?_setIfInBounds_ne (by omega), Array.getElem?_setIfInBounds_self_of_lt l7], by rw [Array.getElem?_setIfInBounds_self_of_lt (by simpa using l8)], by simp [a5], fun k k3 k4 k7 k8 => by rw [Array.getElem?_setIfInBounds_ne (by omega), Array.getElem?_setIfInBounds_ne (by omega)]; exact a6 k k3 k4⟩ rBf rIf HMa.out.len lsf (fun e he b hb => (HMa.out.loc e he b hb).imp (fun ⟨j, u, _, r⟩ => ⟨j, u, r⟩) id) g10 g11 f0 f1 f2 f3 mkf hsa (fun x hx b hb => by
            have far : ∀ s, (Value.slice av i capv).ownBlock = some b ∨ (wa.heap.size ≤ b ∧ b < s) → ((Value.slice av i capv).ownBlock = some b ∨ w.heap.size ≤ b) ∧ vB'.ownBlock ≠ some b := fun s h => by
              refine ⟨h.imp id (fun h => by omega), fun e => ?_⟩
              rcases h with h | h
              · rcases HMa.out.locB b e with h2 | h2
                · exact NB.out b h h2
                · have := lva b h; omega
              · have := (HMa.out.rowB.lt b e).2; omega
            rcases hx with rfl | rfl | rfl
            · exact far _ (HL7.out b hb)
            · exact far _ (HL8.out b hb)
            · exact far _ (HL9.out b hb)) HMa.out.locB HMa.out.locI (fun b hb => (l10 b hb).imp id (fun h => by omega)) (fun b hb => (l11 b hb).imp id (fun h => by omega)) (fun b e e2 => by
            rcases l11 b e2 with h | h
            · exact nIv b e h
            · have := (HMa.out.rowI.lt b e).2; omega))
          clear f0 f1 f2 f3 g10 g11 l10 l11 t9 t10 t11 nu nv x1 x2 x3 lp lP lK s9 s10 s11 hpf mkf lsf rBf rIf nIv kFin lva lFa lJa hsa a7 a8 a5 a6 l7 l8
          go_end0
          exact HFin.out

end

end Go.Proofs.YthbdpfccfcceiaaGreatDoor
