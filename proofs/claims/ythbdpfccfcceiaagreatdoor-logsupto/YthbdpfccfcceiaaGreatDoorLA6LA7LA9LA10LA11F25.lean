/-
  The law: lists of bytes that were lent, looked at again (clean).
  The law: lists of bytes that were lent, looked at again and written over (clean).
  The law's memory with a pair of stores more, whichever they are.
  The law's Recover of both sides: who calls what, and what it adds.
  The law's Recover of both sides: both answer alike, and there is a pair of stores more, or none.
  What is read of the beginning of a file that a store wrote: of bytes alone.
-/
import Derived.Test.YthbdpfccfcceiaaGreatDoorLA5
import Derived.BigQuiet
import Derived.Test.YthbdpfccfcceiaaGreatDoorDBDDBELA3LA4
import Derived.Test.YthbdpfccfcceiaaGreatDoorF3F23F24F34
namespace Go.Proofs.YthbdpfccfcceiaaGreatDoor
open Go.RowKit Go.Maps Go.Lib

/-- The blocks that clean writes. -/
def lentS (O : Nat) (al : List Value) (b : Nat) : Prop := b = O ∨ ∃ (j n c : Nat), al[j]? = some (.slice (some ⟨b, 0, none⟩) n c)

theorem LendR.lentLow {w : World} {base : Nat} {fs : List (List UInt8)} {X O : Nat} {va : Value} {al ol : List Value} (h : LendR w base fs X O va al ol) {b : Nat} (hb : lentS O al b) : base ≤ b := by
  rcases hb with rfl | ⟨j, n, c, hj⟩
  · exact h.low.2.1
  · have hall : al.length = fs.length := by simpa using h.rowA.1
    have hl := (List.getElem?_eq_some_iff.1 hj).1
    obtain ⟨g, e, h1, _⟩ := h.at_ j _ fs[j] hj (List.getElem?_eq_getElem (by omega))
    injection e with e _ _
    injection e with e
    injection e with e _ _
    subst e
    exact h1

/-- What lies at one place of what is lent. -/
theorem LendR.read {w : World} {base : Nat} {fs : List (List UInt8)} {X O : Nat} {va : Value} {al ol : List Value} (h : LendR w base fs X O va al ol) {i : Nat} {f : List UInt8} (hf : fs[i]? = some f) :
    ∃ (ga cap g : Nat) (q : Option Addr) (k : Nat), va = .slice (some ⟨ga, 0, none⟩) fs.length cap ∧ w.cell? ⟨ga, i, none⟩ = some (.slice (some ⟨g, 0, none⟩) (f.length + 8) (f.length + 8)) ∧
      w.cell? ⟨O, i, none⟩ = some (.slice q f.length k) ∧ (f ≠ [] → q = some ⟨g, 0, none⟩) ∧ w.heap[g]? = some (.cells (lentC f) 5 (0, 0)) ∧ al[i]? = some (.slice (some ⟨g, 0, none⟩) (f.length + 8) (f.length + 8)) := by
  have hi := (List.getElem?_eq_some_iff.1 hf).1
  have hall : al.length = fs.length := by simpa using h.rowA.1
  obtain ⟨ga, cap, cur, rfl, _, _⟩ := ownsRow_some h.rowA (by omega)
  have hu : al[i]? = some al[i] := List.getElem?_eq_getElem (by omega)
  obtain ⟨g, e, _, h3⟩ := h.at_ i _ f hu hf
  rw [e] at hu
  have hc := ownsRow_cell h.rowA i _ hu
  rcases h.outs i f hf with ⟨h1, rfl⟩ | ⟨g2, h1, h2⟩
  · exact ⟨ga, cap, g, none, 0, rfl, hc, (cell_of h.rowO i).trans (by rw [List.getElem?_toArray]; exact h1), fun e => absurd rfl e, h3, hu⟩
  · rw [hu] at h1
    injection h1 with h1
    injection h1 with h1 _ _
    injection h1 with h1
    injection h1 with h1 _ _
    subst h1
    exact ⟨ga, cap, g, _, _, rfl, hc, (cell_of h.rowO i).trans (by rw [List.getElem?_toArray]; exact h2), fun _ => rfl, h3, hu⟩

theorem lentC_get (f : List UInt8) (j : Nat) (hj : j < f.length) : (lentC f)[j]? = some (b8 (f.getD j 0)) := by
  rw [lentC, List.getElem?_toArray, List.getElem?_append_left (by simpa using hj), List.getElem?_map, List.getElem?_eq_getElem hj, List.getD_eq_getElem?_getD, List.getElem?_eq_getElem hj]
  rfl

theorem lentC_end (f : List UInt8) (j : Nat) (hj : f.length ≤ j) (h8 : j < f.length + 8) : (lentC f)[j]? = some (b8 77) := by
  rw [lentC, List.getElem?_toArray, List.getElem?_append_right (by simpa using hj), List.getElem?_replicate, if_pos (by simp; omega)]

end Go.Proofs.YthbdpfccfcceiaaGreatDoor

namespace Go.Proofs.YthbdpfccfcceiaaGreatDoor
open Go.RowKit Go.Maps Go.Lib

theorem LendR.notS {w : World} {base : Nat} {fs : List (List UInt8)} {X O : Nat} {va : Value} {al ol : List Value} (h : LendR w base fs X O va al ol) : ¬ lentS O al X ∧ ∀ b, va.ownBlock = some b → ¬ lentS O al b := by
  have hall : al.length = fs.length := by simpa using h.rowA.1
  have key : ∀ (j g n c : Nat), al[j]? = some (.slice (some ⟨g, 0, none⟩) n c) → ∃ f, w.heap[g]? = some (.cells (lentC f) 5 (0, 0)) := fun j g n c hj => by
    have hl := (List.getElem?_eq_some_iff.1 hj).1
    obtain ⟨g2, e, _, h3⟩ := h.at_ j _ fs[j] hj (List.getElem?_eq_getElem (by omega))
    injection e with e _ _
    injection e with e
    injection e with e _ _
    subst e
    exact ⟨_, h3⟩
  refine ⟨fun hb => ?_, fun b e hb => ?_⟩
  · rcases hb with e | ⟨j, n, c, hj⟩
    · exact h.low.2.2 e
    · obtain ⟨f, h3⟩ := key j _ n c hj
      rw [h.blk] at h3
      injection h3 with h3
      injection h3 with _ h3
      cases h3
  · rcases hb with rfl | ⟨j, n, c, hj⟩
    · exact h.vaO e
    · obtain ⟨f, h3⟩ := key j _ n c hj
      exact block_type h3 h.rowA (by decide) e

/-- While what was lent is written over. -/
structure CleanM (w w' : World) (fs : List (List UInt8)) (O : Nat) (al : List Value) : Prop where
  kp : Kp (lentS O al) w w'
  at_ : ∀ (j : Nat) f, fs[j]? = some f → ∃ g cs, al[j]? = some (.slice (some ⟨g, 0, none⟩) (f.length + 8) (f.length + 8)) ∧ w'.heap[g]? = some (.cells cs 5 (0, 0)) ∧ cs.size = f.length + 8
  row : ∃ cs, w'.heap[O]? = some (.cells cs 48 (0, 0)) ∧ cs.size = fs.length + 2

theorem LendR.cleanM {w w' : World} {base : Nat} {fs : List (List UInt8)} {X O : Nat} {va : Value} {al ol : List Value} (h : LendR w base fs X O va al ol) (k : Kp (fun _ => False) w w') : CleanM w w' fs O al := by
  have h2 := h.kp k (fun _ _ _ e => e)
  refine ⟨k.mono (fun _ _ e => e.elim), fun j f hf => ?_, _, h2.rowO, by simp [h.lenO]⟩
  obtain ⟨_, _, g, _, _, _, _, _, _, h3, h4⟩ := h2.read hf
  exact ⟨g, _, h4, h3, by simp [lentC]⟩

theorem CleanM.setG {w w' : World} {fs : List (List UInt8)} {O : Nat} {al : List Value} (h : CleanM w w' fs O al) {j g n c : Nat} (hj : al[j]? = some (.slice (some ⟨g, 0, none⟩) n c)) (k : Nat) (v : Value) {cs0 : Array Value} (hg : w'.heap[g]? = some (.cells cs0 5 (0, 0))) : CleanM w (w'.setCell ⟨g, k, none⟩ v) fs O al := by
  have kg := Kp.setCell (S := fun b => b = g) w' ⟨g, k, none⟩ v rfl
  refine ⟨h.kp.trans kg (fun b _ e => by subst e; exact Or.inr ⟨j, n, c, hj⟩), fun i f hf => ?_, ?_⟩
  · obtain ⟨g2, cs, h1, h2, h3⟩ := h.at_ i f hf
    by_cases e : g2 = g
    · subst e
      exact ⟨g2, _, h1, heap_setCell_at h2 v, by simpa using h3⟩
    · exact ⟨g2, cs, h1, (kg.block g2 (block_lt h2) e).trans h2, h3⟩
  · obtain ⟨cs, h2, h3⟩ := h.row
    refine ⟨cs, (kg.block O (block_lt h2) (fun e => ?_)).trans h2, h3⟩
    subst e
    rw [hg] at h2
    injection h2 with h2
    injection h2 with _ h2
    cases h2

theorem CleanM.setO {w w' : World} {fs : List (List UInt8)} {O : Nat} {al : List Value} (h : CleanM w w' fs O al) (k : Nat) (v : Value) : CleanM w (w'.setCell ⟨O, k, none⟩ v) fs O al := by
  have kg := Kp.setCell (S := fun b => b = O) w' ⟨O, k, none⟩ v rfl
  obtain ⟨cs0, hO, hs0⟩ := h.row
  refine ⟨h.kp.trans kg (fun b _ e => Or.inl e), fun i f hf => ?_, _, heap_setCell_at hO v, by simpa using hs0⟩
  obtain ⟨g2, cs, h1, h2, h3⟩ := h.at_ i f hf
  refine ⟨g2, cs, h1, (kg.block g2 (block_lt h2) (fun e => ?_)).trans h2, h3⟩
  subst e
  rw [hO] at h2
  injection h2 with h2
  injection h2 with _ h2
  cases h2

/-- The two lists behind. -/
theorem LendR.last {w : World} {base : Nat} {fs : List (List UInt8)} {X O : Nat} {va : Value} {al ol : List Value} (h : LendR w base fs X O va al ol) {j : Nat} (hj : j = fs.length ∨ j = fs.length + 1) :
    ∃ g, w.cell? ⟨O, j, none⟩ = some (.slice (some ⟨g, 0, none⟩) 1 1) ∧ RdN w (.slice (some ⟨g, 0, none⟩) 1 1) [77] g := by
  obtain ⟨g, _, h2, h3⟩ := h.ends j hj
  refine ⟨g, (cell_of h.rowO j).trans (by rw [List.getElem?_toArray]; exact h2), _, _, rfl, by simp, fun _ => ⟨block_lt h3, 0, rfl, fun k hk => ?_⟩⟩
  obtain rfl : k = 0 := by simp at hk; exact hk
  exact cell_of h3 0

section
variable {R : Ending → World → Prop} {w : World}

set_option maxRecDepth 20000 in
set_option maxHeartbeats 4000000 in
theorem clean_any {base : Nat} {fs : List (List UInt8)} {X O : Nat} {va l : Value} {al ol : List Value} (hL : LendR w base fs X O va al ol) (hv : FIn w l fs (fun b => b < base))
    (hR : ∀ w', Kp (lentS O al) w w' → R (.returned (.bool true)) w') :
    Calls Tryz.prog 94 #[.pointer (some ⟨X, 0, none⟩), l] w R := by
  have HL := hid_of hL
  have HV := hid_of hv
  have HR := hid_of hR
  obtain ⟨a0, cap0, rfl, hn0, _⟩ := hv
  have HN0 := hid_of hn0
  have hn0' : (fs.length : Int) ≤ 1100000 := by omega
  obtain ⟨aa, ca, hva⟩ := ownsRow_slice hL.rowA
  have x0 : w.cell? ⟨X, 0, none⟩ = some (.slice aa fs.length ca) := by rw [← hva]; exact cell_of hL.blk 0
  have HX : Hid (∀ wr, Kp (lentS O al) w wr → wr.cell? ⟨X, 0, none⟩ = some (.slice aa fs.length ca) ∧ wr.cell? ⟨X, 1, none⟩ = some (.slice (some ⟨O, 0, none⟩) (fs.length + 2) (fs.length + 2))) := fun wr k => by
    have h := (k.block X (block_lt hL.blk) hL.notS.1).trans hL.blk
    exact ⟨by rw [← hva]; exact cell_of h 0, cell_of h 1⟩
  have HVA := hid_of hva
  clear hL hR hva hn0
  go_enter Tryz.func94, Tryz.ntmps94
  go_wp2_with fail
  go_loopw [5, 6, 7] (fun v5 v6 _ wr => ∃ i : Nat, i ≤ fs.length ∧ v5 = .bool true ∧ v6 = .int .i64 i ∧ Kp (fun _ => False) w wr) (fun _ v6 _ _ => fs.length - (intOf v6).toNat)
  case atStart => exact ⟨0, Nat.zero_le _, by simp, rfl, Kp.refl _ _⟩
  case round =>
    clear x0
    obtain ⟨i, hi, rfl, rfl, hk⟩ := hrel
    have HK := hid_of hk
    by_cases hlt : i < fs.length
    · have hlt' : (i : Int) < fs.length := by omega
      obtain ⟨f, hfi⟩ : ∃ f, fs[i]? = some f := ⟨fs[i], List.getElem?_eq_getElem hlt⟩
      have HFI := hid_of hfi
      have HLT := hid_of hlt
      have HC : Hid (∀ wr, Kp (fun _ => False) w wr → ∃ (ga g gl ol gf : Nat) (cf k : Nat) (q bf : Option Addr), aa = some ⟨ga, 0, none⟩ ∧ a0 = some ⟨gl, ol, none⟩ ∧ wr.cell? ⟨ga, i, none⟩ = some (.slice (some ⟨g, 0, none⟩) (f.length + 8) (f.length + 8)) ∧ wr.cell? ⟨O, i, none⟩ = some (.slice q f.length k) ∧ wr.cell? ⟨gl, ol + i, none⟩ = some (.slice bf f.length cf) ∧ (f ≠ [] → q = some ⟨g, 0, none⟩ ∧ ∃ of, bf = some ⟨gf, of, none⟩ ∧ ∀ j, j < f.length → wr.cell? ⟨gf, of + j, none⟩ = some (b8 (f.getD j 0)) ∧ wr.cell? ⟨g, j, none⟩ = some (b8 (f.getD j 0))) ∧ (∀ j, f.length ≤ j → j < f.length + 8 → wr.cell? ⟨g, j, none⟩ = some (b8 77)) ∧ f.length ≤ 1100000) := fun wr k => by
        obtain ⟨ga, cap, g, q, k2, e1, h1, h2, h3, h4, _⟩ := (HL.out.kp k (fun _ _ _ e => e)).read HFI.out
        rw [HVA.out] at e1
        injection e1 with e1 _ _
        obtain ⟨a1, c1, e2, _, h5⟩ := HV.out.kp k (fun _ _ e => e)
        injection e2 with e2 _ _
        obtain ⟨gl, ol, e3, _, _, h5⟩ := h5 (fun e => by have h := HLT.out; rw [e] at h; simp at h)
        obtain ⟨bf, n, c, gf, h6, h7, _, h8⟩ := h5 i f HFI.out
        obtain ⟨q7, k7, e7, _, h7⟩ := h7
        injection e7 with e7 e8 e9
        subst e7 e8 e9
        refine ⟨ga, g, gl, ol, gf, c, k2, q, bf, e1, e2.trans e3, h1, h2, h6, fun hne => ?_, fun j hj1 hj2 => (cell_of h4 j).trans (lentC_end f j hj1 hj2), h8⟩
        obtain ⟨_, of, e, h9⟩ := h7 hne
        exact ⟨h3 hne, of, e, fun j hj => ⟨h9 j hj, (cell_of h4 j).trans (lentC_get f j hj)⟩⟩
      obtain ⟨xa, xb⟩ := HX.out wr (hk.mono (fun _ _ e => e.elim))
      obtain ⟨ga, g, gl, ox, gf, cf, k, q, bf, rfl, rfl, ca1, ca2, ca3, hin0, hend0, hfl⟩ := HC.out wr hk
      clear hin0 hend0
      have hlt2 : (i : Int) < (fs.length : Int) + 2 := by omega
      clear hk hfi hlt hfl
      go_wp2_with fail
      go_region
      all_goals go_wp2_with fail
      clear xa xb ca1 ca2 ca3
      go_loopw [5, 7] (fun v5 v7 wz => ∃ j : Nat, j ≤ f.length + 8 ∧ v5 = .bool true ∧ v7 = .int .i64 j ∧ Kp (fun _ => False) w wz) (fun _ v7 _ => f.length + 8 - (intOf v7).toNat)
      case atStart => exact ⟨0, by omega, by simp, rfl, HK.out.trans (Kp.drew (fun _ => False) _) (fun _ _ e => e)⟩
      case round =>
        obtain ⟨j, hj, rfl, rfl, hkj⟩ := hrel
        have HKJ := hid_of hkj
        obtain ⟨xa, xb⟩ := HX.out wr (hkj.mono (fun _ _ e => e.elim))
        obtain ⟨ga', g2, gl', ox', gf2, cf2, k2, q2, bf2, e1, e2, ca1, ca2, ca3, hin, hend, hfl⟩ := HC.out wr hkj
        injection e1 with e1
        injection e1 with e1 _ _
        subst e1
        injection e2 with e2
        injection e2 with e2 e3 _
        subst e2 e3
        have hfl' : (f.length : Int) ≤ 1100000 := by omega
        by_cases hjl : j < f.length + 8
        · have hjl' : (j : Int) < (f.length : Int) + 8 := by omega
          by_cases hjf : j < f.length
          · have hjf' : (j : Int) < f.length := by omega
            have hne : f ≠ [] := fun e => by rw [e] at hjf; simp at hjf
            obtain ⟨rfl, of, rfl, hb⟩ := hin hne
            obtain ⟨b1o, b2o⟩ := hb j hjf
            have b1 : wr.cell? ⟨gf2, of + j, none⟩ = some (.int .u8 ((f.getD j 0).toNat : Nat)) := b1o
            have b2 : wr.cell? ⟨g2, j, none⟩ = some (.int .u8 ((f.getD j 0).toNat : Nat)) := b2o
            clear b1o b2o
            generalize ((f.getD j 0).toNat : Nat) = z at b1 b2
            obtain ⟨z2, hz2⟩ : ∃ z2 : Nat, z2 = z := ⟨z, rfl⟩
            rw [← hz2] at b2
            have hzz : ((z2 : Int) == (z : Int)) = true := by rw [hz2]; simp
            clear hz2
            clear hb hend hin hkj hfl
            go_wp2_with fail
            go_quiet (fail)
            all_goals go_wp2_with fail
            go_roundw
            case rel => exact ⟨j + 1, by omega, by simp, by go_num, HKJ.out.trans (Kp.drewN (fun _ => False) _ _) (fun _ _ e => e)⟩
            case measure => simp [intOf]; omega
          · have hjf' : ¬ (j : Int) < f.length := by omega
            have b2 : wr.cell? ⟨g2, j, none⟩ = some (.int .u8 77) := hend j (by omega) hjl
            clear hend hin hkj hfl
            go_wp2_with fail
            go_roundw
            case rel => exact ⟨j + 1, by omega, by simp, by go_num, HKJ.out⟩
            case measure => simp [intOf]; omega
        · have hjl' : ¬ (j : Int) < (f.length : Int) + 8 := by omega
          clear hend hin hkj hfl
          go_wp2_with fail
          go_roundw
          case rel => exact ⟨i + 1, by have := HLT.out; omega, rfl, by go_num, HKJ.out⟩
          case measure => have := HLT.out; simp [intOf]; omega
    · obtain rfl : i = fs.length := by omega
      have hge : ¬ (fs.length : Int) < fs.length := by omega
      obtain ⟨xa, xb⟩ := HX.out wr (hk.mono (fun _ _ e => e.elim))
      have hL2 := HL.out.kp hk (fun _ _ _ e => e)
      obtain ⟨gA, cA, rA⟩ := hL2.last (j := fs.length) (Or.inl rfl)
      obtain ⟨gB, cB, rB⟩ := hL2.last (j := fs.length + 1) (Or.inr rfl)
      have kA := convN rA
      have kB := convN rB
      have eA : strB [77] = ⟨#[77]⟩ := by decide
      rw [eA] at kA kB
      have hlt1 : (fs.length : Int) < (fs.length : Int) + 2 := by omega
      have hlt2 : (fs.length : Int) + 1 < (fs.length : Int) + 2 := by omega
      clear hk hlt rA rB hi eA hL2
      have HROW : Hid (∀ wr, CleanM w wr fs O al → ∀ (i : Nat) f, fs[i]? = some f → ∃ (ga g : Nat) (cs : Array Value), aa = some ⟨ga, 0, none⟩ ∧ wr.cell? ⟨ga, i, none⟩ = some (.slice (some ⟨g, 0, none⟩) (f.length + 8) (f.length + 8)) ∧ wr.heap[g]? = some (.cells cs 5 (0, 0)) ∧ cs.size = f.length + 8 ∧ al[i]? = some (.slice (some ⟨g, 0, none⟩) (f.length + 8) (f.length + 8)) ∧ f.length ≤ 1100000) := fun wr hm i f hf => by
        have hr := ownsRow_kp HL.out.rowA hm.kp HL.out.notS.2
        rw [HVA.out] at hr
        obtain ⟨ga, cap, cur, e1, _, _⟩ := ownsRow_some hr (by have := (List.getElem?_eq_some_iff.1 hf).1; omega)
        injection e1 with e1 _ e2
        subst e1 e2
        obtain ⟨g, cs, h1, h2, h3⟩ := hm.at_ i f hf
        obtain ⟨a1, c1, _, _, h5⟩ := HV.out
        obtain ⟨_, _, _, _, _, h5⟩ := h5 (fun e => by rw [e] at hf; simp at hf)
        obtain ⟨_, _, _, _, _, _, _, h6⟩ := h5 i f hf
        exact ⟨ga, g, cs, rfl, ownsRow_cell hr i _ h1, h2, h3, h1, h6⟩
      go_wp2_with fail
      clear xa xb cA cB kA kB
      go_loopw [8, 9] (fun v8 _ wz => ∃ i : Nat, i ≤ fs.length ∧ v8 = .int .i64 i ∧ CleanM w wz fs O al) (fun v8 _ _ => fs.length - (intOf v8).toNat)
      case atStart => exact ⟨0, Nat.zero_le _, rfl, HL.out.cleanM HK.out⟩
      case round =>
        obtain ⟨i, hi, rfl, hm⟩ := hrel
        have HM := hid_of hm
        obtain ⟨xa, xb⟩ := HX.out wr hm.kp
        by_cases hlt : i < fs.length
        · have hlt' : (i : Int) < fs.length := by omega
          obtain ⟨f, hfi⟩ : ∃ f, fs[i]? = some f := ⟨fs[i], List.getElem?_eq_getElem hlt⟩
          have HFI := hid_of hfi
          have HLT := hid_of hlt
          clear hm hfi hlt xb
          go_wp2_with fail
          clear xa
          go_loopw [9] (fun v9 wz => ∃ j : Nat, j ≤ f.length + 8 ∧ v9 = .int .i64 j ∧ CleanM w wz fs O al) (fun v9 _ => f.length + 8 - (intOf v9).toNat)
          case atStart => exact ⟨0, by omega, rfl, HM.out⟩
          case round =>
            obtain ⟨j, hj, rfl, hmj⟩ := hrel
            have HMJ := hid_of hmj
            obtain ⟨xa, xb⟩ := HX.out wr hmj.kp
            obtain ⟨ga, g, cs, rfl, c1, hb, hcs, hal, hfl⟩ := HROW.out wr hmj i f HFI.out
            have hfl' : (f.length : Int) ≤ 1100000 := by omega
            by_cases hjl : j < f.length + 8
            · have hjl' : (j : Int) < (f.length : Int) + 8 := by omega
              obtain ⟨cv, hcv⟩ : ∃ cv, cs[j]? = some cv := ⟨_, Array.getElem?_eq_getElem (by omega)⟩
              have c2 : wr.cell? ⟨g, j, none⟩ = some cv := (cell_of hb j).trans hcv
              have c2f := frozen_of hb j
              have HNX := hid_of (HMJ.out.setG hal j (.int .u8 99) hb)
              clear hmj hb hcs hal hcv xb
              go_wp2_with fail
              go_roundw
              case rel => exact ⟨j + 1, by omega, by go_num, HNX.out⟩
              case measure => simp [intOf]; omega
            · have hjl' : ¬ (j : Int) < (f.length : Int) + 8 := by omega
              clear hmj hb hcs hal xb
              go_wp2_with fail
              go_roundw
              case rel => exact ⟨i + 1, by have := HLT.out; omega, by go_num, HMJ.out⟩
              case measure => have := HLT.out; simp [intOf]; omega
        · obtain rfl : i = fs.length := by omega
          have hge : ¬ (fs.length : Int) < fs.length := by omega
          clear hm xb
          go_wp2_with fail
          clear xa
          go_loopw [10] (fun v10 wz => ∃ j : Nat, j ≤ fs.length + 2 ∧ v10 = .int .i64 j ∧ CleanM w wz fs O al) (fun v10 _ => fs.length + 2 - (intOf v10).toNat)
          case atStart => exact ⟨0, by omega, rfl, HM.out⟩
          case round =>
            obtain ⟨j, hj, rfl, hmj⟩ := hrel
            have HMJ := hid_of hmj
            obtain ⟨xa, xb⟩ := HX.out wr hmj.kp
            by_cases hjl : j < fs.length + 2
            · have hjl' : (j : Int) < (fs.length : Int) + 2 := by omega
              obtain ⟨cs, hb, hcs⟩ := hmj.row
              obtain ⟨cv, hcv⟩ : ∃ cv, cs[j]? = some cv := ⟨_, Array.getElem?_eq_getElem (by omega)⟩
              have c2 : wr.cell? ⟨O, j, none⟩ = some cv := (cell_of hb j).trans hcv
              have c2f := frozen_of hb j
              have HNX := hid_of (HMJ.out.setO j (.slice none 0 0))
              clear hmj hb hcs hcv xa
              go_wp2_with fail
              go_roundw
              case rel => exact ⟨j + 1, by omega, by go_num, HNX.out⟩
              case measure => simp [intOf]; omega
            · have hjl' : ¬ (j : Int) < (fs.length : Int) + 2 := by omega
              have HF := hid_of (HR.out wr hmj.kp)
              clear hmj xa
              go_wp2_with fail
              exact HF.out

end

end Go.Proofs.YthbdpfccfcceiaaGreatDoor

namespace Go.Proofs.YthbdpfccfcceiaaGreatDoor
open Go.RowKit Go.Maps Go.Lib

/-- Labels behind a pair more. -/
def ownN (own own4 : Nat → Lab) (n m r b : Nat) : Lab := if b < n then own b else if b < m then own4 b else if b = r then ⟨0, 1, 0, eb⟩ else lab9

section
variable {own own4 : Nat → Lab} {w w4 w5 : World} {p px py nt : Nat} {ds : List (Nat × Nat)} {vL vP vK v5 : Value} {bk : BO} {o : Obj} {s : XS} {y : YS}

theorem ownN_old {n m r b : Nat} (h : b < n) : ownN own own4 n m r b = own b := by simp [ownN, h]

theorem ownN_mid {n m r b : Nat} (h : b < m) (hb : b < n → own4 b = own b) : ownN own own4 n m r b = own4 b := by
  unfold ownN
  by_cases q : b < n
  · rw [if_pos q, hb q]
  · rw [if_neg q, if_pos h]

theorem Inv.pairs (h : Inv own w p ds vL vP vK bk nt) (k4 : Kp (fun _ => False) w w4) (x : XE own4 (2 * ds.length + 2) w4 px s) (hy : YE own4 (2 * ds.length + 3) w4 py y)
    (o4 : ∀ b, b < w.heap.size → (own4 b).c < 2 * ds.length + 2 ∧ (own4 b = lab9 → own b = lab9)) (ht : Tied s y) (hI : YI y) (hn : y.txs.length ≤ nt + 1)
    (g5 : (w4.alloc o).grownBy w5 vL.ownBlock) (l5 : v5.ownBlock = vL.ownBlock ∨ v5.ownBlock = some (w4.alloc o).heap.size)
    (r5 : w5.ownsRow 0 81 2 v5 (ds.length + 1) (cellsD ds ++ [.pointer (some ⟨px, 0, none⟩), .pointer (some ⟨py, 0, none⟩)])) :
    Kp (fun b => own b ≠ lab9) w (w5.setCell ⟨p, 0, none⟩ v5) ∧ Inv (ownN own own4 w.heap.size w4.heap.size (w4.heap.size + 1)) (w5.setCell ⟨p, 0, none⟩ v5) p (ds ++ [(px, py)]) v5 vP vK bk (nt + 1) := by
  have lp := block_lt h.book.world
  have s4 := k4.size
  have lL : ∀ b, vL.ownBlock = some b → b < w.heap.size := fun b e => (h.rowL.lt b e).2
  have npL : vL.ownBlock ≠ some p := fun e => by
    have := h.ownL p e
    rw [h.book.ownP] at this; simp at this
  have k5 : Kp (fun b => vL.ownBlock = some b) w4 w5 := (Kp.alloc (fun b => vL.ownBlock = some b) _ _).trans (Kp.of_grown (S := fun b => vL.ownBlock = some b) g5 (fun _ h => h)) (fun _ _ h => h)
  have k6 : Kp (fun b => b = p) w5 (w5.setCell ⟨p, 0, none⟩ v5) := Kp.setCell w5 _ _ rfl
  have k46 : Kp (fun b => vL.ownBlock = some b ∨ b = p) w4 (w5.setCell ⟨p, 0, none⟩ v5) := (k5.mono (S' := fun b => vL.ownBlock = some b ∨ b = p) (fun _ _ h => Or.inl h)).trans (k6.mono (S' := fun b => vL.ownBlock = some b ∨ b = p) (fun _ _ h => Or.inr h)) (fun _ _ h => h)
  have kk : Kp (fun b => vL.ownBlock = some b ∨ b = p) w (w5.setCell ⟨p, 0, none⟩ v5) := (kpF k4).trans k46 (fun _ _ h => h)
  have hp5 : w5.heap[p]? = some (.cells (worldC vL vP vK bk) 68 (0, 0)) := (k5.block p (Nat.lt_of_lt_of_le lp k4.size) npL).trans ((k4.block p lp (fun e => e)).trans h.book.world)
  generalize hw6 : w5.setCell ⟨p, 0, none⟩ v5 = w6 at kk k46 k6 ⊢
  have T : ∀ b, b < w.heap.size → own b ≠ ⟨0, 0, 0, eb⟩ → own b ≠ ⟨0, 1, 0, eb⟩ → w6.heap[b]? = w.heap[b]? := fun b hb n0 n1 => kk.block b hb (fun e => by
    rcases e with e | e
    · exact n1 (h.ownL b e)
    · exact n0 (by rw [e]; exact h.book.ownP))
  have A : ∀ b, b < w.heap.size → ownN own own4 w.heap.size w4.heap.size (w4.heap.size + 1) b = own b := fun b hb => ownN_old hb
  have B := h.book
  have hnd := h.nds
  have hnb := h.nbk
  refine ⟨kk.mono (fun b _ e => ?_), ⟨⟨(A p lp).trans B.ownP, ?_, ?_, ?_, ?_, ?_, B.four, ?_, ?_, B.num⟩, ?_, ?_, ?_, by simp; omega, by omega, h.tab.block (T 0 h.tab.lt.1 (by rw [h.tabO.1]; simp [lab9]) (by rw [h.tabO.1]; simp [lab9])) (T 1 h.tab.lt.2 (by rw [h.tabO.2]; simp [lab9]) (by rw [h.tabO.2]; simp [lab9])), ⟨(A 0 h.tab.lt.1).trans h.tabO.1, (A 1 h.tab.lt.2).trans h.tabO.2⟩, h.more.frame (fun b hb hl => T b hb (fun e => by rw [e] at hl; unfold BqL at hl; simp at hl) (fun e => by rw [e] at hl; unfold BqL at hl; simp at hl)) (fun b hb _ => A b hb)⟩⟩
  · rcases e with e | e
    · rw [h.ownL b e]; simp [lab9]
    · rw [e, B.ownP]; simp [lab9]
  · rw [← hw6]
    exact heap_setCell_at hp5 _
  · exact ownsRow_block B.rowP (fun b e => T b (B.rowP.lt b e).2 (by rw [B.ownQ b e]; simp) (by rw [B.ownQ b e]; simp))
  · exact fun b e => (A b (B.rowP.lt b e).2).trans (B.ownQ b e)
  · exact ownsRow_block B.rowK (fun b e => T b (B.rowK.lt b e).2 (by rw [B.ownK b e]; simp) (by rw [B.ownK b e]; simp))
  · exact fun b e => (A b (B.rowK.lt b e).2).trans (B.ownK b e)
  · exact fun q hq => ownsRow_block (B.lists q hq) (fun b e => T b ((B.lists q hq).lt b e).2 (fun e2 => by have := B.ownR q hq b e; rw [e2] at this; simp at this) (fun e2 => by have := B.ownR q hq b e; rw [e2] at this; simp at this))
  · exact fun q hq b e => by rw [A b ((B.lists q hq).lt b e).2]; exact B.ownR q hq b e
  · rw [List.length_append, cellsD_snoc]
    refine ownsRow_kp r5 k6 (fun b e e2 => ?_)
    rcases l5 with l5 | l5
    · exact npL (by rw [← l5, ← e2]; exact e)
    · rw [l5] at e
      injection e with e
      simp at e
      omega
  · intro b e
    rcases l5 with l5 | l5
    · rw [l5] at e
      exact (A b (lL b e)).trans (h.ownL b e)
    · rw [l5] at e
      injection e with e
      simp at e
      unfold ownN
      rw [if_neg (by omega), if_neg (by omega), if_pos (by omega)]
  · intro i hi
    by_cases hd : i < ds.length
    · rw [List.getElem_append_left hd]
      refine ((h.duos i hd).frame (fun b hb hc => ?_) (fun b hb _ => A b hb)).mono (by omega)
      have nz : ∀ l : Lab, l.c ≤ 1 → l ≠ lab9 → own b ≠ l := fun l hl h9 e => by
        rcases hc with hc | hc
        · unfold Cap at hc
          rw [e] at hc
          rcases hc with hc | hc <;> omega
        · exact h9 (e.symm.trans hc)
      exact T b hb (nz _ (by simp) (by simp [lab9])) (nz _ (by simp) (by simp [lab9]))
    · have hi' : i = ds.length := by simp at hi; omega
      subst hi'
      simp only [List.getElem_append_right (Nat.le_refl _), Nat.sub_self, List.getElem_cons_zero]
      have M : ∀ b, b < w4.heap.size → (own4 b).c = 2 * ds.length + 2 ∨ (own4 b).c = 2 * ds.length + 3 ∨ own4 b = lab9 → w6.heap[b]? = w4.heap[b]? ∧ ownN own own4 w.heap.size w4.heap.size (w4.heap.size + 1) b = own4 b := fun b hb hc => by
        have hold : b < w.heap.size → own4 b = lab9 ∧ own b = lab9 := fun hbw => by
          have h4 := o4 b hbw
          have h5 : own4 b = lab9 := by
            rcases hc with e | e | e
            · omega
            · omega
            · exact e
          exact ⟨h5, h4.2 h5⟩
        refine ⟨k46.block b hb (fun e => ?_), ownN_mid hb (fun hbw => by rw [(hold hbw).1, (hold hbw).2])⟩
        rcases e with e | e
        · have := (hold (lL b e)).2
          rw [h.ownL b e] at this; simp [lab9] at this
        · have := (hold (by rw [e]; exact lp)).2
          rw [e, B.ownP] at this; simp [lab9] at this
      exact ⟨s, y, x.frame (fun b hb e => (M b hb (Or.inl e)).1) (fun b hb e => (M b hb (Or.inl e)).2), hy.frame (fun b hb e => (M b hb (Or.inr e)).1) (fun b hb e => (M b hb (Or.inr e)).2), ht, hI, hn⟩

end

end Go.Proofs.YthbdpfccfcceiaaGreatDoor

namespace Go.Proofs.YthbdpfccfcceiaaGreatDoor
open Go.RowKit Go.Maps Go.Lib

section
variable {R : Ending → World → Prop}

set_option maxRecDepth 20000 in
set_option maxHeartbeats 2000000 in
theorem recov_nil (w : World) (p : Nat) (l : Value)
    (hL : Calls Tryz.prog 92 #[l] w (fun r w1 => ∃ X v2, r = .returned (.tuple #[.pointer (some ⟨X, 0, none⟩), v2]) ∧
      Calls Tryz.prog 16 #[v2] w1 (fun r w2 => r = .returned (.tuple #[.pointer none, .int .i64 9]) ∧
        Calls Tryz.prog 93 #[l] w2 (fun r w3 => r = .returned (.tuple #[.pointer none, .int .i64 9]) ∧
          Calls Tryz.prog 94 #[.pointer (some ⟨X, 0, none⟩), l] w3 (fun r w4 => r = .returned (.bool true) ∧ R (.returned (.bool true)) w4))))) :
    Calls Tryz.prog 57 #[.pointer (some ⟨p, 0, none⟩), l] w R := by
  have HL := hid_of hL
  clear hL
  go_enter Tryz.func57, Tryz.ntmps57
  go_wp2_with (first
    | (go_at_call 92; refine HL.out.mono ?_; rintro r w1 ⟨X, v2, rfl, h⟩; have HA := hid_of h; clear h)
    | (go_at_call 16; refine HA.out.mono ?_; rintro r w2 ⟨rfl, h⟩; have HB := hid_of h; clear h)
    | (go_at_call 93; refine HB.out.mono ?_; rintro r w3 ⟨rfl, h⟩; have HC := hid_of h; clear h)
    | (go_at_call 94; refine HC.out.mono ?_; rintro r w4 ⟨rfl, hr⟩)
    | go_in)
  exact hr

set_option maxRecDepth 20000 in
set_option maxHeartbeats 2000000 in
theorem recov_pair (w : World) (p : Nat) (l : Value)
    (hL : Calls Tryz.prog 92 #[l] w (fun r w1 => ∃ X v2, r = .returned (.tuple #[.pointer (some ⟨X, 0, none⟩), v2]) ∧
      Calls Tryz.prog 16 #[v2] w1 (fun r w2 => ∃ px, r = .returned (.tuple #[.pointer (some ⟨px, 0, none⟩), .int .i64 0]) ∧
        Calls Tryz.prog 93 #[l] w2 (fun r w3 => ∃ py, r = .returned (.tuple #[.pointer (some ⟨py, 0, none⟩), .int .i64 0]) ∧
          Calls Tryz.prog 94 #[.pointer (some ⟨X, 0, none⟩), l] w3 (fun r w4 => r = .returned (.bool true) ∧ ∃ vL vP vK bk n cs, w4.heap[p]? = some (.cells (worldC vL vP vK bk) 68 (0, 0)) ∧ w4.ownsRow 0 81 2 vL n cs ∧ n < 1000000 ∧ vL.ownBlock ≠ some p ∧
            ∀ v5 w5, (w4.alloc (.cells #[.pointer (some ⟨px, 0, none⟩), .pointer (some ⟨py, 0, none⟩)] 81)).grownBy w5 vL.ownBlock → (v5.ownBlock = vL.ownBlock ∨ v5.ownBlock = some (w4.alloc (.cells #[.pointer (some ⟨px, 0, none⟩), .pointer (some ⟨py, 0, none⟩)] 81)).heap.size) →
              w5.ownsRow 0 81 2 v5 (n + 1) (cs ++ [.pointer (some ⟨px, 0, none⟩), .pointer (some ⟨py, 0, none⟩)]) → R (.returned (.bool true)) (w5.setCell ⟨p, 0, none⟩ v5)))))) :
    Calls Tryz.prog 57 #[.pointer (some ⟨p, 0, none⟩), l] w R := by
  have HL := hid_of hL
  obtain ⟨i0, hi⟩ := info_parts infoDuo
  have HI := hid_of hi
  clear hL hi
  go_enter Tryz.func57, Tryz.ntmps57
  go_wp2_with (first
    | (go_at_call 92; refine HL.out.mono ?_; rintro r w1 ⟨X, v2, rfl, h⟩; have HA := hid_of h; clear h)
    | (go_at_call 16; refine HA.out.mono ?_; rintro r w2 ⟨px, rfl, h⟩; have HB := hid_of h; clear h)
    | (go_at_call 93; refine HB.out.mono ?_; rintro r w3 ⟨py, rfl, h⟩; have HC := hid_of h; clear h)
    | (go_at_call 94; refine HC.out.mono ?_; rintro r w4 ⟨rfl, vL, vP, vK, bk, n, cs, hp, hrow, hn, hnp, hr⟩; have HP := hid_of hp; have HROW := hid_of hrow; have HN := hid_of hn; have HNP := hid_of hnp; have HR := hid_of hr; have c0 : w4.cell? ⟨p, 0, none⟩ = some vL := cell_of hp 0; clear hp hrow hn hnp hr)
    | (at_builtin; refine wpL_append_keep rfl _ _ 62 rfl 0 81 i0 (.agg #[.pointer none, .pointer none]) 2 16 Tryz.underlying62 HI.out.1 HI.out.2.1 HI.out.2.2.1 HI.out.2.2.2 rfl (by decide) _ _ _ rfl (HROW.out.alloc _) ⟨w4.heap.size, 0, none⟩ 1 1 [.pointer (some ⟨px, 0, none⟩), .pointer (some ⟨py, 0, none⟩)] rfl rfl (two_new w4 _ _ _) (by simp [Value.oneCell']) (by have := HN.out; unfold maxLen; omega) (by have := HN.out; omega) (Nat.zero_le _) (by decide) ?_; intro v5 w5 own5 grow5 loc5 keep5; have hk5 := (Kp.alloc (fun b => vL.ownBlock = some b) w4 (.cells #[.pointer (some ⟨px, 0, none⟩), .pointer (some ⟨py, 0, none⟩)] 81)).trans (Kp.of_grown (S := fun b => vL.ownBlock = some b) grow5 (fun _ h => h)) (fun _ _ h => h); have hp5 := mbs hk5 HP.out HNP.out; have y0 : w5.cell? ⟨p, 0, none⟩ = some vL := cell_of hp5 0; have yf := frozen_of hp5 0; obtain ⟨a5, cap5, rfl, _⟩ := row_len own5; have HF := hid_of (HR.out _ w5 grow5 loc5 own5); clear hk5 hp5 own5 grow5 loc5 keep5)
    | go_in)
  exact HF.out

end

end Go.Proofs.YthbdpfccfcceiaaGreatDoor

namespace Go.Proofs.YthbdpfccfcceiaaGreatDoor
open Go.RowKit Go.Maps Go.Lib

theorem FIn.imp {w : World} {v : Value} {fs : List (List UInt8)} {N N' : Nat → Prop} (h : FIn w v fs N) (hn : ∀ b, N b → N' b) : FIn w v fs N' := by
  obtain ⟨a, cap, e, hl, h⟩ := h
  refine ⟨a, cap, e, hl, fun hne => ?_⟩
  obtain ⟨ga, oa, e2, h1, h2, h3⟩ := h hne
  refine ⟨ga, oa, e2, h1, hn _ h2, fun i f hf => ?_⟩
  obtain ⟨b, n, c, g, h4, h5, h6, h7⟩ := h3 i f hf
  exact ⟨b, n, c, g, h4, h5, hn _ h6, h7⟩

theorem LendR.lentHigh {w : World} {base : Nat} {fs : List (List UInt8)} {X O : Nat} {va : Value} {al ol : List Value} (h : LendR w base fs X O va al ol) {b : Nat} (hb : lentS O al b) : b < w.heap.size := by
  rcases hb with rfl | ⟨j, n, c, hj⟩
  · exact block_lt h.rowO
  · have hall : al.length = fs.length := by simpa using h.rowA.1
    have hl := (List.getElem?_eq_some_iff.1 hj).1
    obtain ⟨g, e, _, h1⟩ := h.at_ j _ fs[j] hj (List.getElem?_eq_getElem (by omega))
    injection e with e _ _
    injection e with e
    injection e with e _ _
    subst e
    exact block_lt h1

/-- The label of what is lent. -/
def lentL : Lab := ⟨1, 0, 0, eb⟩

def ownA (own : Nat → Lab) (c n m b : Nat) : Lab := if b < n then (if (own b).c < c then own b else lentL) else if b < m then lentL else lab9
def ownB (own2 : Nat → Lab) (c m b : Nat) : Lab := if b < m then own2 b else if (own2 b).c = c then own2 b else lentL

theorem ownA_c {own : Nat → Lab} {c n m b : Nat} (hc : 1 < c) : (ownA own c n m b).c < c := by
  unfold ownA
  split
  · split
    · assumption
    · exact hc
  · split
    · exact hc
    · show 0 < c; omega

theorem ownA_lent {own : Nat → Lab} {c n m b : Nat} (h1 : n ≤ b) (h2 : b < m) : ownA own c n m b = lentL := by
  unfold ownA
  rw [if_neg (by omega), if_pos h2]

theorem ownA_nine {own : Nat → Lab} {c n m b : Nat} (h1 : b < n) (h : ownA own c n m b = lab9) : own b = lab9 := by
  unfold ownA at h
  rw [if_pos h1] at h
  split at h
  · exact h
  · simp [lentL, lab9] at h

section
variable {own : Nat → Lab} {w : World} {p nt : Nat} {ds : List (Nat × Nat)} {vL vP vK : Value} {bk : BO}
variable {R : Ending → World → Prop}

theorem side_new (mu : Nat) : Side (newXS mu) newYS := ⟨tied_new mu, yi_new, rfl⟩

theorem i_recovers (h : Inv own w p ds vL vP vK bk nt) (hnt : nt < 1000000) (l : Value) (fs : List (List UInt8)) (hv : FIn w l fs (fun b => b < w.heap.size))
    (hK : ∀ w' own' ds' vL', Kp (fun b => own b ≠ lab9) w w' → (∀ b, b < w.heap.size → own' b = own b) → ((ds' = ds ∧ DamagedY fs newYS) ∨ ∃ q, ds' = ds ++ [q]) → Inv own' w' p ds' vL' vP vK bk (nt + 1) → R (.returned (.bool true)) w') :
    Calls Tryz.prog 57 #[.pointer (some ⟨p, 0, none⟩), l] w R := by
  by_cases hD : DamagedY fs newYS
  · refine recov_nil w p l (lend_any l fs hv (fun w1 X O va al ol v2 hL k1 hf => ⟨X, v2, rfl, ?_⟩))
    refine x_recover (own := fun _ => lab9) (c := 1) (h.tab.kept k1) (fun _ _ => by simp [lab9]) v2 fs (hf.imp (fun _ e => e.2)) (fun _ w2 k2 => ⟨rfl, ?_⟩) (fun w2 own2 s' k2 a2 tn x2 ok2 tx2 bk2 beg2 hrec => ?_)
    · have k12 := k1.trans k2 (fun _ _ e => e)
      refine d_recover (own := fun _ => lab9) (c := 1) (by omega) (fun _ _ => by simp [lab9]) l fs ((hv.kp k12 (fun _ _ e => e)).imp (fun b e => Nat.lt_of_lt_of_le e k12.size)) (fun _ w3 k3 => ⟨rfl, ?_⟩) (fun w3 own3 y' k3 a3 y3 yi' no' lo' hrec => ?_)
      · have k13 := k2.trans k3 (fun _ _ e => e)
        have k03 := k1.trans k13 (fun _ _ e => e)
        have hL3 := hL.kp k13 (fun _ _ _ e => e)
        refine clean_any hL3 (hv.kp k03 (fun _ _ e => e)) (fun w4 k4 => ⟨rfl, ?_⟩)
        have k04 : Kp (fun _ => False) w w4 := k03.trans k4 (fun b hb e => by have := hL3.lentLow e; omega)
        exact hK w4 own ds vL (kpF k04) (fun _ _ => rfl) (Or.inl ⟨rfl, hD⟩) ((h.same k04 (fun _ _ => rfl)).mono (by omega))
      · exact (not_both hrec hD).elim
    · obtain ⟨y', hy, _⟩ := hrec.doc (side_new _)
      exact (not_both hy hD).elim
  · refine recov_pair w p l (lend_any l fs hv (fun w1 X O va al ol v2 hL k1 hf => ⟨X, v2, rfl, ?_⟩))
    refine x_recover (own := ownA own (2 * ds.length + 2) w.heap.size w1.heap.size) (c := 2 * ds.length + 2) (h.tab.kept k1) (fun b _ => by have := ownA_c (own := own) (c := 2 * ds.length + 2) (n := w.heap.size) (m := w1.heap.size) (b := b) (by omega); omega) v2 fs (hf.imp (fun _ e => e.2)) (fun hx => ?_) (fun w2 own2 s' k2 a2 tn x2 ok2 tx2 bk2 beg2 hrec => ⟨_, rfl, ?_⟩)
    · exact absurd (hx.doc (side_new _)) hD
    · have k12 := k1.trans k2 (fun _ _ e => e)
      have s1 := k1.size
      have s2 := k2.size
      refine d_recover (own := ownB own2 (2 * ds.length + 2) w1.heap.size) (c := 2 * ds.length + 3) (by omega) (fun b _ => ?_) l fs ((hv.kp k12 (fun _ _ e => e)).imp (fun b e => Nat.lt_of_lt_of_le e k12.size)) (fun hx => absurd hx hD) (fun w3 own3 y' k3 a3 y3 yi' no' lo' hrecY => ⟨_, rfl, ?_⟩)
      · unfold ownB
        split
        · rename_i q
          rw [a2 b q]
          have := ownA_c (own := own) (c := 2 * ds.length + 2) (n := w.heap.size) (m := w1.heap.size) (b := b) (by omega)
          omega
        · split
          · rename_i q; omega
          · show 1 ≠ _; omega
      · have k13 := k2.trans k3 (fun _ _ e => e)
        have k03 := k1.trans k13 (fun _ _ e => e)
        have hL3 := hL.kp k13 (fun _ _ _ e => e)
        refine clean_any hL3 (hv.kp k03 (fun _ _ e => e)) (fun w4 k4 => ⟨rfl, ?_⟩)
        have k04 : Kp (fun _ => False) w w4 := k03.trans k4 (fun b hb e => by have := hL3.lentLow e; omega)
        have lp := block_lt h.book.world
        have npL : vL.ownBlock ≠ some p := fun e => by
          have := h.ownL p e
          rw [h.book.ownP] at this; simp at this
        obtain ⟨y2, hr2, hs2⟩ := hrec.doc (side_new _)
        have ey := hrecY.uniq hr2
        subst ey
        have low3 : ∀ b, b < w1.heap.size → own3 b = ownA own (2 * ds.length + 2) w.heap.size w1.heap.size b := fun b hb => by
          rw [a3 b (by omega)]
          unfold ownB
          rw [if_pos hb, a2 b hb]
        have lent3 : ∀ b, lentS O al b → own3 b = lentL := fun b e => by
          have h1 := hL.lentLow e
          have h2 := hL.lentHigh e
          rw [low3 b h2, ownA_lent h1 h2]
        have x3 : XE own3 (2 * ds.length + 2) w3 (w1.heap.size + 5) (synced s') := x2.frame (fun b hb _ => k3.block b hb (fun e => e)) (fun b hb e => by
          rw [a3 b hb]
          unfold ownB
          by_cases q : b < w1.heap.size
          · rw [if_pos q]
          · rw [if_neg q, if_pos e])
        have x4 : XE own3 (2 * ds.length + 2) w4 (w1.heap.size + 5) (synced s') := x3.frame (fun b hb e => k4.block b hb (fun e2 => by
          rw [lent3 b e2] at e
          have e : 1 = 2 * ds.length + 2 := e
          omega)) (fun _ _ _ => rfl)
        have y4 : YE own3 (2 * ds.length + 3) w4 w2.heap.size (syncY y') := y3.frame (fun b hb e => k4.block b hb (fun e2 => by
          rw [lent3 b e2] at e
          rcases e with e | e
          · have e : 1 = 2 * ds.length + 3 := e
            omega
          · simp [lentL, lab9] at e)) (fun _ _ _ => rfl)
        refine ⟨vL, vP, vK, bk, ds.length, cellsD ds, (k04.block p lp (fun e => e)).trans h.book.world, ownsRow_kp h.rowL k04 (fun _ _ e => e), by have := h.nds; omega, npL, fun v5 w5 g5 l5 r5 => ?_⟩
        obtain ⟨kf, hf⟩ := h.pairs k04 x4 y4 (fun b hb => by
          rw [low3 b (by omega)]
          exact ⟨ownA_c (by omega), fun e => ownA_nine hb e⟩) hs2.tied.synced yi'.synced (by show y'.txs.length ≤ nt + 1; rw [no']; simp) g5 l5 r5
        exact hK _ _ _ _ kf (fun b hb => ownN_old hb) (Or.inr ⟨_, rfl⟩) hf

end

end Go.Proofs.YthbdpfccfcceiaaGreatDoor

namespace Go.Proofs.YthbdpfccfcceiaaGreatDoor

/-- The bodies of commits, of moments one behind the other. -/
def lgF : Nat → List (List W3) → List (List UInt8)
  | _, [] => []
  | t, ws :: r => bodyC t ws :: lgF (t + 1) r

theorem lgF_length : ∀ (es : List (List W3)) (t : Nat), (lgF t es).length = es.length
  | [], _ => rfl
  | _ :: r, t => by simp [lgF, lgF_length r (t + 1)]
theorem lgF_drop : ∀ (n t : Nat) (es : List (List W3)), (lgF t es).drop n = lgF (t + n) (es.drop n)
  | 0, _, _ => by simp
  | n + 1, t, [] => by simp [lgF]
  | n + 1, t, ws :: r => by
    have := lgF_drop n (t + 1) r
    simp only [lgF, List.drop_succ_cons]
    rw [this, show t + 1 + n = t + (n + 1) by omega]
theorem lgF_take : ∀ (n t : Nat) (es : List (List W3)), (lgF t es).take n = lgF t (es.take n)
  | 0, _, _ => by simp [lgF]
  | n + 1, t, [] => by simp [lgF]
  | n + 1, t, ws :: r => by
    have := lgF_take n (t + 1) r
    simp only [lgF, List.take_succ_cons]
    rw [this]
theorem lgF_snoc : ∀ (es : List (List W3)) (t : Nat) (ws : List W3), lgF t (es ++ [ws]) = lgF t es ++ [bodyC (t + es.length) ws]
  | [], t, ws => by simp [lgF]
  | x :: r, t, ws => by
    have := lgF_snoc r (t + 1) ws
    simp only [List.cons_append, lgF]
    rw [this]
    simp only [List.length_cons]
    rw [show t + 1 + r.length = t + (r.length + 1) by omega]

/-- A commit's writes that may be. -/
def ComOk (ws : List W3) : Prop := (ws.map Prod.fst).Pairwise blt ∧ 1 ≤ ws.length ∧ ws.length ≤ 10 ∧ ∀ x ∈ ws, okW x

theorem body_says (t : Nat) (ws : List W3) (h : ComOk ws) (ht : t < 4294967296) : (bodyS (bodyC t ws)).1 = 67 ∧ (bodyS (bodyC t ws)).2.1 = t ∧ bodyW (bodyC t ws) = (ws, ⟨[], false⟩) := by
  have h1 := RS.one_cons 67 (fourB t ++ (u8 ws.length :: ws.flatMap writeB))
  have h2 := RS.four_app t ht (u8 ws.length :: ws.flatMap writeB)
  have h3 := RS.one_cons (u8 ws.length) (ws.flatMap writeB)
  have e : (u8 ws.length).toNat = ws.length := by have := h.2.2.1; rw [u8_toNat]; omega
  rw [e] at h3
  have h4 := RS.writes_app ws h.2.2.2 [] ws.length (Nat.le_refl _)
  rw [List.append_nil] at h4
  have hS : bodyS (bodyC t ws) = (67, t, ⟨u8 ws.length :: ws.flatMap writeB, false⟩) := by
    unfold bodyS
    rw [show bodyC t ws = 67 :: (fourB t ++ (u8 ws.length :: ws.flatMap writeB)) from rfl, h1]
    dsimp only
    rw [h2]
    rfl
  refine ⟨by rw [hS], by rw [hS], ?_⟩
  unfold bodyW
  rw [hS]
  dsimp only
  rw [h3]
  dsimp only
  rw [h4]
  simp

theorem rec_of_body (t : Nat) (ws : List W3) (h : ComOk ws) (ht : t < 4294967296) : RecIs (bodyC t ws) 67 t ws := by
  obtain ⟨h1, h2, h3⟩ := body_says t ws h ht
  exact Or.inr ⟨rfl, h1, h2.symm, by rw [h3], by rw [h3]; rfl, h.1, h.2.1, h.2.2.1⟩

theorem rec_unique {body : List UInt8} {k t k' t' : Nat} {ws ws' : List W3} (h : RecIs body k t ws) (h' : RecIs body k' t' ws') : k = k' ∧ t = t' ∧ ws = ws' := by
  rcases h with ⟨a1, a2, a3, a4, _⟩ | ⟨a1, a2, a3, a4, _⟩
  · rcases h' with ⟨b1, b2, b3, b4, _⟩ | ⟨b1, b2, b3, b4, _⟩
    · exact ⟨a1.trans b1.symm, a3.trans b3.symm, a4.trans b4.symm⟩
    · omega
  · rcases h' with ⟨b1, b2, b3, b4, _⟩ | ⟨b1, b2, b3, b4, _⟩
    · omega
    · exact ⟨a1.trans b1.symm, a3.trans b3.symm, a4.trans b4.symm⟩

theorem body_len (t : Nat) {ws : List W3} (h : ComOk ws) : (bodyC t ws).length ≤ 400 := bodyC_le h.2.2.2 h.2.2.1

theorem lenB_frame (b : List UInt8) (hb : b.length ≤ 400) (r : List UInt8) : lenB (frameB b ++ r) = b.length := by
  unfold lenB frameB sealB
  simp only [List.cons_append, List.getD_cons_zero, List.getD_cons_succ, u8_toNat]
  omega

theorem lenB_take {bs : List UInt8} {m : Nat} (h : 2 ≤ m) : lenB (bs.take m) = lenB bs := by
  unfold lenB
  have e : ∀ j, j < 2 → (bs.take m).getD j 0 = bs.getD j 0 := fun j hj => by
    simp only [List.getD, List.getElem?_take]
    rw [if_pos (by omega)]
  rw [e 0 (by omega), e 1 (by omega)]

/-- Of the beginning of frames, what a whole first one is. -/
theorem unseal_frames {t : Nat} {bl : List (List W3)} {m : Nat} {c r : List UInt8} (hb : ∀ ws ∈ bl, ComOk ws)
    (h : unsealB (((lgF t bl).flatMap frameB).take m) (2 + lenB (((lgF t bl).flatMap frameB).take m)) = some (c, r)) :
    ∃ ws bl', bl = ws :: bl' ∧ (frameB (bodyC t ws)).length ≤ m ∧ c.drop 2 = bodyC t ws ∧ r = ((lgF (t + 1) bl').flatMap frameB).take (m - (frameB (bodyC t ws)).length) := by
  have hl := (unseal_length h).1
  have hm : 2 ≤ m := by
    have := List.length_take_le m ((lgF t bl).flatMap frameB)
    omega
  cases bl with
  | nil => simp [lgF] at hl
  | cons ws bl' =>
    have hw := hb ws (by simp)
    have hlen := body_len t hw
    have e0 : (lgF t (ws :: bl')).flatMap frameB = frameB (bodyC t ws) ++ (lgF (t + 1) bl').flatMap frameB := by simp [lgF]
    rw [e0] at h hl
    rw [lenB_take hm, lenB_frame _ hlen] at h hl
    have hfl := frameB_length (bodyC t ws)
    have hfm : (frameB (bodyC t ws)).length ≤ m := by
      have := List.length_take_le m (frameB (bodyC t ws) ++ (lgF (t + 1) bl').flatMap frameB)
      omega
    refine ⟨ws, bl', rfl, hfm, ?_⟩
    rw [List.take_append, List.take_of_length_le hfm] at h
    have hu := unseal_seal (u8 (bodyC t ws).length :: u8 ((bodyC t ws).length / 256) :: bodyC t ws) (((lgF (t + 1) bl').flatMap frameB).take (m - (frameB (bodyC t ws)).length))
    rw [show (u8 (bodyC t ws).length :: u8 ((bodyC t ws).length / 256) :: bodyC t ws).length = 2 + (bodyC t ws).length by simp; omega] at hu
    have h' : unsealB (sealB (u8 (bodyC t ws).length :: u8 ((bodyC t ws).length / 256) :: bodyC t ws) ++ ((lgF (t + 1) bl').flatMap frameB).take (m - (frameB (bodyC t ws)).length)) (2 + (bodyC t ws).length) = some (c, r) := h
    rw [hu] at h'
    injection h' with h'
    injection h' with h1 h2
    exact ⟨by rw [← h1]; rfl, h2.symm⟩

theorem cut_of_frame {t : Nat} {ws : List W3} (h : ComOk ws) (ht : t < 4294967296) (r : List UInt8) : CutIs (frameB (bodyC t ws) ++ r) 67 t ws r := by
  have hlen := body_len t h
  have hu := unseal_seal (u8 (bodyC t ws).length :: u8 ((bodyC t ws).length / 256) :: bodyC t ws) r
  rw [show (u8 (bodyC t ws).length :: u8 ((bodyC t ws).length / 256) :: bodyC t ws).length = 2 + (bodyC t ws).length by simp; omega] at hu
  refine ⟨by rw [List.length_append, frameB_length]; omega, u8 (bodyC t ws).length :: u8 ((bodyC t ws).length / 256) :: bodyC t ws, ?_, rec_of_body t ws h ht⟩
  rw [lenB_frame _ hlen]
  exact hu

def RecV.t3 (r : RecV) : Nat × Nat × List W3 := (r.k, r.t, r.ws)
def recsT : Nat → List (List W3) → List (Nat × Nat × List W3)
  | _, [] => []
  | t, ws :: r => (67, t, ws) :: recsT (t + 1) r

/-- What may be read of the beginning of frames. -/
theorem reads_frames : ∀ (l : List RecV) (t : Nat) (bl : List (List W3)) (m : Nat) (rest : List UInt8), (∀ ws ∈ bl, ComOk ws) → t + bl.length < 4294967296 → ReadsAs (((lgF t bl).flatMap frameB).take m) l rest →
    l.length ≤ bl.length ∧ l.map RecV.t3 = recsT t (bl.take l.length) ∧ (((lgF t (bl.take l.length)).flatMap frameB).length ≤ m) ∧ rest = ((lgF (t + l.length) (bl.drop l.length)).flatMap frameB).take (m - ((lgF t (bl.take l.length)).flatMap frameB).length)
  | [], t, bl, m, rest, _, _, h => by
    have h : ((lgF t bl).flatMap frameB).take m = rest := h
    refine ⟨Nat.zero_le _, by simp [recsT], by simp [lgF], ?_⟩
    simp [lgF, h]
  | r :: l, t, bl, m, rest, hb, ht, h => by
    obtain ⟨q, ⟨_, c, hu, hr⟩, h2⟩ := h
    obtain ⟨ws, bl', rfl, hfm, hc, hq⟩ := unseal_frames hb hu
    rw [hc] at hr
    have hw := hb ws (by simp)
    simp only [List.length_cons] at ht
    obtain ⟨e1, e2, e3⟩ := rec_unique hr (rec_of_body t ws hw (by omega))
    subst hq
    obtain ⟨i1, i2, i3, i4⟩ := reads_frames l (t + 1) bl' (m - (frameB (bodyC t ws)).length) rest (fun x hx => hb x (by simp [hx])) (by omega) h2
    have e0 : ((lgF t ((ws :: bl').take (l.length + 1))).flatMap frameB).length = (frameB (bodyC t ws)).length + ((lgF (t + 1) (bl'.take l.length)).flatMap frameB).length := by simp [lgF]
    refine ⟨by simp only [List.length_cons]; omega, ?_, ?_, ?_⟩
    · simp only [List.map_cons, List.length_cons, List.take_succ_cons, recsT]
      rw [i2]
      unfold RecV.t3
      rw [e1, e2, e3]
    · simp only [List.length_cons]
      rw [e0]; omega
    · simp only [List.length_cons, List.drop_succ_cons]
      rw [e0, i4, show t + 1 + l.length = t + (l.length + 1) by omega]
      congr 1
      omega

end Go.Proofs.YthbdpfccfcceiaaGreatDoor
