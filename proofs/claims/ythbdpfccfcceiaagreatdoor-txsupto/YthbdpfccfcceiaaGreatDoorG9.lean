/-
  A whole script.
-/
import Derived.Test.YthbdpfccfcceiaaGreatDoorT7G8
namespace Go.Proofs.YthbdpfccfcceiaaGreatDoor
open Go.RowKit

def own0 (p b : Nat) : Lab := if b = p then ⟨0, 0, 0, eb⟩ else lab9

theorem inv_start (w : World) (hT : Tab w) : Inv (own0 w.heap.size) (w.alloc (.cells (worldC (.slice none 0 0) (.slice none 0 0) (.slice none 0 0)) 68)) w.heap.size [] (.slice none 0 0) (.slice none 0 0) (.slice none 0 0) [] 0 := by
  refine ⟨⟨by simp [own0], heap_alloc_new w _, World.ownsRow_nil _ _ _ _, ?_, World.ownsRow_nil _ _ _ _, ?_, ⟨0, rfl⟩, ?_, ?_, ?_⟩, World.ownsRow_nil _ _ _ _, ?_, ?_, Nat.le_refl _, Nat.le_refl _, hT.kept (Kp.alloc _ _ _), by have := hT.lt.1; have h : ¬ 0 = w.heap.size := (by omega); simp [own0, h], by have := hT.lt.2; have h : ¬ 1 = w.heap.size := (by omega); simp [own0, h]⟩
  · intro b e; cases e
  · intro b e; cases e
  · intro q hq; cases hq
  · intro q hq; cases hq
  · intro q hq; cases hq
  · intro b e; cases e
  · intro i hi; exact absurd hi (by simp)

/-- A script as it comes in. -/
structure ScrIn (w : World) (v : Value) (n : Nat) (f : Nat → S8) : Prop where
  form : ∃ av cap, v = .slice av n cap ∧ (0 < n → ∃ g off, av = some ⟨g, off, none⟩ ∧ Scr w g off n f)

section
variable {w : World} {R : Ending → World → Prop}

/-- How it stands between the steps. -/
def GoAt (w wr : World) (ds : List (Nat × Nat)) (vL : Value) (nt : Nat) : Prop :=
  ∃ own vP vK bk, Inv own wr w.heap.size ds vL vP vK bk nt ∧ 0 < ds.length ∧ Kp (fun _ => False) w wr ∧ ∀ b, b < w.heap.size → own b = lab9

theorem GoAt.next {wr w2 : World} {ds : List (Nat × Nat)} {vL : Value} {nt : Nat} {own own2 : Nat → Lab} {vP vK : Value} {bk : List (Value × Nat × Int)} (hk : Kp (fun _ => False) w wr) (ho : ∀ b, b < w.heap.size → own b = lab9)
    (k2 : Kp (fun b => own b ≠ lab9) wr w2) (a2 : ∀ b, b < wr.heap.size → own2 b = own b) (I : Inv own2 w2 w.heap.size ds vL vP vK bk nt) (hd : 0 < ds.length) : GoAt w w2 ds vL nt :=
  ⟨own2, vP, vK, bk, I, hd, hk.trans k2 (fun b hb e => e (ho b hb)), fun b hb => (a2 b (Nat.lt_of_lt_of_le hb hk.size)).trans (ho b hb)⟩

theorem GoAt.mono {wr : World} {ds : List (Nat × Nat)} {vL : Value} {nt nt' : Nat} (h : GoAt w wr ds vL nt) (hn : nt ≤ nt') : GoAt w wr ds vL nt' := by
  obtain ⟨own, vP, vK, bk, I, r⟩ := h
  exact ⟨own, vP, vK, bk, I.mono hn, r⟩

theorem go_step {wr : World} {ds : List (Nat × Nat)} {vL : Value} {nt : Nat} (h : GoAt w wr ds vL nt) (hnt : nt < 1000000) (kind e a b : Int) (s t : ByteArray) (vl vm : Value) (hx : (⟨kind, e, a, b, s, t, vl, vm⟩ : S8).ok) (h9 : kind ≤ 14)
    (hK : ∀ w2 ds2 vL2, GoAt w w2 ds2 vL2 (nt + 1) → R (.returned (.bool true)) w2) :
    Calls Tryz.prog 31 #[.pointer (some ⟨w.heap.size, 0, none⟩), .agg #[.int .i64 kind, .int .i64 e, .int .i64 a, .int .i64 b, .string s, .string t, vl, vm]] wr R := by
  obtain ⟨own, vP, vK, bk, I, hd, hk, ho⟩ := h
  exact step_any I hnt kind e a b s t vl vm hx h9 (Or.inr hd) (fun w2 own2 ds2 vL2 vP2 vK2 bk2 k2 a2 I2 hd2 => hK w2 ds2 vL2 (GoAt.next hk ho k2 a2 I2 hd2))

theorem go_now {wr : World} {ds : List (Nat × Nat)} {vL : Value} {nt : Nat} (h : GoAt w wr ds vL nt) (hnt : nt < 1000000) (e : Int) (he : -9223372036854775808 ≤ e ∧ e ≤ 9223372036854775807)
    (hK : ∀ w2, GoAt w w2 ds vL (nt + 1) → R (.returned (.bool true)) w2) :
    Calls Tryz.prog 31 #[.pointer (some ⟨w.heap.size, 0, none⟩), .agg #[.int .i64 9, .int .i64 e, .int .i64 0, .int .i64 0, .string ⟨#[]⟩, .string ⟨#[]⟩, .slice none 0 0, .slice none 0 0]] wr R := by
  obtain ⟨own, vP, vK, bk, I, hd, hk, ho⟩ := h
  exact step_9 I hd hnt e 0 0 he (by omega) ⟨#[]⟩ ⟨#[]⟩ (by decide) (by decide) _ _ (fun w2 own2 vP2 vK2 bk2 k2 a2 I2 => hK w2 (GoAt.next hk ho k2 a2 I2 hd))

theorem go_ask {wr : World} {ds : List (Nat × Nat)} {vL : Value} {nt : Nat} (h : GoAt w wr ds vL nt) (hnt : nt < 1000000) (kind e a : Int) (hk : 10 ≤ kind ∧ kind ≤ 14) (he : -9223372036854775808 ≤ e ∧ e ≤ 9223372036854775807) (ha : -9223372036854775808 ≤ a ∧ a ≤ 9223372036854775807)
    (hK : ∀ w2, GoAt w w2 ds vL (nt + 1) → R (.returned (.bool true)) w2) :
    Calls Tryz.prog 31 #[.pointer (some ⟨w.heap.size, 0, none⟩), .agg #[.int .i64 kind, .int .i64 e, .int .i64 a, .int .i64 0, .string ⟨#[]⟩, .string ⟨#[126]⟩, .slice none 0 0, .slice none 0 0]] wr R := by
  obtain ⟨own, vP, vK, bk, I, hd, hk', ho⟩ := h
  exact step_past I hd hnt kind e a 0 hk he ha ⟨#[]⟩ ⟨#[126]⟩ (by decide) _ _ (fun w2 own2 vP2 vK2 bk2 k2 a2 I2 => hK w2 (GoAt.next hk' ho k2 a2 I2 hd))

theorem go_kept {wr : World} {ds : List (Nat × Nat)} {vL : Value} {nt : Nat} (h : GoAt w wr ds vL nt) (hnt : nt < 1000000)
    (hK : ∀ w2, GoAt w w2 ds vL nt → R (.returned (.bool true)) w2) :
    Calls Tryz.prog 32 #[.pointer (some ⟨w.heap.size, 3, none⟩)] wr R := by
  obtain ⟨own, vP, vK, bk, I, hd, hk, ho⟩ := h
  exact inv_kept I hnt (fun w2 k2 I2 => hK w2 ⟨own, vP, vK, bk, I2, hd, hk.trans k2 (fun _ _ h => h), ho⟩)

/-- What the law itself reads of its world. -/
theorem GoAt.reads {wr : World} {ds : List (Nat × Nat)} {vL : Value} {nt : Nat} (h : GoAt w wr ds vL nt) : ∃ g cap, vL = .slice (some ⟨g, 0, none⟩) ds.length cap ∧ ds.length ≤ cap ∧ wr.cell? ⟨w.heap.size, 0, none⟩ = some vL ∧ wr.cell? ⟨w.heap.size, 1, none⟩ = some (.slice none 0 0) ∧ ds.length ≤ nt ∧ Kp (fun _ => False) w wr ∧
    ∀ i (hi : i < ds.length), ∃ now, wr.cell? ⟨g, i * 2 + 1, none⟩ = some (.pointer (some ⟨(ds[i]).2, 0, none⟩)) ∧ wr.cell? ⟨(ds[i]).2, 2, none⟩ = some (.int .i64 now) ∧ 0 ≤ now ∧ now ≤ 2000 := by
  obtain ⟨own, vP, vK, bk, I, hd, hk, ho⟩ := h
  obtain ⟨g, cap, hv, hc, _, hcells⟩ := duos_row I.rowL hd
  refine ⟨g, cap, hv, hc, cell_of I.book.world 0, cell_of I.book.world 1, I.nds, hk, fun i hi => ?_⟩
  obtain ⟨s, y, _, ⟨vL', vT, vG, sv, lg, Y, _⟩, _, hy, _⟩ := I.duos i hi
  exact ⟨y.now, (hcells i hi).2, cell_of Y.store 2, hy.now.1, hy.now.2⟩

set_option maxRecDepth 20000 in
set_option maxHeartbeats 2000000 in
theorem plays_any (last : Int) (hlast : 9 ≤ last ∧ last ≤ 14) (v : Value) (n : Nat) (f : Nat → S8) (hv : ScrIn w v n f) (hT : Tab w) (hn : n < 120000) (hR : ∀ w', Kp (fun _ => False) w w' → R (.returned (.bool true)) w') :
    Calls Tryz.prog 10 #[v, .int .i64 last] w R := by
  obtain ⟨av, cap, rfl, hscr⟩ := hv.form
  have HSC := hid_of hscr
  have HR := hid_of hR
  have HT := hid_of hT
  have hn' : (n : Int) < 120000 := by omega
  clear hv hscr hR hT
  go_enter Tryz.func10, Tryz.ntmps10
  go_wp2_with (first
    | (go_at_call 30; refine begun_any last hlast (inv_start w HT.out) (by decide) (fun w1 own1 ds1 vL1 vP1 vK1 bk1 k1 a1 I1 hd1 => ?_))
    | fail)
  have HG1 : Hid (GoAt w w1 ds1 vL1 14) := by
    refine GoAt.next (wr := w.alloc (.cells (worldC (.slice none 0 0) (.slice none 0 0) (.slice none 0 0)) 68)) (own := own0 w.heap.size) (Kp.alloc _ _ _) (fun b hb => ?_) k1 a1 I1 hd1
    have : b ≠ w.heap.size := by omega
    simp [own0, this]
  clear k1 a1 I1 hd1
  go_loopw [6, 7] (fun v6 v7 wr => ∃ i : Nat, i ≤ n ∧ v6 = .bool true ∧ v7 = .int .i64 i ∧ ∃ ds vL, GoAt w wr ds vL (14 + i)) (fun _ v7 _ => n - (intOf v7).toNat)
  case atStart => exact ⟨0, Nat.zero_le _, rfl, rfl, ds1, vL1, HG1.out⟩
  case round =>
    obtain ⟨i, hile, rfl, rfl, ds, vL, hG⟩ := hrel
    by_cases hin : i < n
    · have hin' : (i : Int) < n := by omega
      obtain ⟨g, off, rfl, hs⟩ := HSC.out (by omega)
      obtain ⟨_, _, _, _, _, _, _, hk, _⟩ := hG.reads
      obtain ⟨kind, e, a, b, s, t, vl, vm, _, hok, q0, q1, q2, q3, q4, q5, q6, q7⟩ := (hs.kept hk (fun h => h)).at i hin
      have HOK := hid_of hok
      have HG := hid_of hG
      by_cases hk9 : kind ≤ last
      · have hk9' : ¬ last < kind := by omega
        have HK9 := hid_of (show kind ≤ 14 by omega)
        clear hs hok hG hk hin hile hk9
        go_wp2_with (first
          | (go_at_call 31; refine go_step HG.out ?_ kind e a b s t vl vm HOK.out HK9.out (fun w2 ds2 vL2 hG2 => ?_); (omega); have HG2 := hid_of hG2; clear hG2)
          | (go_at_call 32; refine go_kept HG2.out ?_ (fun w3 hG3 => ?_); (omega))
          | fail)
        go_roundw
        case rel => exact ⟨i + 1, by omega, rfl, by go_num, ds2, vL2, hG3⟩
        case measure => simp [intOf]; omega
      · have hk9' : last < kind := by omega
        clear hs hok hG hk hin hile hk9
        go_wp2
        go_roundw
        case rel =>
          obtain ⟨own, vP, vK, bk, I, r⟩ := HG.out
          exact ⟨i + 1, by omega, rfl, by go_num, ds, vL, own, vP, vK, bk, I.mono (by omega), r⟩
        case measure => simp [intOf]; omega
    · have hie : i = n := by omega
      subst hie
      have HG := hid_of hG
      clear hG hile hin
      go_wp2
      go_loopw [6, 9] (fun v6 v9 wq => ∃ j : Nat, j ≤ ds.length ∧ v6 = .bool true ∧ v9 = .int .i64 j ∧ GoAt w wq ds vL (14 + i + 5 * j)) (fun _ v9 _ => ds.length - (intOf v9).toNat)
      case atStart => exact ⟨0, Nat.zero_le _, rfl, rfl, HG.out⟩
      case round =>
        obtain ⟨j, hjle, rfl, rfl, hG⟩ := hrel
        obtain ⟨g, cap, hvL, hcap, c0, c1, _, _, hreads⟩ := hG.reads
        obtain ⟨_, _, _, _, _, _, hnd, _, _⟩ := HG.out.reads
        rw [hvL] at c0
        have hd' : (ds.length : Int) < 1000000 := by omega
        have HGJ := hid_of hG
        by_cases hjn : j < ds.length
        · have hjn' : (j : Int) < ds.length := by omega
          have HHD := hid_of hnd
          have HJN := hid_of hjn
          clear hG hreads hjle hnd
          go_wp2_with (first
            | (go_at_call 31; refine go_now HGJ.out ?_ (j : Int) ?_ (fun w2 hG2 => ?_); (have := HHD.out; omega); (exact ⟨by omega, by omega⟩); obtain ⟨g2, cap2, hvL2, _, y0, _, _, _, hr2⟩ := hG2.reads; (rw [hvL2] at y0); obtain ⟨now, y1, y2, now1, now2⟩ := hr2 j HJN.out; have HG2 := hid_of hG2; clear hG2 hr2 hvL2)
            | fail)
          clear y0 y1 y2
          go_loopw [6, 11] (fun v6 v11 wz => ∃ q : Nat, q ≤ 4 ∧ v6 = .bool true ∧ v11 = .int .i64 (11 + q) ∧ GoAt w wz ds vL (14 + i + 5 * j + 1 + q)) (fun _ v11 _ => (20 - intOf v11).toNat)
          case atStart => exact ⟨0, by omega, rfl, rfl, HG2.out⟩
          case round =>
            obtain ⟨q, hq4, rfl, rfl, hGq⟩ := hrel
            have HGQ := hid_of hGq
            clear hGq
            rcases (by omega : q = 0 ∨ q = 1 ∨ q = 2 ∨ q = 3 ∨ q = 4) with rfl | rfl | rfl | rfl | rfl
            · rw [show (11 : Int) + ((0 : Nat) : Int) = 11 from rfl]
              by_cases hkl : (11 : Int) ≤ last
              · have dk : decide ((11 : Int) ≤ last) = true := by simpa using hkl
                clear hkl
                go_wp2_with (first
                  | (go_at_call 31; refine go_ask HGQ.out ?_ 11 (j : Int) now (by omega) ?_ ?_ (fun w3 hG3 => ?_); (have := HHD.out; omega); (exact ⟨by omega, by omega⟩); (exact ⟨by omega, by omega⟩); have HG3 := hid_of hG3; clear hG3)
                  | fail)
                go_roundw
                case rel => exact ⟨0 + 1, by omega, rfl, by go_num, HG3.out⟩
                case measure => simp [intOf] <;> omega
              · have dk : decide ((11 : Int) ≤ last) = false := by simpa using hkl
                clear hkl
                go_wp2
                go_roundw
                case rel => exact ⟨j + 1, by omega, rfl, by go_num, HGQ.out.mono (by omega)⟩
                case measure => simp [intOf]; omega
            · rw [show (11 : Int) + ((1 : Nat) : Int) = 12 from rfl]
              by_cases hkl : (12 : Int) ≤ last
              · have dk : decide ((12 : Int) ≤ last) = true := by simpa using hkl
                clear hkl
                go_wp2
                go_roundw
                case rel => exact ⟨1 + 1, by omega, rfl, by go_num, HGQ.out.mono (by omega)⟩
                case measure => simp [intOf] <;> omega
              · have dk : decide ((12 : Int) ≤ last) = false := by simpa using hkl
                clear hkl
                go_wp2
                go_roundw
                case rel => exact ⟨j + 1, by omega, rfl, by go_num, HGQ.out.mono (by omega)⟩
                case measure => simp [intOf]; omega
            · rw [show (11 : Int) + ((2 : Nat) : Int) = 13 from rfl]
              by_cases hkl : (13 : Int) ≤ last
              · have dk : decide ((13 : Int) ≤ last) = true := by simpa using hkl
                clear hkl
                go_wp2
                go_roundw
                case rel => exact ⟨2 + 1, by omega, rfl, by go_num, HGQ.out.mono (by omega)⟩
                case measure => simp [intOf] <;> omega
              · have dk : decide ((13 : Int) ≤ last) = false := by simpa using hkl
                clear hkl
                go_wp2
                go_roundw
                case rel => exact ⟨j + 1, by omega, rfl, by go_num, HGQ.out.mono (by omega)⟩
                case measure => simp [intOf]; omega
            · rw [show (11 : Int) + ((3 : Nat) : Int) = 14 from rfl]
              by_cases hkl : (14 : Int) ≤ last
              · have dk : decide ((14 : Int) ≤ last) = true := by simpa using hkl
                clear hkl
                go_wp2_with (first
                  | (go_at_call 31; refine go_ask HGQ.out ?_ 14 (j : Int) now (by omega) ?_ ?_ (fun w3 hG3 => ?_); (have := HHD.out; omega); (exact ⟨by omega, by omega⟩); (exact ⟨by omega, by omega⟩); have HG3 := hid_of hG3; clear hG3)
                  | fail)
                go_roundw
                case rel => exact ⟨3 + 1, by omega, rfl, by go_num, HG3.out⟩
                case measure => simp [intOf] <;> omega
              · have dk : decide ((14 : Int) ≤ last) = false := by simpa using hkl
                clear hkl
                go_wp2
                go_roundw
                case rel => exact ⟨j + 1, by omega, rfl, by go_num, HGQ.out.mono (by omega)⟩
                case measure => simp [intOf]; omega
            · rw [show (11 : Int) + ((4 : Nat) : Int) = 15 from rfl]
              have dk : decide ((15 : Int) ≤ last) = false := by simp; omega
              go_wp2
              go_roundw
              case rel => exact ⟨j + 1, by omega, rfl, by go_num, HGQ.out.mono (by omega)⟩
              case measure => simp [intOf]; omega
        · have hje : j = ds.length := by omega
          have hnl : ¬ (j : Int) < ds.length := by omega
          have hnt : 14 + i + 5 * j < 1000000 := by omega
          have HNT := hid_of hnt
          clear hG hreads hjle hnd hjn hje hnt
          go_wp2
          go_loopw [6, 12] (fun v6 v12 wz => v6 = .bool true ∧ v12 = .int .i64 0 ∧ wz = wr) (fun _ _ _ => 0)
          case atStart => exact ⟨rfl, rfl, rfl⟩
          case round =>
            obtain ⟨rfl, rfl, hww⟩ := hrel
            rw [hww]
            clear hww
            go_wp2_with (first
              | (go_at_call 32; refine go_kept HGJ.out HNT.out (fun w3 hG3 => ?_); obtain ⟨_, _, _, _, _, _, _, hk3, _⟩ := hG3.reads; have HF := hid_of (HR.out w3 hk3); clear hG3 hk3)
              | fail)
            exact HF.out

end

end Go.Proofs.YthbdpfccfcceiaaGreatDoor
