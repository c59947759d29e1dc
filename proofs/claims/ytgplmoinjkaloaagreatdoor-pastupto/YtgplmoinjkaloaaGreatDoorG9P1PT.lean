/-
  A whole script.
  A script as it comes in: how the argument of the laws lies in memory.
  The tables of the program, as the row lists them: what the walks ask of memory.
-/
import Derived.Test.YtgplmoinjkaloaaGreatDoorT7G8
import Derived.Test.YtgplmoinjkaloaaGreatDoorRows
import Derived.ProofKit
import Derived.OpenShut
import Derived.JoinedCond
import Derived.WideKeyArgs
import Derived.Deep.Slices
import Derived.Test.YtgplmoinjkaloaaGreatDoorY1Y2D1D2
import Derived.LaidMore
import Derived.Stop.Joined
namespace Go.Proofs.YtgplmoinjkaloaaGreatDoor
open Go.RowKit

def own0 (p b : Nat) : Lab := if b = p then ⟨0, 0, 0, eb⟩ else lab9

theorem inv_start (w : World) (hT : Tab w) : Inv (own0 w.heap.size) (w.alloc (.cells (worldC (.slice none 0 0) (.slice none 0 0) (.slice none 0 0)) 53)) w.heap.size [] (.slice none 0 0) (.slice none 0 0) (.slice none 0 0) [] 0 := by
  refine ⟨⟨by simp [own0], heap_alloc_new w _, World.ownsRow_nil _ _ _ _, ?_, World.ownsRow_nil _ _ _ _, ?_, ⟨0, rfl⟩, ?_, ?_, ?_⟩, World.ownsRow_nil _ _ _ _, ?_, ?_, Nat.le_refl _, Nat.le_refl _, hT.kept (Kp.alloc _ _ _), by have := hT.lt.1; have h : ¬ 0 = w.heap.size := (by omega); simp [own0, h], by have := hT.lt.2; have h : ¬ 1 = w.heap.size := (by omega); simp [own0, h]⟩
  · intro b e; cases e
  · intro b e; cases e
  · intro q hq; cases hq
  · intro q hq; cases hq
  · intro q hq; cases hq
  · intro b e; cases e
  · intro i hi; exact absurd hi (by simp)

/-- A script as it comes in. -/
structure ScrIn (w : World) (v : Value) (n : Nat) (f : Nat → S8) : Prop where
  form : ∃ av cap, v = .slice av n cap ∧ (0 < n → ∃ g off, av = some ⟨g, off, none⟩ ∧ Scr w g off n f)

section
variable {w : World} {R : Ending → World → Prop}

/-- How it stands between the steps. -/
def GoAt (w wr : World) (ds : List (Nat × Nat)) (vL : Value) (nt : Nat) : Prop :=
  ∃ own vP vK bk, Inv own wr w.heap.size ds vL vP vK bk nt ∧ 0 < ds.length ∧ Kp (fun _ => False) w wr ∧ ∀ b, b < w.heap.size → own b = lab9

theorem GoAt.next {wr w2 : World} {ds : List (Nat × Nat)} {vL : Value} {nt : Nat} {own own2 : Nat → Lab} {vP vK : Value} {bk : List (Value × Nat × Int)} (hk : Kp (fun _ => False) w wr) (ho : ∀ b, b < w.heap.size → own b = lab9)
    (k2 : Kp (fun b => own b ≠ lab9) wr w2) (a2 : ∀ b, b < wr.heap.size → own2 b = own b) (I : Inv own2 w2 w.heap.size ds vL vP vK bk nt) (hd : 0 < ds.length) : GoAt w w2 ds vL nt :=
  ⟨own2, vP, vK, bk, I, hd, hk.trans k2 (fun b hb e => e (ho b hb)), fun b hb => (a2 b (Nat.lt_of_lt_of_le hb hk.size)).trans (ho b hb)⟩

theorem GoAt.mono {wr : World} {ds : List (Nat × Nat)} {vL : Value} {nt nt' : Nat} (h : GoAt w wr ds vL nt) (hn : nt ≤ nt') : GoAt w wr ds vL nt' := by
  obtain ⟨own, vP, vK, bk, I, r⟩ := h
  exact ⟨own, vP, vK, bk, I.mono hn, r⟩

theorem go_step {wr : World} {ds : List (Nat × Nat)} {vL : Value} {nt : Nat} (h : GoAt w wr ds vL nt) (hnt : nt < 1000000) (kind e a b : Int) (s t : ByteArray) (vl vm : Value) (hx : (⟨kind, e, a, b, s, t, vl, vm⟩ : S8).ok) (h9 : kind ≤ 14)
    (hK : ∀ w2 ds2 vL2, GoAt w w2 ds2 vL2 (nt + 1) → R (.returned (.bool true)) w2) :
    Calls Tryz.prog 19 #[.pointer (some ⟨w.heap.size, 0, none⟩), .agg #[.int .i64 kind, .int .i64 e, .int .i64 a, .int .i64 b, .string s, .string t, vl, vm]] wr R := by
  obtain ⟨own, vP, vK, bk, I, hd, hk, ho⟩ := h
  exact step_any I hnt kind e a b s t vl vm hx h9 (Or.inr hd) (fun w2 own2 ds2 vL2 vP2 vK2 bk2 k2 a2 I2 hd2 => hK w2 ds2 vL2 (GoAt.next hk ho k2 a2 I2 hd2))

theorem go_now {wr : World} {ds : List (Nat × Nat)} {vL : Value} {nt : Nat} (h : GoAt w wr ds vL nt) (hnt : nt < 1000000) (e : Int) (he : -9223372036854775808 ≤ e ∧ e ≤ 9223372036854775807)
    (hK : ∀ w2, GoAt w w2 ds vL (nt + 1) → R (.returned (.bool true)) w2) :
    Calls Tryz.prog 19 #[.pointer (some ⟨w.heap.size, 0, none⟩), .agg #[.int .i64 9, .int .i64 e, .int .i64 0, .int .i64 0, .string ⟨#[]⟩, .string ⟨#[]⟩, .slice none 0 0, .slice none 0 0]] wr R := by
  obtain ⟨own, vP, vK, bk, I, hd, hk, ho⟩ := h
  exact step_9 I hd hnt e 0 0 he (by omega) ⟨#[]⟩ ⟨#[]⟩ (by decide) (by decide) _ _ (fun w2 own2 vP2 vK2 bk2 k2 a2 I2 => hK w2 (GoAt.next hk ho k2 a2 I2 hd))

theorem go_ask {wr : World} {ds : List (Nat × Nat)} {vL : Value} {nt : Nat} (h : GoAt w wr ds vL nt) (hnt : nt < 1000000) (kind e a : Int) (hk : 10 ≤ kind ∧ kind ≤ 14) (he : -9223372036854775808 ≤ e ∧ e ≤ 9223372036854775807) (ha : -9223372036854775808 ≤ a ∧ a ≤ 9223372036854775807)
    (hK : ∀ w2, GoAt w w2 ds vL (nt + 1) → R (.returned (.bool true)) w2) :
    Calls Tryz.prog 19 #[.pointer (some ⟨w.heap.size, 0, none⟩), .agg #[.int .i64 kind, .int .i64 e, .int .i64 a, .int .i64 0, .string ⟨#[]⟩, .string ⟨#[126]⟩, .slice none 0 0, .slice none 0 0]] wr R := by
  obtain ⟨own, vP, vK, bk, I, hd, hk', ho⟩ := h
  exact step_past I hd hnt kind e a 0 hk he ha ⟨#[]⟩ ⟨#[126]⟩ (by decide) _ _ (fun w2 own2 vP2 vK2 bk2 k2 a2 I2 => hK w2 (GoAt.next hk' ho k2 a2 I2 hd))

theorem go_kept {wr : World} {ds : List (Nat × Nat)} {vL : Value} {nt : Nat} (h : GoAt w wr ds vL nt) (hnt : nt < 1000000)
    (hK : ∀ w2, GoAt w w2 ds vL nt → R (.returned (.bool true)) w2) :
    Calls Tryz.prog 20 #[.pointer (some ⟨w.heap.size, 3, none⟩)] wr R := by
  obtain ⟨own, vP, vK, bk, I, hd, hk, ho⟩ := h
  exact inv_kept I hnt (fun w2 k2 I2 => hK w2 ⟨own, vP, vK, bk, I2, hd, hk.trans k2 (fun _ _ h => h), ho⟩)

/-- What the law itself reads of its world. -/
theorem GoAt.reads {wr : World} {ds : List (Nat × Nat)} {vL : Value} {nt : Nat} (h : GoAt w wr ds vL nt) : ∃ g cap, vL = .slice (some ⟨g, 0, none⟩) ds.length cap ∧ ds.length ≤ cap ∧ wr.cell? ⟨w.heap.size, 0, none⟩ = some vL ∧ wr.cell? ⟨w.heap.size, 1, none⟩ = some (.slice none 0 0) ∧ ds.length ≤ nt ∧ Kp (fun _ => False) w wr ∧
    ∀ i (hi : i < ds.length), ∃ now, wr.cell? ⟨g, i * 2 + 1, none⟩ = some (.pointer (some ⟨(ds[i]).2, 0, none⟩)) ∧ wr.cell? ⟨(ds[i]).2, 2, none⟩ = some (.int .i64 now) ∧ 0 ≤ now ∧ now ≤ 2000 := by
  obtain ⟨own, vP, vK, bk, I, hd, hk, ho⟩ := h
  obtain ⟨g, cap, hv, hc, _, hcells⟩ := duos_row I.rowL hd
  refine ⟨g, cap, hv, hc, cell_of I.book.world 0, cell_of I.book.world 1, I.nds, hk, fun i hi => ?_⟩
  obtain ⟨s, y, _, ⟨vL', vT, vG, sv, lg, Y, _⟩, _, hy, _⟩ := I.duos i hi
  exact ⟨y.now, (hcells i hi).2, cell_of Y.store 2, hy.now.1, hy.now.2⟩

set_option maxRecDepth 20000 in
set_option maxHeartbeats 2000000 in
theorem plays_any (last : Int) (hlast : 9 ≤ last ∧ last ≤ 14) (v : Value) (n : Nat) (f : Nat → S8) (hv : ScrIn w v n f) (hT : Tab w) (hn : n < 120000) (hR : ∀ w', Kp (fun _ => False) w w' → R (.returned (.bool true)) w') :
    Calls Tryz.prog 7 #[v, .int .i64 last] w R := by
  obtain ⟨av, cap, rfl, hscr⟩ := hv.form
  have HSC := hid_of hscr
  have HR := hid_of hR
  have HT := hid_of hT
  have hn' : (n : Int) < 120000 := by omega
  clear hv hscr hR hT
  go_enter Tryz.func7, Tryz.ntmps7
  go_wp2_with (first
    | (go_at_call 18; refine begun_any last hlast (inv_start w HT.out) (by decide) (fun w1 own1 ds1 vL1 vP1 vK1 bk1 k1 a1 I1 hd1 => ?_))
    | fail)
  have HG1 : Hid (GoAt w w1 ds1 vL1 14) := by
    refine GoAt.next (wr := w.alloc (.cells (worldC (.slice none 0 0) (.slice none 0 0) (.slice none 0 0)) 53)) (own := own0 w.heap.size) (Kp.alloc _ _ _) (fun b hb => ?_) k1 a1 I1 hd1
    have : b ≠ w.heap.size := by omega
    simp [own0, this]
  clear k1 a1 I1 hd1
  go_loopw [6, 7] (fun v6 v7 wr => ∃ i : Nat, i ≤ n ∧ v6 = .bool true ∧ v7 = .int .i64 i ∧ ∃ ds vL, GoAt w wr ds vL (14 + i)) (fun _ v7 _ => n - (intOf v7).toNat)
  case atStart => exact ⟨0, Nat.zero_le _, rfl, rfl, ds1, vL1, HG1.out⟩
  case round =>
    obtain ⟨i, hile, rfl, rfl, ds, vL, hG⟩ := hrel
    by_cases hin : i < n
    · have hin' : (i : Int) < n := by omega
      obtain ⟨g, off, rfl, hs⟩ := HSC.out (by omega)
      obtain ⟨_, _, _, _, _, _, _, hk, _⟩ := hG.reads
      obtain ⟨kind, e, a, b, s, t, vl, vm, _, hok, q0, q1, q2, q3, q4, q5, q6, q7⟩ := (hs.kept hk (fun h => h)).at i hin
      have HOK := hid_of hok
      have HG := hid_of hG
      by_cases hk9 : kind ≤ last
      · have hk9' : ¬ last < kind := by omega
        have HK9 := hid_of (show kind ≤ 14 by omega)
        clear hs hok hG hk hin hile hk9
        go_wp2_with (first
          | (go_at_call 19; refine go_step HG.out ?_ kind e a b s t vl vm HOK.out HK9.out (fun w2 ds2 vL2 hG2 => ?_); (omega); have HG2 := hid_of hG2; clear hG2)
          | (go_at_call 20; refine go_kept HG2.out ?_ (fun w3 hG3 => ?_); (omega))
          | fail)
        go_roundw
        case rel => exact ⟨i + 1, by omega, rfl, by go_num, ds2, vL2, hG3⟩
        case measure => simp [intOf]; omega
      · have hk9' : last < kind := by omega
        clear hs hok hG hk hin hile hk9
        go_wp2
        go_roundw
        case rel =>
          obtain ⟨own, vP, vK, bk, I, r⟩ := HG.out
          exact ⟨i + 1, by omega, rfl, by go_num, ds, vL, own, vP, vK, bk, I.mono (by omega), r⟩
        case measure => simp [intOf]; omega
    · have hie : i = n := by omega
      subst hie
      have HG := hid_of hG
      clear hG hile hin
      go_wp2
      go_loopw [6, 9] (fun v6 v9 wq => ∃ j : Nat, j ≤ ds.length ∧ v6 = .bool true ∧ v9 = .int .i64 j ∧ GoAt w wq ds vL (14 + i + 5 * j)) (fun _ v9 _ => ds.length - (intOf v9).toNat)
      case atStart => exact ⟨0, Nat.zero_le _, rfl, rfl, HG.out⟩
      case round =>
        obtain ⟨j, hjle, rfl, rfl, hG⟩ := hrel
        obtain ⟨g, cap, hvL, hcap, c0, c1, _, _, hreads⟩ := hG.reads
        obtain ⟨_, _, _, _, _, _, hnd, _, _⟩ := HG.out.reads
        rw [hvL] at c0
        have hd' : (ds.length : Int) < 1000000 := by omega
        have HGJ := hid_of hG
        by_cases hjn : j < ds.length
        · have hjn' : (j : Int) < ds.length := by omega
          have HHD := hid_of hnd
          have HJN := hid_of hjn
          clear hG hreads hjle hnd
          go_wp2_with (first
            | (go_at_call 19; refine go_now HGJ.out ?_ (j : Int) ?_ (fun w2 hG2 => ?_); (have := HHD.out; omega); (exact ⟨by omega, by omega⟩); obtain ⟨g2, cap2, hvL2, _, y0, _, _, _, hr2⟩ := hG2.reads; (rw [hvL2] at y0); obtain ⟨now, y1, y2, now1, now2⟩ := hr2 j HJN.out; have HG2 := hid_of hG2; clear hG2 hr2 hvL2)
            | fail)
          clear y0 y1 y2
          go_loopw [6, 11] (fun v6 v11 wz => ∃ q : Nat, q ≤ 4 ∧ v6 = .bool true ∧ v11 = .int .i64 (11 + q) ∧ GoAt w wz ds vL (14 + i + 5 * j + 1 + q)) (fun _ v11 _ => (20 - intOf v11).toNat)
          case atStart => exact ⟨0, by omega, rfl, rfl, HG2.out⟩
          case round =>
            obtain ⟨q, hq4, rfl, rfl, hGq⟩ := hrel
            have HGQ := hid_of hGq
            clear hGq
            rcases (by omega : q = 0 ∨ q = 1 ∨ q = 2 ∨ q = 3 ∨ q = 4) with rfl | rfl | rfl | rfl | rfl
            · rw [show (11 : Int) + ((0 : Nat) : Int) = 11 from rfl]
              by_cases hkl : (11 : Int) ≤ last
              · have dk : decide ((11 : Int) ≤ last) = true := by simpa using hkl
                clear hkl
                go_wp2_with (first
                  | (go_at_call 19; refine go_ask HGQ.out ?_ 11 (j : Int) now (by omega) ?_ ?_ (fun w3 hG3 => ?_); (have := HHD.out; omega); (exact ⟨by omega, by omega⟩); (exact ⟨by omega, by omega⟩); have HG3 := hid_of hG3; clear hG3)
                  | fail)
                go_roundw
                case rel => exact ⟨0 + 1, by omega, rfl, by go_num, HG3.out⟩
                case measure => simp [intOf] <;> omega
              · have dk : decide ((11 : Int) ≤ last) = false := by simpa using hkl
                clear hkl
                go_wp2
                go_roundw
                case rel => exact ⟨j + 1, by omega, rfl, by go_num, HGQ.out.mono (by omega)⟩
                case measure => simp [intOf]; omega
            · rw [show (11 : Int) + ((1 : Nat) : Int) = 12 from rfl]
              by_cases hkl : (12 : Int) ≤ last
              · have dk : decide ((12 : Int) ≤ last) = true := by simpa using hkl
                clear hkl
                go_wp2
                go_roundw
                case rel => exact ⟨1 + 1, by omega, rfl, by go_num, HGQ.out.mono (by omega)⟩
                case measure => simp [intOf] <;> omega
              · have dk : decide ((12 : Int) ≤ last) = false := by simpa using hkl
                clear hkl
                go_wp2
                go_roundw
                case rel => exact ⟨j + 1, by omega, rfl, by go_num, HGQ.out.mono (by omega)⟩
                case measure => simp [intOf]; omega
            · rw [show (11 : Int) + ((2 : Nat) : Int) = 13 from rfl]
              by_cases hkl : (13 : Int) ≤ last
              · have dk : decide ((13 : Int) ≤ last) = true := by simpa using hkl
                clear hkl
                go_wp2
                go_roundw
                case rel => exact ⟨2 + 1, by omega, rfl, by go_num, HGQ.out.mono (by omega)⟩
                case measure => simp [intOf] <;> omega
              · have dk : decide ((13 : Int) ≤ last) = false := by simpa using hkl
                clear hkl
                go_wp2
                go_roundw
                case rel => exact ⟨j + 1, by omega, rfl, by go_num, HGQ.out.mono (by omega)⟩
                case measure => simp [intOf]; omega
            · rw [show (11 : Int) + ((3 : Nat) : Int) = 14 from rfl]
              by_cases hkl : (14 : Int) ≤ last
              · have dk : decide ((14 : Int) ≤ last) = true := by simpa using hkl
                clear hkl
                go_wp2_with (first
                  | (go_at_call 19; refine go_ask HGQ.out ?_ 14 (j : Int) now (by omega) ?_ ?_ (fun w3 hG3 => ?_); (have := HHD.out; omega); (exact ⟨by omega, by omega⟩); (exact ⟨by omega, by omega⟩); have HG3 := hid_of hG3; clear hG3)
                  | fail)
                go_roundw
                case rel => exact ⟨3 + 1, by omega, rfl, by go_num, HG3.out⟩
                case measure => simp [intOf] <;> omega
              · have dk : decide ((14 : Int) ≤ last) = false := by simpa using hkl
                clear hkl
                go_wp2
                go_roundw
                case rel => exact ⟨j + 1, by omega, rfl, by go_num, HGQ.out.mono (by omega)⟩
                case measure => simp [intOf]; omega
            · rw [show (11 : Int) + ((4 : Nat) : Int) = 15 from rfl]
              have dk : decide ((15 : Int) ≤ last) = false := by simp; omega
              go_wp2
              go_roundw
              case rel => exact ⟨j + 1, by omega, rfl, by go_num, HGQ.out.mono (by omega)⟩
              case measure => simp [intOf]; omega
        · have hje : j = ds.length := by omega
          have hnl : ¬ (j : Int) < ds.length := by omega
          have hnt : 14 + i + 5 * j < 1000000 := by omega
          have HNT := hid_of hnt
          clear hG hreads hjle hnd hjn hje hnt
          go_wp2
          go_loopw [6, 12] (fun v6 v12 wz => v6 = .bool true ∧ v12 = .int .i64 0 ∧ wz = wr) (fun _ _ _ => 0)
          case atStart => exact ⟨rfl, rfl, rfl⟩
          case round =>
            obtain ⟨rfl, rfl, hww⟩ := hrel
            rw [hww]
            clear hww
            go_wp2_with (first
              | (go_at_call 20; refine go_kept HGJ.out HNT.out (fun w3 hG3 => ?_); obtain ⟨_, _, _, _, _, _, _, hk3, _⟩ := hG3.reads; have HF := hid_of (HR.out w3 hk3); clear hG3 hk3)
              | fail)
            exact HF.out

end

end Go.Proofs.YtgplmoinjkaloaaGreatDoor

namespace Go.Proofs.YtgplmoinjkaloaaGreatDoor
open Go.ChangeShapes Go.WideShapes Go.ChangeAt Go.RowKit

theorem txs_own : ownKnob Tryz.prog.godebug = none := by kernel_rfl
theorem txs_cells : Tryz.prog.cellsOf 56 = 8 := by kernel_rfl

/-- A step that does nothing. -/
def noStep : S8 := ⟨0, 0, 0, 0, ⟨#[]⟩, ⟨#[]⟩, .slice none 0 0, .slice none 0 0⟩

theorem txs_c3 : Tryz.prog.cellsOf 3 = 1 := by kernel_rfl
theorem txs_c9 : Tryz.prog.cellsOf 9 = 1 := by kernel_rfl
theorem txs_c28 : Tryz.prog.cellsOf 37 = 1 := by kernel_rfl
theorem txs_laid : laidOutB Tryz.prog = true := by kernel_rfl
theorem txs_readable : Tryz.prog.readableRec 22 = true := by kernel_rfl
theorem txs_row : 22 < Tryz.prog.types.size := of_decide_eq_true (by kernel_rfl)

/-- A value's bulk is not nothing. -/
theorem bulk_pos {H : Type} (d : DataW H) : 1 ≤ Rows.uptoBulk d := by
  cases d with
  | lit l => cases l <;> simp [Rows.uptoBulk]
  | _ => simp [Rows.uptoBulk]

theorem bulk_mul {H : Type} (k : Nat) : ∀ (l : List (DataW H)), (∀ d ∈ l, k ≤ Rows.uptoBulk d) → k * l.length ≤ Rows.uptoBulkAll l
  | [], _ => by simp [Rows.uptoBulkAll]
  | d :: r, h => by
    have h1 := h d (by simp)
    have h2 := bulk_mul k r (fun x hx => h x (List.mem_cons_of_mem _ hx))
    simp only [Rows.uptoBulkAll, List.length_cons, Nat.mul_add, Nat.mul_one]
    omega

theorem list_eight {cs : List Value} (h : cs.length = 8) : ∃ c0 c1 c2 c3 c4 c5 c6 c7, cs = [c0, c1, c2, c3, c4, c5, c6, c7] := by
  have pop : ∀ {l : List Value} {n : Nat}, l.length = n + 1 → ∃ c r, l = c :: r ∧ r.length = n := fun {l n} h => by
    cases l with
    | nil => simp at h
    | cons c r => exact ⟨c, r, rfl, by simpa using h⟩
  obtain ⟨c0, r0, rfl, h0⟩ := pop h
  obtain ⟨c1, r1, rfl, h1⟩ := pop h0
  obtain ⟨c2, r2, rfl, h2⟩ := pop h1
  obtain ⟨c3, r3, rfl, h3⟩ := pop h2
  obtain ⟨c4, r4, rfl, h4⟩ := pop h3
  obtain ⟨c5, r5, rfl, h5⟩ := pop h4
  obtain ⟨c6, r6, rfl, h6⟩ := pop h5
  obtain ⟨c7, r7, rfl, h7⟩ := pop h6
  obtain rfl : r7 = [] := List.eq_nil_of_length_eq_zero h7
  exact ⟨c0, c1, c2, c3, c4, c5, c6, c7, rfl⟩

section
variable {H : Type} {enc : TypeId × Value → H} {W : World}

/-- A step as it comes in. -/
theorem open_step {n : Nat} {cs : List Value} {d : DataW H} {pl : List MemPlace} (h : DataW.trod enc Tryz.prog W 0 (fun _ => true) true n 56 cs = some (d, pl)) : (∃ x : S8, x.ok ∧ cs = x.cells) ∧ 9 ≤ Rows.uptoBulk d := by
  obtain ⟨xs, k, _, hx, hlen, hxl, hf⟩ := DataW.trod_struct Tryz.underlying56 h
  rw [txs_cells] at hlen
  simp only [Prod.mk.injEq] at hx
  have hxl8 : xs.length = 8 := hxl
  refine ⟨?_, ?_⟩
  · obtain ⟨c0, c1, c2, c3, c4, c5, c6, c7, rfl⟩ := list_eight hlen
    have one : ∀ (j : Nat), j < 8 → ∃ y, xs[j]? = some y := fun j hj => ⟨_, List.getElem?_eq_getElem (by omega)⟩
    obtain ⟨y0, e0⟩ := one 0 (by omega)
    obtain ⟨y1, e1⟩ := one 1 (by omega)
    obtain ⟨y2, e2⟩ := one 2 (by omega)
    obtain ⟨y3, e3⟩ := one 3 (by omega)
    obtain ⟨y4, e4⟩ := one 4 (by omega)
    obtain ⟨y5, e5⟩ := one 5 (by omega)
    have g0 : DataW.trod enc Tryz.prog W 0 (fun _ => true) true k 3 (([c0, c1, c2, c3, c4, c5, c6, c7].drop 0).take (Tryz.prog.cellsOf 3)) = some y0 := (hf 0 _ rfl).trans e0
    have g1 : DataW.trod enc Tryz.prog W 0 (fun _ => true) true k 3 (([c0, c1, c2, c3, c4, c5, c6, c7].drop 1).take (Tryz.prog.cellsOf 3)) = some y1 := (hf 1 _ rfl).trans e1
    have g2 : DataW.trod enc Tryz.prog W 0 (fun _ => true) true k 3 (([c0, c1, c2, c3, c4, c5, c6, c7].drop 2).take (Tryz.prog.cellsOf 3)) = some y2 := (hf 2 _ rfl).trans e2
    have g3 : DataW.trod enc Tryz.prog W 0 (fun _ => true) true k 3 (([c0, c1, c2, c3, c4, c5, c6, c7].drop 3).take (Tryz.prog.cellsOf 3)) = some y3 := (hf 3 _ rfl).trans e3
    have g4 : DataW.trod enc Tryz.prog W 0 (fun _ => true) true k 9 (([c0, c1, c2, c3, c4, c5, c6, c7].drop 4).take (Tryz.prog.cellsOf 9)) = some y4 := (hf 4 _ rfl).trans e4
    have g5 : DataW.trod enc Tryz.prog W 0 (fun _ => true) true k 9 (([c0, c1, c2, c3, c4, c5, c6, c7].drop 5).take (Tryz.prog.cellsOf 9)) = some y5 := (hf 5 _ rfl).trans e5
    rw [txs_c3] at g0 g1 g2 g3
    rw [txs_c9] at g4 g5
    obtain ⟨z0, q0, _, w0⟩ := DataW.trod_int Tryz.underlying3 g0
    obtain ⟨z1, q1, _, w1⟩ := DataW.trod_int Tryz.underlying3 g1
    obtain ⟨z2, q2, _, w2⟩ := DataW.trod_int Tryz.underlying3 g2
    obtain ⟨z3, q3, _, w3⟩ := DataW.trod_int Tryz.underlying3 g3
    obtain ⟨z4, q4, _, w4⟩ := DataW.trod_string Tryz.underlying9 g4
    obtain ⟨z5, q5, _, w5⟩ := DataW.trod_string Tryz.underlying9 g5
    simp at q0 q1 q2 q3 q4 q5
    subst q0; subst q1; subst q2; subst q3; subst q4; subst q5
    have rng : ∀ z : Int, (Lit.int .i64 z).wf = true → -9223372036854775808 ≤ z ∧ z ≤ 9223372036854775807 := fun z h => by
      have m0 : IntKind.i64.min = -9223372036854775808 := rfl
      simp [Lit.wf] at h
      omega
    exact ⟨⟨z0, z1, z2, z3, z4, z5, c6, c7⟩, ⟨rng z1 w1, rng z2 w2, w4, w5⟩, rfl⟩
  · rw [hx.1]
    have := bulk_mul 1 (xs.map (·.1)) (fun d _ => bulk_pos d)
    rw [List.length_map, hxl8] at this
    simp only [Rows.uptoBulk]
    omega

/-- A script as it comes in. -/
theorem open_script {v : Value} {d : DataW H} {pl : List MemPlace} (hv : ∃ a len cap, v = .slice a len cap) (h : DataW.Trod enc Tryz.prog W 0 (fun _ => true) true 22 v d pl) (hb : Rows.uptoBulk d ≤ 1048576) : ∃ n f, ScrIn W v n f ∧ n < 120000 := by
  obtain ⟨a0, len0, cap0, rfl⟩ := hv
  obtain ⟨fuel, hf⟩ := h
  rcases Deep.open_slice Tryz.underlying22 hf with ⟨hc, _⟩ | ⟨a, len, cap, m, n, D, Pl, hc, _, hl, _, hm, hx, hel⟩
  · have hc' : Value.slice a0 len0 cap0 = .slice none 0 0 := by simpa [Value.cells] using hc
    rw [hc']
    exact ⟨0, fun _ => noStep, ⟨⟨none, 0, rfl, fun h => absurd h (by omega)⟩⟩, by omega⟩
  · have hc' : Value.slice a0 len0 cap0 = .slice (some a) len cap := by simpa [Value.cells] using hc
    rw [hc']
    simp only [Prod.mk.injEq] at hx
    simp only [if_true] at hm
    subst hm
    rw [txs_cells] at hel
    have hlen : len < 120000 := by
      have h9 := bulk_mul 9 ((List.range len).map D) (fun d hd => by
        obtain ⟨i, hi, rfl⟩ := List.mem_map.1 hd
        obtain ⟨cs', _, h2⟩ := hel i (by have := List.mem_range.1 hi; omega)
        exact (open_step h2).2)
      rw [List.length_map, List.length_range] at h9
      rw [hx.1] at hb
      simp only [Rows.uptoBulk] at hb
      omega
    haveI : Inhabited S8 := ⟨noStep⟩
    obtain ⟨f, hfs⟩ := Deep.choose_lt (α := S8) (n := len) (p := fun i x => x.ok ∧ W.cells? 0 (a.add (i * 8)) 8 = some x.cells) (fun i hi => by
      obtain ⟨cs', h1, h2⟩ := hel i (by omega)
      obtain ⟨⟨x, hx, rfl⟩, _⟩ := open_step h2
      exact ⟨x, hx, h1⟩)
    refine ⟨len, f, ⟨⟨some a, _, rfl, fun h0 => ?_⟩⟩, hlen⟩
    have cell : ∀ i, i < len → ∀ k, k < 8 → W.cell? ((a.add (i * 8)).add k) = (f i).cells[k]? := fun i hi k hk => (World.cells?_some (hfs i hi).2).2.2 k hk
    have hspot : a.spot = none := by
      have h1 := cell 0 h0 0 (by omega)
      have h2 : (a.add (0 * 8)).add 0 = a := by simp [Addr.add]
      rw [h2] at h1
      have h3 : W.cell? a = some (.int .i64 (f 0).kind) := h1
      unfold World.cell? at h3
      cases hsp : a.spot with
      | none => rfl
      | some _ =>
        rw [hsp] at h3
        split at h3
        · simp at h3
        · cases h3
    obtain ⟨b, off, spot⟩ := a
    dsimp only at hspot
    subst hspot
    refine ⟨b, off, rfl, ⟨fun i hi k v hv => ?_, ?_, fun i hi => (hfs i hi).1⟩⟩
    · have hk : k < 8 := by
        have := (List.getElem?_eq_some_iff.1 hv).1
        simpa [S8.cells] using this
      have := cell i hi k hk
      rw [add_plain, add_plain] at this
      rw [this]; exact hv
    · have h1 := cell 0 h0 0 (by omega)
      rw [add_plain, add_plain] at h1
      exact World.block_lt_of_cell? W ⟨b, off + 0 * 8 + 0, none⟩ (u := .int .i64 (f 0).kind) h1

theorem kp_keptBut {W W' : World} (k : Kp (fun _ => False) W W') (may : MemPlace → Prop) : W.keptBut W' may := by
  refine ⟨k.os, k.output, fun i hi => ?_⟩
  rw [k.block i hi (fun h => h)]
  split
  · rename_i c t fr c' t' fr' h1 h2
    rw [h1] at h2
    injection h2 with h2
    injection h2 with h2 h3 h4
    subst h2; subst h3; subst h4
    exact ⟨rfl, rfl, rfl, fun _ _ => rfl⟩
  · rename_i es clock es' clock' h1 h2
    rw [h1] at h2
    injection h2 with h2
    injection h2 with h2 h3
    exact Or.inr ⟨h2.symm, h3.symm⟩
  · rfl

theorem kp_sameAt {W W' : World} (k : Kp (fun _ => False) W W') (p : MemPlace) (hp : p.block < W.heap.size) : W.sameAt W' p := by
  cases p with
  | cell b off => exact k.cell (a := ⟨b, off, none⟩) hp (fun h => h)
  | map b => exact k.block b hp (fun h => h)

end

end Go.Proofs.YtgplmoinjkaloaaGreatDoor

namespace Go.Proofs.YtgplmoinjkaloaaGreatDoor
open Go.ChangeShapes Go.WideShapes Go.ChangeAt Go.RowKit

abbrev laid2 : List (String × DataW Unit) := Rows.txsRow.laid
def nLow : String := match laid2 with | x :: _ => x.1 | [] => Rows.txsRow.func
def nHigh : String := match laid2 with | _ :: x :: _ => x.1 | _ => Rows.txsRow.func

theorem gLow : Tryz.prog.globalNamed nLow = some 0 := by kernel_rfl
theorem gHigh : Tryz.prog.globalNamed nHigh = some 1 := by kernel_rfl
theorem tLow : (Tryz.prog.globals[0]?).map (·.type) = some 274 := by kernel_rfl
theorem tHigh : (Tryz.prog.globals[1]?).map (·.type) = some 274 := by kernel_rfl
theorem c_u32 : Tryz.prog.cellsOf 228 = 1 := by kernel_rfl

def litI : DataW Unit → Int
  | .lit (.int _ n) => n
  | _ => 0
def partsI : DataW Unit → List Int
  | .agg l => l.map litI
  | _ => []
theorem low_crc : partsI Rows.laid_palimpsest_sums_lowSums = (List.range 128).map fun i => (crc8 i : Int) := by decide +kernel
theorem high_crc : partsI Rows.laid_palimpsest_sums_highSums = (List.range 128).map fun i => (crc8 (i + 128) : Int) := by decide +kernel

/-- A table that reads as a list of numbers. -/
theorem table_cells {W : World} {n : String} {g : Nat} {d : DataW Unit} {cs : Array Value} {fuel : Nat} {ps : List MemPlace} {f : Nat → Nat} (hg : Tryz.prog.globalNamed n = some g) (hv : W.var? Tryz.prog n = some cs) (hd : DataW.trod (fun _ => ()) Tryz.prog W 0 (fun _ => true) false fuel 274 cs.toList = some (d, ps)) (hp : partsI d = (List.range 128).map fun i => (f i : Int)) :
    ∀ i : Nat, i < 128 → W.cell? ⟨g, i, none⟩ = some (.int .u32 (f i : Nat)) := by
  intro i hi
  obtain ⟨xs, m, _, hx, _, hxl, hel⟩ := DataW.trod_array Tryz.underlying274 hd
  have h0 := hel i hi
  rw [c_u32, Nat.mul_one] at h0
  rw [List.getElem?_eq_getElem (by omega)] at h0
  obtain ⟨k, e1, e2, _⟩ := DataW.trod_int Tryz.underlying228 h0
  have hk : k = (f i : Int) := by
    have h1 : (partsI d)[i]? = some (f i : Int) := by rw [hp, List.getElem?_map, List.getElem?_range hi]; rfl
    have hd' : d = .agg (xs.map (·.1)) := by injection hx
    rw [hd'] at h1
    simp only [partsI, List.map_map, List.getElem?_map] at h1
    rw [List.getElem?_eq_getElem (by omega), e2] at h1
    simpa [litI] using h1
  subst hk
  rw [World.var?_cell hg hv i]
  rw [← Array.getElem?_toList]
  have : (cs.toList.drop i).head? = some (.int .u32 (f i : Nat)) := by
    have h2 := congrArg List.head? e1
    rw [List.head?_take] at h2
    simpa using h2
  rw [List.head?_drop] at this
  exact this

theorem tab_of_laid {W : World} (h : laidMetH Tryz.prog laid2 W) : Tab W := by
  rw [MakeChecks.laidMetH_plain _ _ _ (by kernel_rfl)] at h
  obtain ⟨ps, ⟨g0, t0, cs0, f0, p0, q0, hg0, ht0, hv0, hd0, ⟨g1, t1, cs1, f1, p1, q1, hg1, ht1, hv1, hd1, _, _⟩, _⟩, _, _⟩ := h
  obtain rfl := Option.some.inj (gLow.symm.trans hg0)
  obtain rfl := Option.some.inj (gHigh.symm.trans hg1)
  obtain rfl := Option.some.inj (tLow.symm.trans ht0)
  obtain rfl := Option.some.inj (tHigh.symm.trans ht1)
  exact fun i hi => ⟨table_cells gLow hv0 hd0 low_crc i hi, table_cells (f := fun i => crc8 (i + 128)) gHigh hv1 hd1 high_crc i hi⟩

theorem door_met (os : Os) (args : Array Value) : laidMetH Tryz.prog laid2 ((World.doorLaid Tryz.prog 400 os).forCall (fun _ _ => 0) ⟨#[], args, []⟩).memory :=
  laidMetH_of_parts3 (fuel := 8) (laidMet_of_run' 8 (by kernel_rfl) (by kernel_rfl)) (by kernel_rfl) (by kernel_rfl)

end Go.Proofs.YtgplmoinjkaloaaGreatDoor
