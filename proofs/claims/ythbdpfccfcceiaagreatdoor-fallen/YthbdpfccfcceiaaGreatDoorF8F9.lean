/-
  A content behind which its sum stands, taken off the front: NewReader, Unseal.
  The opening of a file, taken off: cutOpening.
-/
import Derived.Test.YthbdpfccfcceiaaGreatDoorF5F6F7
import Derived.Test.YthbdpfccfcceiaaGreatDoorShelf
namespace Go.Proofs.YthbdpfccfcceiaaGreatDoor
open Go.RowKit Go.Maps Go.Lib

def unsealB (bs : List UInt8) (n : Nat) : Option (List UInt8 × List UInt8) :=
  if bs.length < n + 4 ∨ le4 ((bs.drop n).take 4) ≠ sumB (bs.take n) then none else some (bs.take n, bs.drop (n + 4))

section
variable {R : Ending → World → Prop}

set_option maxRecDepth 20000 in
theorem newReader_any (a : Option Addr) (n c : Nat) (w : World)
    (hR : R (.returned (.pointer (some ⟨w.heap.size, 0, none⟩))) (w.alloc (.cells #[.slice a n c, .bool false] 303))) :
    Calls Tryz.prog 144 #[.slice a n c] w R := by
  have HR := hid_of hR
  clear hR
  go_enter Tryz.func144, Tryz.ntmps144
  go_wp2_with fail
  exact HR.out

theorem reader_new {w : World} {v : Value} {bs : List UInt8} {g : Nat} (h : RdC w v bs g) (hg : g < w.heap.size) : RdrAt (w.alloc (.cells #[v, .bool false] 303)) w.heap.size ⟨bs, false⟩ v g :=
  ⟨heap_alloc_new w _, h.kept (Kp.alloc _ _ _), by omega, Nat.lt_of_lt_of_le hg (Kp.alloc (fun _ => False) w _).size⟩

set_option maxRecDepth 20000 in
set_option maxHeartbeats 1000000 in
theorem unseal_any (v : Value) (bs : List UInt8) (g n : Nat) (w : World) (h : RdC w v bs g) (hg : g < w.heap.size) (hT : Tab w) (hn : n ≤ 100000) (hl : bs.length ≤ 1000000)
    (h1 : unsealB bs n = none → ∀ w', Kp (fun _ => False) w w' → R (.returned (.tuple #[.slice none 0 0, .slice none 0 0, .bool false])) w')
    (h2 : ∀ v1 v2 w', unsealB bs n = some (bs.take n, bs.drop (n + 4)) → RdC w' v1 (bs.take n) g → RdC w' v2 (bs.drop (n + 4)) g → Kp (fun _ => False) w w' → R (.returned (.tuple #[v1, v2, .bool true])) w') :
    Calls Tryz.prog 173 #[v, .int .i64 n] w R := by
  obtain ⟨o, cap, rfl, hcap, hc⟩ := h
  have hn' : (n : Int) ≤ 100000 := by omega
  have hl' : (bs.length : Int) ≤ 1000000 := by omega
  by_cases q : bs.length < n + 4
  · have e : unsealB bs n = none := by simp [unsealB, q]
    have HF := hid_of (h1 e w (Kp.refl _ _))
    have q' : (bs.length : Int) < (n : Int) + 4 := by omega
    clear h1 h2 e q hc hT
    go_enter Tryz.func173, Tryz.ntmps173
    go_wp2_with fail
    refine bodyPost_ret (results_tmp3 rfl _ _ _) rfl ?_
    exact HF.out
  · have q' : ¬ (bs.length : Int) < (n : Int) + 4 := by omega
    have H1 := hid_of h1
    have H2 := hid_of h2
    have HT := hid_of hT
    have HC := hid_of hc
    have HCAP := hid_of hcap
    have HG := hid_of hg
    have HL := hid_of hl
    have HQ := hid_of q
    have q2 : n ≤ cap := by omega
    have q3 : n + 4 ≤ cap := by omega
    have HT1 : Hid (RdC w (.slice (some ⟨g, o, none⟩) n cap) (bs.take n) g) := RdC.take hcap hc n (by omega)
    have HT2 : Hid (RdC w (.slice (some ⟨g, o + n, none⟩) 4 (cap - n)) ((bs.drop n).take 4) g) := by
      obtain ⟨o2, c2, e1, e2, e3⟩ := RdC.drop (w := w) (g := g) (o := o) hcap hc n (by omega)
      injection e1 with e1 e4 e5
      injection e1 with e1
      injection e1 with _ e1
      subst e1; subst e5
      exact RdC.take e2 e3 4 (by rw [List.length_drop]; omega)
    have HFR : Hid ((⟨(bs.drop n).take 4, false⟩ : RS).four.1 = le4 ((bs.drop n).take 4)) := by
      simp only [Hid, RS.four, RS.take]
      rw [if_neg (by simp; omega)]
      simp [List.take_take]
    have hw4 : IntKind.i64.wrap ((n : Int) + 4) = (n : Int) + 4 := IntWalk.i64_in _ (by omega)
    have hw5 : (0 : Int) ≤ (n : Int) + 4 := by omega
    have hw6 : (n : Int) + 4 ≤ bs.length := by omega
    by_cases qs : le4 ((bs.drop n).take 4) = sumB (bs.take n)
    · have e : unsealB bs n = some (bs.take n, bs.drop (n + 4)) := by simp [unsealB, q, qs]
      have HF : ∀ v2 w', RdC w v2 (bs.drop (n + 4)) g → Kp (fun _ => False) w w' → R (.returned (.tuple #[.slice (some ⟨g, o, none⟩) n cap, v2, .bool true])) w' := fun v2 w' hv hk => h2 _ _ _ e (HT1.out.kept hk) (hv.kept hk) hk
      by_cases q5 : cap = n + 4
      · have HF2 := hid_of (HF (.slice (some ⟨g, o, none⟩) 0 0) · (RdC.dropAll (n + 4) (by omega)))
        rw [qs] at HFR
        have q6 : bs.length = n + 4 := by omega
        clear h1 h2 hc hT hcap hg hl q hn HF e qs q' q3 hw6
        subst q5
        rw [q6]
        rw [show n + 4 - n = 4 by omega] at HT2
        go_enter Tryz.func173, Tryz.ntmps173
        go_wp2_with (first
        | (go_at_call 144; refine newReader_any _ _ _ _ ?_)
        | (go_at_call 174; refine four_any w.heap.size ⟨(bs.drop n).take 4, false⟩ _ g _ (reader_new HT2.out HG.out) (by simp; omega) ?_; intro w1 v1 hr1 hk1; rw [HFR.out]; have HKA : Hid (Kp (fun _ => False) w w1) := ((Kp.alloc (fun _ => False) w _).trans hk1 (fun b hb e => by omega)); clear hr1 hk1)
        | (go_at_call 204; refine (of_any _ (bs.take n) _ (HT.out.kept HKA.out) (by simp; have := HL.out; omega) (HT1.out.rd.kept HKA.out)).mono ?_; rintro e w' ⟨rfl, rfl⟩)
        | fail)
        go_region_law fail
        all_goals
          go_wp2_with fail
          refine bodyPost_ret (results_tmp3 rfl _ _ _) rfl ?_
          exact HF2.out _ (HKA.out.trans (Kp.drew _ _) (fun _ _ h => h))
      · have HF2 := hid_of (HF _ · (RdC.drop (w := w) (g := g) (o := o) hcap hc (n + 4) (by omega)))
        rw [qs] at HFR
        clear h1 h2 hc hT hcap hg hl q hn HF e qs
        go_enter Tryz.func173, Tryz.ntmps173
        go_wp2_with (first
        | (go_at_call 144; refine newReader_any _ _ _ _ ?_)
        | (go_at_call 174; refine four_any w.heap.size ⟨(bs.drop n).take 4, false⟩ _ g _ (reader_new HT2.out HG.out) (by simp; omega) ?_; intro w1 v1 hr1 hk1; rw [HFR.out]; have HKA : Hid (Kp (fun _ => False) w w1) := ((Kp.alloc (fun _ => False) w _).trans hk1 (fun b hb e => by omega)); clear hr1 hk1)
        | (go_at_call 204; refine (of_any _ (bs.take n) _ (HT.out.kept HKA.out) (by simp; have := HL.out; omega) (HT1.out.rd.kept HKA.out)).mono ?_; rintro e w' ⟨rfl, rfl⟩)
        | fail)
        go_region_law fail
        all_goals
          go_wp2_with fail
          refine bodyPost_ret (results_tmp3 rfl _ _ _) rfl ?_
          exact HF2.out _ (HKA.out.trans (Kp.drew _ _) (fun _ _ h => h))
    · have e : unsealB bs n = none := by simp [unsealB, qs]
      have HF := hid_of (h1 e)
      clear h1 h2 hc hT hcap hg hl q hn e
      generalize le4 ((bs.drop n).take 4) = x at HFR qs
      generalize hy : sumB (bs.take n) = y at qs
      have hx : ((x : Int) == (y : Int)) = false := by simp; omega
      go_enter Tryz.func173, Tryz.ntmps173
      go_wp2_with (first
        | (go_at_call 144; refine newReader_any _ _ _ _ ?_)
        | (go_at_call 174; refine four_any w.heap.size ⟨(bs.drop n).take 4, false⟩ _ g _ (reader_new HT2.out HG.out) (by simp; omega) ?_; intro w1 v1 hr1 hk1; rw [HFR.out]; have HKA : Hid (Kp (fun _ => False) w w1) := ((Kp.alloc (fun _ => False) w _).trans hk1 (fun b hb e => by omega)); clear hr1 hk1)
        | (go_at_call 204; refine (of_any _ (bs.take n) _ (HT.out.kept HKA.out) (by simp; have := HL.out; omega) (HT1.out.rd.kept HKA.out)).mono ?_; rintro e w' ⟨rfl, rfl⟩)
        | fail)
      refine bodyPost_ret (results_tmp3 rfl _ _ _) rfl ?_
      exact HF.out _ HKA.out

set_option maxRecDepth 20000 in
set_option maxHeartbeats 400000 in
/-- Too few bytes. -/
theorem unseal_short (p : Option Addr) (len cap n : Nat) (w : World) (hn : n ≤ 100000) (q : len < n + 4)
    (hR : R (.returned (.tuple #[.slice none 0 0, .slice none 0 0, .bool false])) w) :
    Calls Tryz.prog 173 #[.slice p len cap, .int .i64 n] w R := by
  have HF := hid_of hR
  have q' : (len : Int) < (n : Int) + 4 := by omega
  have hn' : (n : Int) ≤ 100000 := by omega
  have hl' : (len : Int) ≤ 1000000 := by omega
  clear hR q
  go_enter Tryz.func173, Tryz.ntmps173
  go_wp2_with fail
  refine bodyPost_ret (results_tmp3 rfl _ _ _) rfl ?_
  exact HF.out

/-- Bytes of a file that is handed in: none, or in one block. -/
def RdN (w : World) (v : Value) (bs : List UInt8) (g : Nat) : Prop :=
  ∃ p cap, v = .slice p bs.length cap ∧ bs.length ≤ cap ∧ (bs ≠ [] → g < w.heap.size ∧ ∃ o, p = some ⟨g, o, none⟩ ∧ ∀ j, j < bs.length → w.cell? ⟨g, o + j, none⟩ = some (b8 (bs.getD j 0)))

theorem RdN.kp {S : Nat → Prop} {w w' : World} {v : Value} {bs : List UInt8} {g : Nat} (h : RdN w v bs g) (hk : Kp S w w') (hs : ¬ S g) : RdN w' v bs g := by
  obtain ⟨p, cap, rfl, hl, hc⟩ := h
  refine ⟨p, cap, rfl, hl, fun hb => ?_⟩
  obtain ⟨hg, o, rfl, hc2⟩ := hc hb
  exact ⟨Nat.lt_of_lt_of_le hg hk.size, o, rfl, fun j hj => (hk.cell (World.block_lt_of_cell? _ _ (hc2 j hj)) hs).trans (hc2 j hj)⟩

theorem RdN.rdc {w : World} {v : Value} {bs : List UInt8} {g : Nat} (h : RdN w v bs g) (hb : bs ≠ []) : RdC w v bs g ∧ g < w.heap.size := by
  obtain ⟨p, cap, rfl, hl, hc⟩ := h
  obtain ⟨hg, o, rfl, hc2⟩ := hc hb
  exact ⟨⟨o, cap, rfl, hl, hc2⟩, hg⟩

theorem unsealN_any (v : Value) (bs : List UInt8) (g n : Nat) (w : World) (h : RdN w v bs g) (hT : Tab w) (hn : n ≤ 100000) (hl : bs.length ≤ 1000000)
    (h1 : unsealB bs n = none → ∀ w', Kp (fun _ => False) w w' → R (.returned (.tuple #[.slice none 0 0, .slice none 0 0, .bool false])) w')
    (h2 : ∀ v1 v2 w', unsealB bs n = some (bs.take n, bs.drop (n + 4)) → g < w.heap.size → RdC w' v1 (bs.take n) g → RdC w' v2 (bs.drop (n + 4)) g → Kp (fun _ => False) w w' → R (.returned (.tuple #[v1, v2, .bool true])) w') :
    Calls Tryz.prog 173 #[v, .int .i64 n] w R := by
  by_cases hb : bs = []
  · obtain ⟨p, cap, rfl, _, _⟩ := h
    subst hb
    exact unseal_short p _ cap n w hn (by simp) (h1 (by simp [unsealB]) w (Kp.refl _ _))
  · obtain ⟨hc, hg⟩ := h.rdc hb
    exact unseal_any v bs g n w hc hg hT hn hl h1 (fun v1 v2 w' e r1 r2 hk => h2 v1 v2 w' e hg r1 r2 hk)

end

end Go.Proofs.YthbdpfccfcceiaaGreatDoor

namespace Go.Proofs.YthbdpfccfcceiaaGreatDoor
open Go.RowKit Go.Maps Go.Lib

theorem nums_getD (bs : List UInt8) (i : Nat) : (bs.map fun b => (b.toNat : Int)).getD i 0 = ((bs.getD i 0).toNat : Int) := by
  simp only [List.getD, List.getElem?_map]
  cases bs[i]? <;> simp

theorem nums_bytes (bs : List UInt8) : Lib.bytesOf (bs.map fun b => (b.toNat : Int)) = bs := by
  simp [Lib.bytesOf, Function.comp_def]

/-- The number that a file's opening tells, if it is right. -/
def cutO (bs : List UInt8) : Option Nat := match unsealB bs 7 with
  | none => none
  | some (c, _) => if [80, 76, 49].isPrefixOf c then some (le4 (c.drop 3)) else none

section
variable {R : Ending → World → Prop}

/-- A beginning, cut off. -/
theorem cutPrefix_rd (v : Value) (bs : List UInt8) (g : Nat) (ob : List UInt8) (g1 c1 : Nat) (w : World) (h : RdC w v bs g) (hob : ∀ j, j < ob.length → w.cell? ⟨g1, 0 + j, none⟩ = some (b8 (ob.getD j 0)))
    (h1 : ob.isPrefixOf bs = false → ∀ v', R (.returned (.tuple #[v', .bool false])) w)
    (h2 : ob.isPrefixOf bs = true → ∀ v', RdC w v' (bs.drop ob.length) g → R (.returned (.tuple #[v', .bool true])) w) :
    Calls Tryz.prog 142 #[v, .slice (some ⟨g1, 0, none⟩) ob.length c1] w R := by
  obtain ⟨o, cap, rfl, hcap, hc⟩ := h
  refine (Tryz.bytes_CutPrefix g o bs.length cap g1 0 ob.length c1 (bs.map fun b => (b.toNat : Int)) (ob.map fun b => (b.toNat : Int)) w (by simp) (by simp) hcap (fun j hj => ?_) (fun j hj => ?_)).mono ?_
  · rw [nums_getD]; exact hc j hj
  · rw [nums_getD]; exact hob j hj
  · rintro e w' ⟨rfl, rfl⟩
    unfold Lib.bytesTrimPrefix
    rw [nums_bytes, nums_bytes]
    show R (.returned (.tuple #[_, .bool (ob.isPrefixOf bs)])) w'
    cases hp : ob.isPrefixOf bs with
    | false => exact h1 hp _
    | true =>
      have hle : ob.length ≤ bs.length := (List.isPrefixOf_iff_prefix.1 hp).length_le
      refine h2 hp _ ?_
      have e0 : Lib.hasPrefix bs ob = true := hp
      rw [if_pos e0]
      unfold Lib.sliceFrom
      rw [List.length_map]
      by_cases hcc : cap = ob.length
      · rw [if_pos hcc]
        have e1 : bs.length - ob.length = 0 := by omega
        have e2 : cap - ob.length = 0 := by omega
        rw [e1, e2]
        exact RdC.dropAll ob.length (by omega)
      · rw [if_neg hcc]
        exact RdC.drop (w := w') (g := g) (o := o) hcap hc ob.length hle

theorem pl1_cells (w : World) : ∀ j, j < [80, 76, 49].length → (w.alloc (.cells #[.int .u8 80, .int .u8 76, .int .u8 49] 5 (3, 4))).cell? ⟨w.heap.size, 0 + j, none⟩ = some (b8 (([80, 76, 49] : List UInt8).getD j 0)) := fun j hj => by
  have hb := heap_alloc_new w (.cells #[.int .u8 80, .int .u8 76, .int .u8 49] 5 (3, 4))
  rw [Nat.zero_add]
  rcases (by simp at hj; omega : j = 0 ∨ j = 1 ∨ j = 2) with rfl | rfl | rfl <;> exact cell_of hb _

set_option maxRecDepth 20000 in
set_option maxHeartbeats 1000000 in
theorem cutOpening_any (v : Value) (bs : List UInt8) (g : Nat) (w : World) (h : RdN w v bs g) (hT : Tab w) (hl : bs.length ≤ 1000000)
    (h1 : cutO bs = none → ∀ w', Kp (fun _ => False) w w' → R (.returned (.tuple #[.int .i64 0, .slice none 0 0, .bool false])) w')
    (h2 : ∀ (n : Nat) v' w', cutO bs = some n → g < w.heap.size → RdC w' v' (bs.drop 11) g → Kp (fun _ => False) w w' → R (.returned (.tuple #[.int .i64 n, v', .bool true])) w') :
    Calls Tryz.prog 128 #[v] w R := by
  have H := hid_of h
  have HT := hid_of hT
  have HL := hid_of hl
  have H1 := hid_of h1
  have H2 := hid_of h2
  clear h hT hl h1 h2
  go_enter Tryz.func128, Tryz.ntmps128
  go_wp2_with (first
    | (go_at_call 173; refine unsealN_any _ bs g 7 _ H.out HT.out (by omega) HL.out ?_ ?_)
    | fail)
  · intro e w1 hk1
    have HF := hid_of (H1.out (by simp [cutO, e]) w1 hk1)
    clear hk1
    go_wp2_with fail
    refine bodyPost_ret (results_tmp3 rfl _ _ _) rfl ?_
    exact HF.out
  · intro v1 v2 w1 e hg hr1 hr2 hk1
    have h7 : 11 ≤ bs.length := by
      unfold unsealB at e
      split at e
      · cases e
      · rename_i hq
        omega
    have hcv := run_convert_bytes_const (P := Tryz.prog) w1 48 5 #[.int .u8 80, .int .u8 76, .int .u8 49] 3 3 Tryz.underlying48 Tryz.underlying5
    obtain ⟨o1, c1, rfl, hcap1, hc1⟩ := hr1
    obtain ⟨o2, c2, rfl, hcap2, hc2⟩ := hr2
    have l7 : (bs.take 7).length = 7 := by simp; omega
    obtain ⟨n2, hn2⟩ : ∃ n, (bs.drop (7 + 4)).length = n := ⟨_, rfl⟩
    have HR1 : Hid (RdC w1 (.slice (some ⟨g, o1, none⟩) 7 c1) (bs.take 7) g) := ⟨o1, c1, by rw [l7], hcap1, hc1⟩
    have HR2 : Hid (RdC w1 (.slice (some ⟨g, o2, none⟩) n2 c2) (bs.drop (7 + 4)) g) := ⟨o2, c2, by rw [hn2], hcap2, hc2⟩
    have HK1 := hid_of hk1
    have HG := hid_of hg
    have HE := hid_of e
    have H7 := hid_of h7
    rw [l7, hn2]
    clear hc1 hc2 hcap1 hcap2 hk1 hg e h7 l7 hn2
    go_wp2_with (first
      | (go_at_call 142; refine cutPrefix_rd _ (bs.take 7) g [80, 76, 49] w1.heap.size 3 _ (HR1.out.kept (Kp.alloc _ _ _)) (pl1_cells w1) ?_ ?_)
      | fail)
    · intro hp v3
      have HF := hid_of (H1.out (by simp only [cutO, HE.out]; rw [hp]; rfl) _ (HK1.out.trans (Kp.alloc (fun _ => False) w1 (.cells #[.int .u8 80, .int .u8 76, .int .u8 49] 5 (3, 4))) (fun _ _ h => h)))
      clear hp
      go_wp2_with fail
      refine bodyPost_ret (results_tmp3 rfl _ _ _) rfl ?_
      exact HF.out
    · intro hp v3 hr3
      obtain ⟨o3, c3, rfl, hcap3, hc3⟩ := hr3
      have l3 : ((bs.take 7).drop 3).length = 4 := by have := H7.out; simp; omega
      have HR3 : Hid (RdC (w1.alloc (.cells #[.int .u8 80, .int .u8 76, .int .u8 49] 5 (3, 4))) (.slice (some ⟨g, o3, none⟩) 4 c3) ((bs.take 7).drop 3) g) := ⟨o3, c3, by rw [l3], hcap3, hc3⟩
      rw [l3]
      have e4 : (⟨(bs.take 7).drop 3, false⟩ : RS).four.1 = le4 ((bs.take 7).drop 3) := by
        have := H7.out
        simp only [RS.four, RS.take]
        rw [if_neg (by simp; omega)]
        rw [List.take_of_length_le (by simp; omega)]
      have HE4 := hid_of e4
      have HG3 : Hid (g < (w1.alloc (.cells #[.int .u8 80, .int .u8 76, .int .u8 49] 5 (3, 4))).heap.size) := by
        show _ < _
        have := HG.out; have := HK1.out.size
        simp; omega
      have HL3 : Hid (((bs.take 7).drop 3).length ≤ 1000000) := by
        show _ ≤ _
        rw [l3]; omega
      have hlt := le4_lt ((bs.take 7).drop 3)
      have HC : Hid (cutO bs = some (le4 ((bs.take 7).drop 3))) := by
        show _ = _
        simp only [cutO, HE.out]
        rw [if_pos (by simpa using hp)]
      generalize le4 ((bs.take 7).drop 3) = x at HE4 HC hlt e4
      have hlt' : (x : Int) < 4294967296 := by omega
      have e64 : wrap64 (x : Int) = (x : Int) := by
        have h64 : IntKind.i64.wrap (x : Int) = (x : Int) := IntWalk.i64_in _ (by omega)
        exact IntWalk.i64_left _ ▸ h64
      have HF := hid_of (fun w' => H2.out x (.slice (some ⟨g, o2, none⟩) n2 c2) w' HC.out HG.out)
      clear hc3 hcap3 hp e4 hlt l3
      have kX := Kp.alloc (fun _ => False) w1 (.cells #[.int .u8 80, .int .u8 76, .int .u8 49] 5 (3, 4))
      generalize w1.alloc (.cells #[.int .u8 80, .int .u8 76, .int .u8 49] 5 (3, 4)) = A at HR3 HG3 kX ⊢
      have KX := hid_of kX
      clear kX
      go_wp2_with (first
        | (go_at_call 144; refine newReader_any _ _ _ _ ?_)
        | (go_at_call 174; refine four_any _ ⟨(bs.take 7).drop 3, false⟩ _ g _ (reader_new HR3.out HG3.out) HL3.out ?_; intro w4 v4 hr4 hk4; rw [HE4.out]; have HK4 := hid_of hk4; clear hr4 hk4)
        | fail)
      have kA : Kp (fun _ => False) w1 w4 := KX.out.trans ((Kp.alloc (fun b => b = A.heap.size) A _).trans HK4.out (fun _ _ h => h)) (fun b hb e => by have := KX.out.size; omega)
      refine bodyPost_ret (results_tmp3 rfl _ _ _) rfl ?_
      first
        | exact HF.out _ (HR2.out.kept kA) (HK1.out.trans kA (fun _ _ h => h))
        | (rw [e64]; exact HF.out _ (HR2.out.kept kA) (HK1.out.trans kA (fun _ _ h => h)))

end

end Go.Proofs.YthbdpfccfcceiaaGreatDoor
