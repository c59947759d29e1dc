/-
  What was synced outlives a crash: the law, for every input.
  Acts as they come in: how the arguments of the laws lie in memory.
  The tables of the program, as the row lists them: what the walks ask of memory.
  A row that says 'leaving', from the same row without that word: who is alone at the return has nobody beside it.
  What the program says of itself, fact by fact: what every row of these laws asks.
-/
import Derived.Test.YthbdpfccfcceiaaGreatDoorF30F31
import Derived.Test.YthbdpfccfcceiaaGreatDoorE5E6
import Derived.Test.YthbdpfccfcceiaaGreatDoorRows
import Derived.ProofKit
import Derived.OpenShut
import Derived.WideKeyArgs
import Derived.Deep.Slices
import Derived.Test.YthbdpfccfcceiaaGreatDoorY1Y2D1
import Derived.LaidMore
import Derived.Stop.Joined
import Derived.Test.YthbdpfccfcceiaaGreatDoorProg
import Derived.JoinedCond
import Derived.Leaving
import Derived.ClaimOpenTies
import Derived.SevenTiedAt
import Derived.Test.YthbdpfccfcceiaaGreatDoorChecked
import Derived.KernelRfl
namespace Go.Proofs.YthbdpfccfcceiaaGreatDoor
open Go.RowKit

section
variable {R : Ending → World → Prop}

theorem first_full {w w' : World} {p : Nat} {s : XS} (hF : First s) (ok : XOk s) (S : St (fun b => b < w.heap.size) w' p s) (k : Kp (fun _ => False) w w') : ∃ ws, Full w p s [ws] w' ∧ s.log.sy = 0 := by
  obtain ⟨ws, g1, g2, g3, g4⟩ := hF.lgc
  have e := wrL_eq g1
  refine ⟨ws, ⟨S, ok, fun k hk => ?_, ⟨hF.now, hF.hor, fun k => ?_, fun k m => ?_, by rw [g3]; rfl, Nat.le_refl _⟩, fun x hx => ?_, hF.txs, hF.nopen, by rw [hF.begun]; simp, k⟩, g4⟩
  · rw [hF.mom] at hk
    by_cases e : k = ka
    · rw [e]; exact keyN_mem 0
    · rw [if_neg e] at hk; exact absurd rfl hk
  · rw [hF.mom]
    simp only [List.length_cons, List.length_nil, momE, List.getD_cons_zero, e]
    by_cases ek : k = ka
    · subst ek; simp [updS]
    · simp [updS, ek]
  · rw [hF.ver]
    simp only [List.length_cons, List.length_nil, verE, List.getD_cons_zero, e]
    by_cases ek : k = ka
    · subst ek
      by_cases em : m = 1
      · subst em; simp [updS]
      · simp [updS, em]
    · simp [updS, ek]
  · rw [List.mem_singleton] at hx
    subst hx
    refine comOk_of g1 g2 ⟨ka, by rw [updS_same]; rfl⟩ (fun k v h => ?_)
    by_cases ek : k = ka
    · subst ek
      rw [updS_same] at h
      injection h with h
      subst h
      exact ⟨isKey_a, by decide, fun e => by cases e⟩
    · rw [updS_other _ ek] at h; cases h

theorem e_fallen (w : World) (hT : Tab w) (v0 v : Value) (NN n : Nat) (f : Nat → A3) (hv0 : ActsIn w v0 NN f) (m : Nat → Int)
    (hv : ∃ a cap, v = .slice a n cap ∧ n ≤ 140737488355328 ∧ (0 < n → ∃ g off, a = some ⟨g, off, none⟩ ∧ g < w.heap.size ∧ ∀ i, i < n → w.cell? ⟨g, off + i, none⟩ = some (.int .i64 (m i)) ∧ I64 (m i)))
    (kp : Int) (hkp : I64 kp) (hR : ∀ w', Kp (fun _ => False) w w' → R (.returned (.bool true)) w') :
    Calls Tryz.prog 6 #[v0, v, .int .i64 kp] w R := by
  obtain ⟨a0, cap0, rfl, hn0, hv0'⟩ := hv0
  obtain ⟨a, cap, rfl, hn, hv'⟩ := hv
  refine fallen_walk w a0 NN cap0 f hn0 hv0' a n cap m hn hv' kp hkp (FalI w) (FalJ w) ?_ ?_ ?_ ?_ ?_ ?_ ?_ hR
  · rintro i p safe w' ⟨s, es, h, hl, hi, b, rfl, hb, _⟩
    exact ⟨h.kp, by omega, by omega⟩
  · refine e_filled w hT _ 0 f ⟨none, 0, rfl, by unfold maxLen; omega, fun h => absurd h (by omega)⟩ (fun w1 p s hr ok S1 k1 => ⟨p, rfl, ?_⟩)
    have hF : First s := hr
    obtain ⟨ws, h, hsy⟩ := first_full hF ok S1 k1
    exact ⟨s, [ws], h, rfl, Nat.zero_le _, 0, rfl, Nat.zero_le _, by rw [sizeB_zero, hsy]⟩
  · rintro i p safe w' ⟨s, es, h, hl, hi, b, rfl, hb, hsy⟩ h1 h2
    obtain ⟨g, off, _, hA⟩ := hv0' (by omega)
    have hok := hA.ok i h1
    refine h.commits (by omega) _ _ _ hok.1 hok.2.1 hok.2.2 (fun w2 s2 ws F2 hs2 => ⟨rfl, F2.kp, fun _ => ?_, fun _ => ?_⟩)
    · exact ⟨s2, es ++ [ws], F2, by simp; omega, by omega, b, rfl, by omega, by rw [hs2, hsy, sizeB_app (by omega)]⟩
    · refine e_sync F2.st F2.ok (fun w3 S3 k3 => ⟨rfl, ?_⟩)
      have hn3 := F2.hist.now
      refine e_now S3 ⟨_, rfl, ?_⟩
      refine ⟨synced s2, es ++ [ws], ⟨S3, F2.ok.synced, F2.six, ⟨F2.hist.now, F2.hist.hor, F2.hist.mom, F2.hist.ver, F2.hist.lg, F2.hist.le⟩, F2.good, F2.txs, F2.nopen, F2.beg, F2.kp.trans k3 (fun b hb e => e hb)⟩, by simp; omega, by omega, (es ++ [ws]).length, hn3, by simp; omega, F2.hist.size⟩
  · rintro p safe w' ⟨s, es, h, hl, hi, b, rfl, hb, hsy⟩
    have hlg : s.log.lg = lgF 1 es := by rw [h.hist.lg, List.take_length]
    have hnow := h.hist.now
    have hpk := pk_lt kp (n := 200) (by decide)
    refine e_now h.st ⟨_, rfl, ?_⟩
    refine e_crash h.st h.ok (pk kp 200) (by omega) (fun v3 lv3 w3 hf3 k3 => ?_)
    have hle := leftN_le h.ok.sy (pk kp 200)
    rw [hlg] at hf3 hle
    obtain ⟨a3, c3, rfl⟩ := ownsRow_slice hf3.row
    refine ⟨a3, _, c3, rfl, ?_⟩
    have h3 := h.kept k3
    obtain ⟨own, hx, hN⟩ := h3.st
    refine e_recover hN.tab h.good (by omega) _ lv3 hf3 (fun w4 q k r S4 k4 ok4 H4 ht4 hb4 ho4 _ hk4 => ⟨q, rfl, ?_⟩)
    have hbk : b ≤ k := hk4 b (by omega) (by omega)
    have hkl := H4.le
    have hkn := H4.now
    have h4 := h3.kept k4
    have six4 : Six r := fun key hk => h.six key (by
      rw [h.hist.mom]
      rw [H4.mom] at hk
      exact momE_ne hkl hk)
    have S4' : St (fun b => b < w.heap.size) w4 q r := S4.mono (fun b hb => Nat.lt_of_lt_of_le hb h3.kp.size)
    have lk : (es.take k).length = k := by rw [List.length_take]; omega
    have R4 : Full w q r (es.take k) w4 := ⟨S4', ok4, six4, by rw [lk]; exact H4.cut, fun ws hw => h.good ws (List.mem_of_mem_take hw), ht4, ho4, by rw [hb4, lk]; omega, h4.kp⟩
    refine e_now S4 ⟨_, rfl, by omega, by omega, by omega, by omega, ?_⟩
    refine e_toldTo h4.st h4.ok h4.six r.now h4.hist.hor (by omega) (fun w6 v6 k6 t6 => ?_)
    obtain ⟨a6, c6, rfl, t6'⟩ := t6
    refine ⟨a6, _, c6, rfl, by omega, ?_⟩
    have h6 := h4.kept k6
    have R6 := R4.kept k6
    refine e_toldTo R6.st R6.ok R6.six r.now R6.hist.hor (by omega) (fun w7 v7 k7 t7 => ?_)
    obtain ⟨a7, c7, rfl, t7'⟩ := t7
    refine ⟨a7, c7, rfl, s, es, r, k, h6.kept k7, by omega, hnow, hkn, hkl, R6.kept k7, w4.heap.size, w6.heap.size, w6.heap.size, w7.heap.size, fun j => pairs6 fun key => valAt r key j, ?_, ⟨a7, c7, rfl, t7'⟩, fun j => pairs6_len _⟩
    have t6 : ToldAt w4.heap.size w6.heap.size w6 (.slice a6 (r.now + 1).toNat c6) (r.now + 1).toNat (fun j => pairs6 fun key => valAt s key j) := ⟨a6, c6, rfl, t6'⟩
    have t7 := t6.kp k7 (fun _ _ _ e => e)
    obtain ⟨b1, b2, b3, b4, b5⟩ := t7
    refine ⟨b1, b2, b3, b4, fun h0 => ?_⟩
    obtain ⟨g, e1, e2, e3, e4⟩ := b5 h0
    refine ⟨g, e1, e2, e3, fun j hj => ?_⟩
    obtain ⟨v', c1, c2⟩ := e4 j hj
    refine ⟨v', c1, ?_⟩
    have e : (fun key => valAt r key (j : Int)) = fun key => valAt s key (j : Int) := by
      funext key
      exact (hist_val H4 h.hist hkl key (by omega)).symm
    show PairsAt _ _ _ _ (pairs6 fun key => valAt r key (j : Int))
    rw [e]
    exact c2
  · rintro p q t now va vb nt w' ⟨s, es, r, k, _, _, _, _, _, _, h⟩
    exact h
  · rintro p q t now va vb nt w' w'' ⟨s, es, r, k, h1, h2, h3, h4, h5, h6, lo, hi, lo', hi', L, t1, t2, h7⟩ kk
    exact ⟨s, es, r, k, h1.kept kk, h2, h3, h4, h5, h6.kept kk, lo, hi, lo', hi', L, t1.kp kk (fun _ _ _ e => e), t2.kp kk (fun _ _ _ e => e), h7⟩
  · rintro p q t now va vb nt w' ⟨s, es, r, k, h, hl, rfl, rfl, hk, hr, _⟩
    have lk : (es.take k).length = k := by rw [List.length_take]; omega
    refine h.again (by omega) (fun w2 a2 n2 c2 k2 hrec => ⟨a2, n2, c2, rfl, hrec.mono ?_⟩)
    rintro e w3 ⟨q2, rfl, k3, s3, N3, S3, hn3⟩
    refine ⟨q2, rfl, e_now S3 ⟨by rw [hn3], ?_⟩⟩
    have hr3 := (hr.kept k2).kept k3
    refine hr3.commits (by omega) 1 7 0 (by unfold I64; omega) (by unfold I64; omega) (by unfold I64; omega) (fun w4 s4 ws F4 _ => ⟨rfl, ?_⟩)
    refine F4.again (by simp; omega) (fun w5 a5 n5 c5 k5 hrec5 => ⟨a5, n5, c5, rfl, hrec5.mono ?_⟩)
    rintro e5 w6 ⟨q6, rfl, k6, s6, N6, S6, hn6⟩
    refine ⟨q6, rfl, e_now S6 ⟨by rw [hn6]; simp [lk], ?_⟩⟩
    exact (F4.kp.trans k5 (fun _ _ h => h)).trans k6 (fun _ _ h => h)

end

end Go.Proofs.YthbdpfccfcceiaaGreatDoor

namespace Go.Proofs.YthbdpfccfcceiaaGreatDoor
open Go.ChangeShapes Go.WideShapes Go.ChangeAt Go.RowKit

theorem kp_own : ownKnob Tryz.prog.godebug = none := by kernel_rfl
theorem act_cells : Tryz.prog.cellsOf 31 = 3 := by kernel_rfl
theorem k_c3 : Tryz.prog.cellsOf 3 = 1 := by kernel_rfl
theorem k_laid : laidOutB Tryz.prog = true := by kernel_rfl
theorem acts_readable : Tryz.prog.readableRec 25 = true := by kernel_rfl
theorem acts_row : 25 < Tryz.prog.types.size := of_decide_eq_true (by kernel_rfl)
theorem act_readable : Tryz.prog.readableRec 31 = true := by kernel_rfl
theorem act_row : 31 < Tryz.prog.types.size := of_decide_eq_true (by kernel_rfl)

theorem list_three {cs : List Value} (h : cs.length = 3) : ∃ c0 c1 c2, cs = [c0, c1, c2] := by
  match cs, h with
  | [c0, c1, c2], _ => exact ⟨c0, c1, c2, rfl⟩

section
variable {H : Type} {enc : TypeId × Value → H} {W : World}

/-- An act as it comes in. -/
theorem open_act {n : Nat} {cs : List Value} {d : DataW H} {pl : List MemPlace} (h : DataW.trod enc Tryz.prog W 0 (fun _ => true) true n 31 cs = some (d, pl)) : ∃ x : A3, (I64 x.1 ∧ I64 x.2.1 ∧ I64 x.2.2) ∧ cs = [.int .i64 x.1, .int .i64 x.2.1, .int .i64 x.2.2] := by
  obtain ⟨xs, k, _, hx, hlen, hxl, hf⟩ := DataW.trod_struct Tryz.underlying31 h
  rw [act_cells] at hlen
  have hxl3 : xs.length = 3 := hxl
  obtain ⟨c0, c1, c2, rfl⟩ := list_three hlen
  have one : ∀ (j : Nat), j < 3 → ∃ y, xs[j]? = some y := fun j hj => ⟨_, List.getElem?_eq_getElem (by omega)⟩
  obtain ⟨y0, e0⟩ := one 0 (by omega)
  obtain ⟨y1, e1⟩ := one 1 (by omega)
  obtain ⟨y2, e2⟩ := one 2 (by omega)
  have g0 : DataW.trod enc Tryz.prog W 0 (fun _ => true) true k 3 (([c0, c1, c2].drop 0).take (Tryz.prog.cellsOf 3)) = some y0 := (hf 0 _ rfl).trans e0
  have g1 : DataW.trod enc Tryz.prog W 0 (fun _ => true) true k 3 (([c0, c1, c2].drop 1).take (Tryz.prog.cellsOf 3)) = some y1 := (hf 1 _ rfl).trans e1
  have g2 : DataW.trod enc Tryz.prog W 0 (fun _ => true) true k 3 (([c0, c1, c2].drop 2).take (Tryz.prog.cellsOf 3)) = some y2 := (hf 2 _ rfl).trans e2
  rw [k_c3] at g0 g1 g2
  obtain ⟨z0, q0, _, w0⟩ := DataW.trod_int Tryz.underlying3 g0
  obtain ⟨z1, q1, _, w1⟩ := DataW.trod_int Tryz.underlying3 g1
  obtain ⟨z2, q2, _, w2⟩ := DataW.trod_int Tryz.underlying3 g2
  simp at q0 q1 q2
  subst q0; subst q1; subst q2
  have rng : ∀ z : Int, (Lit.int .i64 z).wf = true → I64 z := fun z h => by
    have m0 : IntKind.i64.min = -9223372036854775808 := rfl
    unfold I64
    simp [Lit.wf] at h
    omega
  exact ⟨(z0, z1, z2), ⟨rng z0 w0, rng z1 w1, rng z2 w2⟩, rfl⟩

/-- An act that comes in by itself. -/
theorem open_one {v : Value} {d : DataW H} {pl : List MemPlace} (hv : ∃ cs, v = .agg cs ∧ cs.size = Tryz.prog.cellsOf 31) (h : DataW.Trod enc Tryz.prog W 0 (fun _ => true) true 31 v d pl) : ∃ a1 a2 a3, (I64 a1 ∧ I64 a2 ∧ I64 a3) ∧ v = actV a1 a2 a3 := by
  obtain ⟨cs, rfl, _⟩ := hv
  obtain ⟨fuel, hf⟩ := h
  obtain ⟨x, hx, e⟩ := open_act hf
  refine ⟨x.1, x.2.1, x.2.2, hx, ?_⟩
  have : cs.toList = [.int .i64 x.1, .int .i64 x.2.1, .int .i64 x.2.2] := by simpa [Value.cells] using e
  unfold actV
  congr 1
  apply Array.toList_inj.1
  simpa using this

theorem add_plain (b off k : Nat) : (⟨b, off, none⟩ : Addr).add k = ⟨b, off + k, none⟩ := by
  unfold Addr.add
  split <;> simp_all

/-- Acts as they come in. -/
theorem open_acts {v : Value} {d : DataW H} {pl : List MemPlace} (hv : ∃ a len cap, v = .slice a len cap) (h : DataW.Trod enc Tryz.prog W 0 (fun _ => true) true 25 v d pl) : ∃ n f, ActsIn W v n f := by
  obtain ⟨a0, len0, cap0, rfl⟩ := hv
  obtain ⟨fuel, hf⟩ := h
  rcases Deep.open_slice Tryz.underlying25 hf with ⟨hc, _⟩ | ⟨a, len, cap, m, n, D, Pl, hc, hsz, hl, hcp, hm, hx, hel⟩
  · have hc' : Value.slice a0 len0 cap0 = .slice none 0 0 := by simpa [Value.cells] using hc
    rw [hc']
    exact ⟨0, fun _ => (0, 0, 0), none, 0, rfl, Nat.zero_le _, fun h => absurd h (by omega)⟩
  · have hc' : Value.slice a0 len0 cap0 = .slice (some a) len cap := by simpa [Value.cells] using hc
    rw [hc']
    simp only [if_true] at hm
    subst hm
    rw [act_cells] at hel
    haveI : Inhabited A3 := ⟨(0, 0, 0)⟩
    obtain ⟨f, hfs⟩ := Deep.choose_lt (α := A3) (n := len) (p := fun i x => (I64 x.1 ∧ I64 x.2.1 ∧ I64 x.2.2) ∧ W.cells? 0 (a.add (i * 3)) 3 = some [.int .i64 x.1, .int .i64 x.2.1, .int .i64 x.2.2]) (fun i hi => by
      obtain ⟨cs', h1, h2⟩ := hel i (by omega)
      obtain ⟨x, hx, rfl⟩ := open_act h2
      exact ⟨x, hx, h1⟩)
    refine ⟨len, f, some a, _, rfl, by omega, fun h0 => ?_⟩
    have cell : ∀ i, i < len → ∀ k, k < 3 → W.cell? ((a.add (i * 3)).add k) = [Value.int .i64 (f i).1, .int .i64 (f i).2.1, .int .i64 (f i).2.2][k]? := fun i hi k hk => (World.cells?_some (hfs i hi).2).2.2 k hk
    have hspot : a.spot = none := by
      have h1 := cell 0 h0 0 (by omega)
      have h2 : (a.add (0 * 3)).add 0 = a := by simp [Addr.add]
      rw [h2] at h1
      have h3 : W.cell? a = some (.int .i64 (f 0).1) := h1
      unfold World.cell? at h3
      cases hsp : a.spot with
      | none => rfl
      | some _ =>
        rw [hsp] at h3
        split at h3
        · simp at h3
        · cases h3
    obtain ⟨b, off, spot⟩ := a
    dsimp only at hspot
    subst hspot
    refine ⟨b, off, rfl, ⟨fun i hi => by have h := cell i hi 0 (by omega); rw [add_plain, add_plain] at h; exact h, fun i hi => by have h := cell i hi 1 (by omega); rw [add_plain, add_plain] at h; exact h, fun i hi => by have h := cell i hi 2 (by omega); rw [add_plain, add_plain] at h; exact h, ?_, fun i hi => (hfs i hi).1⟩⟩
    have h1 : W.cell? ⟨b, off, none⟩ = some (.int .i64 (f 0).1) := by simpa [Addr.add] using cell 0 h0 0 (by omega)
    exact World.block_lt_of_cell? W _ h1

theorem kp_keptBut {W W' : World} (k : Kp (fun _ => False) W W') (may : MemPlace → Prop) : W.keptBut W' may := by
  refine ⟨k.os, k.output, fun i hi => ?_⟩
  rw [k.block i hi (fun h => h)]
  split
  · rename_i c t fr c' t' fr' h1 h2
    rw [h1] at h2
    injection h2 with h2
    injection h2 with h2 h3 h4
    subst h2; subst h3; subst h4
    exact ⟨rfl, rfl, rfl, fun _ _ => rfl⟩
  · rename_i es clock es' clock' h1 h2
    rw [h1] at h2
    injection h2 with h2
    injection h2 with h2 h3
    exact Or.inr ⟨h2.symm, h3.symm⟩
  · rfl

theorem kp_sameAt {W W' : World} (k : Kp (fun _ => False) W W') (p : MemPlace) (hp : p.block < W.heap.size) : W.sameAt W' p := by
  cases p with
  | cell b off => exact k.cell (a := ⟨b, off, none⟩) hp (fun h => h)
  | map b => exact k.block b hp (fun h => h)

end

end Go.Proofs.YthbdpfccfcceiaaGreatDoor

namespace Go.Proofs.YthbdpfccfcceiaaGreatDoor
open Go.ChangeShapes Go.WideShapes Go.ChangeAt Go.RowKit

abbrev laid2 : List (String × DataW Unit) := Rows.txsRow.laid
def nLow : String := match laid2 with | x :: _ => x.1 | [] => Rows.txsRow.func
def nHigh : String := match laid2 with | _ :: x :: _ => x.1 | _ => Rows.txsRow.func

theorem gLow : Tryz.prog.globalNamed nLow = some 0 := by kernel_rfl
theorem gHigh : Tryz.prog.globalNamed nHigh = some 1 := by kernel_rfl
theorem tLow : (Tryz.prog.globals[0]?).map (·.type) = some 349 := by kernel_rfl
theorem tHigh : (Tryz.prog.globals[1]?).map (·.type) = some 349 := by kernel_rfl
theorem c_u32 : Tryz.prog.cellsOf 230 = 1 := by kernel_rfl

def litI : DataW Unit → Int
  | .lit (.int _ n) => n
  | _ => 0
def partsI : DataW Unit → List Int
  | .agg l => l.map litI
  | _ => []
theorem low_crc : partsI Rows.laid_palimpsest_sums_lowSums = (List.range 128).map fun i => (crc8 i : Int) := by decide +kernel
theorem high_crc : partsI Rows.laid_palimpsest_sums_highSums = (List.range 128).map fun i => (crc8 (i + 128) : Int) := by decide +kernel

/-- A table that reads as a list of numbers. -/
theorem table_cells {W : World} {n : String} {g : Nat} {d : DataW Unit} {cs : Array Value} {fuel : Nat} {ps : List MemPlace} {f : Nat → Nat} (hg : Tryz.prog.globalNamed n = some g) (hv : W.var? Tryz.prog n = some cs) (hd : DataW.trod (fun _ => ()) Tryz.prog W 0 (fun _ => true) false fuel 349 cs.toList = some (d, ps)) (hp : partsI d = (List.range 128).map fun i => (f i : Int)) :
    ∀ i : Nat, i < 128 → W.cell? ⟨g, i, none⟩ = some (.int .u32 (f i : Nat)) := by
  intro i hi
  obtain ⟨xs, m, _, hx, _, hxl, hel⟩ := DataW.trod_array Tryz.underlying349 hd
  have h0 := hel i hi
  rw [c_u32, Nat.mul_one] at h0
  rw [List.getElem?_eq_getElem (by omega)] at h0
  obtain ⟨k, e1, e2, _⟩ := DataW.trod_int Tryz.underlying230 h0
  have hk : k = (f i : Int) := by
    have h1 : (partsI d)[i]? = some (f i : Int) := by rw [hp, List.getElem?_map, List.getElem?_range hi]; rfl
    have hd' : d = .agg (xs.map (·.1)) := by injection hx
    rw [hd'] at h1
    simp only [partsI, List.map_map, List.getElem?_map] at h1
    rw [List.getElem?_eq_getElem (by omega), e2] at h1
    simpa [litI] using h1
  subst hk
  rw [World.var?_cell hg hv i]
  rw [← Array.getElem?_toList]
  have : (cs.toList.drop i).head? = some (.int .u32 (f i : Nat)) := by
    have h2 := congrArg List.head? e1
    rw [List.head?_take] at h2
    simpa using h2
  rw [List.head?_drop] at this
  exact this

theorem tab_of_laid {W : World} (h : laidMetH Tryz.prog laid2 W) : Tab W := by
  rw [MakeChecks.laidMetH_plain _ _ _ (by kernel_rfl)] at h
  obtain ⟨ps, ⟨g0, t0, cs0, f0, p0, q0, hg0, ht0, hv0, hd0, ⟨g1, t1, cs1, f1, p1, q1, hg1, ht1, hv1, hd1, _, _⟩, _⟩, _, _⟩ := h
  obtain rfl := Option.some.inj (gLow.symm.trans hg0)
  obtain rfl := Option.some.inj (gHigh.symm.trans hg1)
  obtain rfl := Option.some.inj (tLow.symm.trans ht0)
  obtain rfl := Option.some.inj (tHigh.symm.trans ht1)
  exact fun i hi => ⟨table_cells gLow hv0 hd0 low_crc i hi, table_cells (f := fun i => crc8 (i + 128)) gHigh hv1 hd1 high_crc i hi⟩

theorem door_met (os : Os) (args : Array Value) : laidMetH Tryz.prog laid2 ((World.doorLaid Tryz.prog 400 os).forCall (fun _ _ => 0) ⟨#[], args, []⟩).memory :=
  laidMetH_of_parts3 (fuel := 8) (laidMet_of_run' 8 (by kernel_rfl) (by kernel_rfl)) (by kernel_rfl) (by kernel_rfl)

end Go.Proofs.YthbdpfccfcceiaaGreatDoor

namespace Go.Proofs.YthbdpfccfcceiaaGreatDoor

theorem alone_leaving {P : Program} {m : Machine} {w : World} {t : Trace} (h : aloneAtReturn P m w t) : leavingAtReturn P m w t := ⟨h.2.1, onlyLeaving_of_quiet h.1, h.2.2⟩

/-- The same row, but for its word on the others. -/
abbrev lv (c : OpenClaim) (b : Bool) : OpenClaim := { c with leaving := b }

theorem form_leaving {c : OpenClaim} (hst : c.start = .entering) (hs : c.stops = []) {C : Checked} {os : Os} {f : FuncId} {L : List FuncId} {Pre : World → Array Value → Prop} {Post : Stop.Interp → World → Array Value → Value → World → Prop}
    (h : (lv c false).form C os f L Pre Post) : (lv c true).form C os f L Pre Post := by
  unfold OpenClaim.form at h ⊢
  have e1 : ∀ b, (lv c b).start = .entering := fun _ => hst
  have e2 : ∀ b, (lv c b).stops = [] := fun _ => hs
  rw [e1, e2] at h ⊢
  exact fun F => ReturnsInOpen.mono (atReturn := aloneAtReturn C.prog) (fun _ _ _ h => alone_leaving h) (fun _ h => h) (h F)

theorem holds_leaving {p : Pinned} {s : OpenSpec} {c : OpenClaim} (hst : c.start = .entering) (hs : c.stops = []) (hw : (lv c true).wf s = true) (h : (lv c false).holds p s) : (lv c true).holds p s := by
  obtain ⟨_, a1, a2, a3, a4, a5, a6, a7, f, fn, b1, b2, b3, b4, b5, b6, b7, b8, b9, b10, b11, b12, b13, b14, b15, b16, b17, b18, b19, b20, b21, L, hL, hF⟩ := h
  exact ⟨hw, a1, a2, a3, a4, a5, a6, a7, f, fn, b1, b2, b3, b4, b5, b6, b7, b8, b9, b10, b11, b12, b13, b14, b15, b16, b17, b18, b19, b20, b21, L, hL, fun os h1 h2 H enc inj => form_leaving hst hs (hF os h1 h2 H enc inj)⟩

/-- A card of a row whose variables are tied, where the call can start goroutines. -/
theorem card_goes {p : Pinned} {s : OpenSpec} {c : OpenClaim} (kinds : List LaidKind) (har : Bool × String) (lk : Bool)
    (hc : c.holds p s) (hw : c.wfByText s = true) (htie : c.laidByTextAt .later p kinds true)
    (hst : c.start = .entering) (hnb : c.noBlocks = false ∧ c.again = false) (hm : p.checked.prog.mainIs = some (har.1, har.2.toList)) (hn : (!har.1 && har.2.isEmpty && !lk) = false)
    (hl : ∀ f fn, p.checked.prog.funcNamed c.func = some f → p.checked.prog.funcs[f]? = some fn → lk = p.checked.prog.looks [] ∧ ∀ (j : Nat) t, fn.params[j]? = some t → p.checked.prog.wantsStandIn t = false)
    (hg : true = c.goesBy p.checked.prog) :
    Claim7.holds p (.plain s) { stood := { row := c, standIns := [], harness := har, looks := lk }, kinds := [], alts := [], goes := true, laidByText := true, laidKinds := kinds, laidTests := true, laidLooks := .later } := by
  refine ⟨Claim7.tied_new_at .later kinds true (Claim7.new_of_sixth hc har lk hst hnb hm (by simpa [Claim7.isSixth] using hn) hl) hw, fun D hD => ?_, htie, fun h => ?_, hg⟩
  · cases hD
  · cases h

end Go.Proofs.YthbdpfccfcceiaaGreatDoor

namespace Go.Proofs.YthbdpfccfcceiaaGreatDoor

theorem and_two {a b : Bool} (h1 : a = true) (h2 : b = true) : (a && b) = true := by rw [h1, h2]; rfl

set_option maxRecDepth 100000 in
theorem pg_laid : laidOutB Tryz.prog = true := by kernel_rfl
set_option maxRecDepth 100000 in
theorem pg_maps : mapsRowed Tryz.prog = true := by kernel_rfl
set_option maxRecDepth 100000 in
theorem pg_stops : (Tryz.prog.stops == []) = true := by kernel_rfl
set_option maxRecDepth 100000 in
theorem pg_knobs : (Tryz.prog.stopKnobs == []) = true := by kernel_rfl
set_option maxRecDepth 100000 in
theorem pg_keys : (false == Tryz.prog.plainKeys) = true := by kernel_rfl
set_option maxRecDepth 100000 in
theorem pg_heard : Tryz.prog.stopsHeard = true := by kernel_rfl
set_option maxRecDepth 100000 in
theorem pg_enter : Tryz.prog.mayEnter = true := by kernel_rfl

end Go.Proofs.YthbdpfccfcceiaaGreatDoor
