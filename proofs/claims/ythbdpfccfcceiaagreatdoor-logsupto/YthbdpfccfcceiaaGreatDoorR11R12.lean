/-
  The document's answer: Scan.
  The document's answer: its store behind a commit: what is appended to its versions and to its log.
-/
import Derived.Test.YthbdpfccfcceiaaGreatDoorR10
import Derived.Test.YthbdpfccfcceiaaGreatDoorR3R4R5R6R7
import Derived.Test.YthbdpfccfcceiaaGreatDoorR8R9
import Derived.Test.YthbdpfccfcceiaaGreatDoorB1B2O1C1
namespace Go.Proofs.YthbdpfccfcceiaaGreatDoor
open Go.RowKit

section
variable {own own' : Nat → Lab} {c : Nat} {w w' : World} {p : Nat} {s : YS} {vL vT vG : Value} {sv lg : List Value}
variable {R : Ending → World → Prop}

set_option maxRecDepth 20000 in
set_option maxHeartbeats 1000000 in
theorem y_scan_none (h : YR own c w p s vL vT vG sv lg) (hB : YB s) (tx : Int) (f t : ByteArray) (ht : thereY s tx = false)
    (h0 : R (.returned (.tuple #[.slice none 0 0, .int .i64 2])) w) :
    Calls Tryz.prog 105 #[.pointer (some ⟨p, 0, none⟩), .int .i64 tx, .string f, .string t] w R := by
  have H : Hid (YR own c w p s vL vT vG sv lg) := h
  have HN : Hid (s.txs.length < 4611686018427387904) := by have := hB.txs; show _ < _; omega
  have HR := h0
  clear h h0 hB
  go_enter Tryz.func105, Tryz.ntmps105
  go_wp2_with (first
    | (go_at_call 156; refine there_any H.out HN.out tx ?_)
    | go_in)
  exact HR

/-- What a function of the keys must be to tell what is seen. -/
def SeenBy (s : YS) (t : YT) (g : ByteArray → ByteArray × Bool) : Prop := ∀ k r, SeesY s t k r → r.2 = (g k).2 ∧ (r.2 = true → r.1 = (g k).1)

set_option maxRecDepth 20000 in
set_option maxHeartbeats 4000000 in
theorem y_scan (h : YR own c w p s vL vT vG sv lg) (hB : YB s) (j : Nat) (hj : j < s.txs.length) (ht : thereY s ((j : Int) + 1) = true) (f t : ByteArray) (g : ByteArray → ByteArray × Bool) (hg : SeenBy s (s.txs[j]) g)
    (h1 : ∀ w' v (ks : List ByteArray), Kp (fun _ => False) w w' → ks.Pairwise blt → (∀ k, k ∈ ks ↔ (∃ y ∈ s.l ++ (s.txs[j]).l, y.key = k) ∧ inR f t k = true) → ks.length ≤ s.l.length + (s.txs[j]).l.length →
      w'.ownsRow w.heap.size 105 2 v (ks.filterMap (pairOf g)).length (cells2 (ks.filterMap (pairOf g))) → R (.returned (.tuple #[v, .int .i64 0])) w') :
    Calls Tryz.prog 105 #[.pointer (some ⟨p, 0, none⟩), .int .i64 ((j : Int) + 1), .string f, .string t] w R := by
  have hsv : j < sv.length := h.len ▸ hj
  obtain ⟨gT, cap, hv, k0, k1, k2, kf, hgT⟩ := h.txAt j hj
  have HV : Hid _ := hv
  have c3 : w.cell? ⟨p, 3, none⟩ = some vT := cell_of h.store 3
  have c0 : w.cell? ⟨p, 0, none⟩ = some vL := cell_of h.store 0
  rw [hv] at c3
  have hj1 : (j : Int) < s.txs.length := by omega
  have hj2 : (j : Int) ≤ 1000000000000 := by have := hB.txs; omega
  have HT : Hid _ := ht
  have H : Hid (YR own c w p s vL vT vG sv lg) := h
  have HN : Hid (s.txs.length < 4611686018427387904) := by have := hB.txs; show _ < _; omega
  have HB : Hid _ := hB
  have HR : Hid _ := h1
  have HG : Hid _ := hg
  obtain ⟨al, cl, hvl⟩ := vrow_of h.rowL
  obtain ⟨am, cm, hvm⟩ := vrow_of (h.rowX j hj hsv)
  have HVL : Hid (VRow w.drew vL s.l al cl) := ⟨hvl.val, hvl.cell⟩
  have HVM : Hid (VRow w.drew sv[j] (s.txs[j]).l am cm) := ⟨hvm.val, hvm.cell⟩
  have HXL : Hid ((s.txs[j]).l.length < 1000000) := by have := hB.x j hj; show _ < _; omega
  have HX : Hid ((s.txs[j]).l.length ≤ 10) := hB.x j hj
  generalize hu : sv[j] = u at *
  obtain ⟨i0, hi, hz0, hz1, hz2⟩ := info_parts infoPair
  clear h h1 hB hv k0 k1 kf hgT hvl hvm hg
  go_enter Tryz.func105, Tryz.ntmps105
  go_wp2_with (first
    | (go_at_call 156; refine there_any H.out HN.out _ ?_)
    | go_in)
  go_region_with (go_at_call 153; refine keys_any s.l (s.txs[j]).l vL u al am cl cm f t _ HB.out.l HXL.out HVL.out HVM.out ?_; intro w1 v1 ks hk1 hrow hsort hmem hlen)
  all_goals
    have HK1 : Hid (Kp (fun _ => False) w w1) := (Kp.drew (fun _ => False) w).trans hk1 (fun _ _ h => h)
    have H1 : Hid (YR own c w1 p s vL vT vG sv lg) := H.out.kept HK1.out
    have hrow' : w1.ownsRow w.heap.size 9 1 v1 ks.length (ks.map Value.string) := hrow
    obtain ⟨a1, cap1, rfl, hcell⟩ := row_cell hrow'
    have HC : Hid _ := hcell
    have HSO : Hid _ := hsort
    have HME : Hid _ := hmem
    have HLE : Hid _ := hlen
    have HS1 : Hid (w.heap.size ≤ w1.heap.size) := HK1.out.size
    clear hcell hrow hsort hmem hlen hrow' c0 c3 k2 hk1
    go_wp2_with fail
    go_loopw [13, 14] (fun v13 v14 wr => ∃ i : Nat, i ≤ ks.length ∧ v14 = .int .i64 i ∧ Kp (fun _ => False) w1 wr ∧ wr.ownsRow w1.heap.size 105 2 v13 ((ks.take i).filterMap (pairOf g)).length (cells2 ((ks.take i).filterMap (pairOf g))))
      (fun _ v14 _ => ks.length - (intOf v14).toNat)
    case atStart => exact ⟨0, Nat.zero_le _, rfl, Kp.refl _ _, World.ownsRow_nil _ _ _ _⟩
    case round =>
      obtain ⟨i, hile, rfl, hkp, hown⟩ := hrel
      by_cases hlt : i < ks.length
      · obtain ⟨gk, rfl, hg1, hg2, hcell⟩ := HC.out (fun h => by rw [h] at hlt; simp at hlt)
        have hck : wr.cell? ⟨gk, i, none⟩ = some (.string ks[i]) := (hkp.cell (a := ⟨gk, i, none⟩) hg2 (fun h => h)).trans (hcell i hlt)
        have htk : ks.take (i + 1) = ks.take i ++ [ks[i]] := List.take_succ_eq_append_getElem hlt
        have HT2 : Hid _ := htk
        have hlt' : (i : Int) < ks.length := by omega
        have hi1 : (i : Int) ≤ 2000000 := by have := HLE.out; have := HB.out.l; have := HXL.out; omega
        have hlenps : Hid (((ks.take i).filterMap (pairOf g)).length ≤ 2000000) := by
          show _ ≤ _
          have h1 := List.length_filterMap_le (pairOf g) (ks.take i)
          have h2 : (ks.take i).length ≤ i := by simp [List.length_take]; omega
          omega
        have hyr : Hid (YR own c wr p s vL vT vG sv lg) := H1.out.kept hkp
        have HKP : Hid (Kp (fun _ => False) w1 wr) := hkp
        generalize hkeq : ks[i] = k at *
        clear htk hkp hcell
        cases hs : (g k).2
        · go_wp2_with (first
            | (go_at_call 157; refine y_sees hyr.out HB.out.l j hj HXL.out gT cap HV.out k (fun r w2 hr hk2 => ?_); have HK2 : Hid (Kp (fun _ => False) wr w2) := hk2; have hgk := HG.out k r hr; rw [hs] at hgk; obtain ⟨r1, r2⟩ := r; obtain ⟨hgk1, hgk2⟩ := hgk; clear hk2 hr; dsimp only at hgk1 hgk2; subst hgk1)
            | go_in)
          go_roundw
          case rel =>
            refine ⟨i + 1, by omega, by go_num, HKP.out.trans HK2.out (fun _ _ h => h), ?_⟩
            have hp0 : (ks.take (i + 1)).filterMap (pairOf g) = (ks.take i).filterMap (pairOf g) := by rw [HT2.out, List.filterMap_append]; simp [pairOf, hs]
            rw [hp0]
            exact ownsRow_kp hown HK2.out (fun _ _ h => h)
          case measure => simp [intOf]; omega
        · go_wp2_with (first
            | (go_at_call 157; refine y_sees hyr.out HB.out.l j hj HXL.out gT cap HV.out k (fun r w2 hr hk2 => ?_); have HK2 : Hid (Kp (fun _ => False) wr w2) := hk2; have hgk := HG.out k r hr; rw [hs] at hgk; obtain ⟨r1, r2⟩ := r; obtain ⟨hgk1, hgk2⟩ := hgk; have hown2 := ownsRow_kp hown hk2 (fun _ _ h => h); have hck2 := (hk2.cell (a := ⟨gk, i, none⟩) (World.block_lt_of_cell? wr _ hck) (fun h => h)).trans hck; clear hk2 hr; dsimp only at hgk1 hgk2; subst hgk1; have hgk3 := hgk2 rfl; clear hgk2; subst hgk3)
            | (at_builtin; refine wpList_append_own_at _ rfl _ _ 43 rfl w1.heap.size 105 i0 (.agg #[.string ⟨#[]⟩, .string ⟨#[]⟩]) 2 32 Tryz.underlying43 hi hz0 hz1 hz2 rfl (by decide) _ _ _ rfl (hown2.alloc _) ⟨w2.heap.size, 0, none⟩ 1 1 [.string k, .string (g k).1] rfl rfl (two_new _ _ _ _) (by simp [Value.oneCell']) (by have := hlenps.out; unfold maxLen; omega) (by have := hlenps.out; omega) (by have := HKP.out.size; have := HK2.out.size; simp; omega) ?_; intro v' w3 hown' hgrow hnil hloc)
            | go_in)
          have hb1 : ∀ b, Value.ownBlock u13 = some b → w1.heap.size ≤ b := fun b hb => (hown2.lt b hb).1
          go_roundw
          case rel =>
            refine ⟨i + 1, by omega, by go_num, ((HKP.out.trans HK2.out (fun _ _ h => h)).trans ((Kp.alloc (fun b => Value.ownBlock u13 = some b) w2 _).trans (Kp.of_grown (S := fun b => Value.ownBlock u13 = some b) hgrow (fun _ h => h)) (fun _ _ h => h)) (fun b hb h => by have := hb1 b h; omega)), ?_⟩
            have hp0 : (ks.take (i + 1)).filterMap (pairOf g) = (ks.take i).filterMap (pairOf g) ++ [(k, (g k).1)] := by rw [HT2.out, List.filterMap_append]; simp [pairOf, hs]
            rw [hp0, List.length_append, ← cells2_snoc]
            exact hown'
          case measure => simp [intOf]; omega
      · have hie : i = ks.length := by omega
        subst hie
        rw [List.take_length] at hown
        go_wp2_with fail
        refine HR.out wr u13 ks (HK1.out.trans hkp (fun _ _ h => h)) HSO.out HME.out HLE.out ⟨hown.1, hown.2.imp id (fun ⟨g, cap, cur, e1, e2, e3⟩ => ⟨g, cap, cur, e1, Nat.le_trans HS1.out e2, e3⟩)⟩

end

end Go.Proofs.YthbdpfccfcceiaaGreatDoor

namespace Go.Proofs.YthbdpfccfcceiaaGreatDoor
open Go.RowKit

/-- Somebody has committed one of the keys behind what is seen. -/
def ConfY (s : YS) (t : YT) : Prop := ∃ i, ∃ hi : i < s.l.length, (idxK t.l s.l[i].key).isSome = true ∧ t.sees < s.l[i].t

section
variable {own own' : Nat → Lab} {c : Nat} {w w' : World} {p : Nat} {s : YS} {vL vT vG : Value} {sv lg : List Value}
variable {R : Ending → World → Prop}

set_option maxRecDepth 20000 in
set_option maxHeartbeats 1000000 in
theorem y_commit_none (h : YR own c w p s vL vT vG sv lg) (hB : YB s) (tx : Int) (ht : thereY s tx = false)
    (h0 : R (.returned (.tuple #[.int .i64 0, .int .i64 2])) w) :
    Calls Tryz.prog 107 #[.pointer (some ⟨p, 0, none⟩), .int .i64 tx] w R := by
  have H : Hid (YR own c w p s vL vT vG sv lg) := h
  have HN : Hid (s.txs.length < 4611686018427387904) := by have := hB.txs; show _ < _; omega
  have HR := h0
  clear h h0 hB
  go_enter Tryz.func107, Tryz.ntmps107
  go_wp2_with (first
    | (go_at_call 156; refine there_any H.out HN.out tx ?_)
    | go_in)
  exact HR

set_option maxRecDepth 20000 in
set_option maxHeartbeats 1000000 in
theorem y_commit_empty (h : YR own c w p s vL vT vG sv lg) (hB : YB s) (j : Nat) (hj : j < s.txs.length) (ht : thereY s ((j : Int) + 1) = true) (h0 : (s.txs[j]).l.length = 0)
    (h1 : ∀ w', Kp (fun b => (own b).c = c) w w' → YR own c w' p (overAt s j hj) vL vT vG sv lg → R (.returned (.tuple #[.int .i64 (s.txs[j]).sees, .int .i64 0])) w') :
    Calls Tryz.prog 107 #[.pointer (some ⟨p, 0, none⟩), .int .i64 ((j : Int) + 1)] w R := by
  have hsv : j < sv.length := h.len ▸ hj
  obtain ⟨gT, cap, hv, k0, k1, k2, kf, hgT⟩ := h.txAt j hj
  obtain ⟨am, cm, hvm⟩ := vrow_of (h.rowX j hj hsv)
  have hval := hvm.val
  rw [h0] at hval
  rw [hval] at k2
  have HR := h1 _ (Kp.setCell w ⟨gT, j * 3, none⟩ (.bool true) (S := fun b => (own b).c = c) (by show (own gT).c = c; rw [h.ownT gT (by rw [hv]; rfl)])) (h.setOver j hj gT cap hv)
  have c3 : w.cell? ⟨p, 3, none⟩ = some vT := cell_of h.store 3
  rw [hv] at c3
  have hj1 : (j : Int) < s.txs.length := by omega
  have hj2 : (j : Int) ≤ 1000000000000 := by have := hB.txs; omega
  have H : Hid (YR own c w p s vL vT vG sv lg) := h
  have HN : Hid (s.txs.length < 4611686018427387904) := by have := hB.txs; show _ < _; omega
  have HT : Hid _ := ht
  clear h h1 hB hv hgT hvm hval h0
  go_enter Tryz.func107, Tryz.ntmps107
  go_wp2_with (first
    | (go_at_call 156; refine there_any H.out HN.out _ ?_)
    | go_in)
  exact HR

end

end Go.Proofs.YthbdpfccfcceiaaGreatDoor

namespace Go.Proofs.YthbdpfccfcceiaaGreatDoor
open Go.RowKit

section
variable {own own' : Nat → Lab} {c : Nat} {w w' : World} {p : Nat} {s : YS} {vL vT vG : Value} {sv lg : List Value}

theorem YR.addVers (h : YR own c w p s vL vT vG sv lg) {w3 : World} {v' : Value} (hk : Kp (fun b => vL.ownBlock = some b) w w3) (news : List YV) (hrow : w3.ownsRow 0 193 4 v' (s.l.length + news.length) (cellsV s.l ++ cellsV news))
    (hloc : v'.ownBlock = vL.ownBlock ∨ ∃ b, v'.ownBlock = some b ∧ w.heap.size ≤ b) :
    YR (fun b => if v'.ownBlock = some b then ⟨c, 1, 0, eb⟩ else own b) c (w3.setCell ⟨p, 0, none⟩ v') p { s with l := s.l ++ news } v' vT vG sv lg ∧
    (∀ b, b < w.heap.size → (fun b => if v'.ownBlock = some b then (⟨c, 1, 0, eb⟩ : Lab) else own b) b = own b) := by
  have hout : ∀ b, b < w.heap.size → (fun b => if v'.ownBlock = some b then (⟨c, 1, 0, eb⟩ : Lab) else own b) b = own b := fun b hb => by
    by_cases e : v'.ownBlock = some b
    · simp only [e, if_true]
      rcases hloc with hl | ⟨b', hb', hge⟩
      · exact (h.ownL b (hl ▸ e)).symm
      · rw [hb'] at e; cases e; omega
    · simp [e]
  refine ⟨?_, hout⟩
  have lp := block_lt h.store
  have hpT : ∀ b, vL.ownBlock = some b → own b = ⟨c, 1, 0, eb⟩ := h.ownL
  have old : ∀ b, b < w.heap.size → own b ≠ ⟨c, 1, 0, eb⟩ → b ≠ p → (w3.setCell ⟨p, 0, none⟩ v').heap[b]? = w.heap[b]? := fun b hb h1 h2 => by
    rw [Below.heap_setCell w3 _ _ b h2]; exact hk.block b hb (fun e => h1 (hpT b e))
  have hp3 : w3.heap[p]? = some (.cells #[vL, .int .i64 s.hor, .int .i64 s.now, vT, vG, .int .i64 s.syn, s.bku] 78 (0, 0)) := (hk.block p lp (fun e => by have := hpT p e; rw [h.ownP] at this; simp at this)).trans h.store
  have hvp : v'.ownBlock ≠ some p := fun e => by
    rcases hloc with hl | ⟨b, hb, hge⟩
    · have := hpT p (hl ▸ e); rw [h.ownP] at this; simp at this
    · rw [hb] at e; cases e; omega
  have rT := ownsRow_block (w' := w3.setCell ⟨p, 0, none⟩ v') h.rowT (fun b e => old b (h.rowT.lt b e).2 (by rw [h.ownT b e]; simp) (lab_ne2 (own := own) (by rw [h.ownT b e, h.ownP]; simp)))
  have oT : ∀ b, vT.ownBlock = some b → (fun b => if v'.ownBlock = some b then (⟨c, 1, 0, eb⟩ : Lab) else own b) b = ⟨c, 2, 0, eb⟩ := fun b e => (hout b (h.rowT.lt b e).2).trans (h.ownT b e)
  refine ⟨(hout p lp).trans h.ownP, ?_, ?_, fun b e => by simp [e], h.len, rT, oT, fun i hi hj => ownsRow_block (h.rowX i hi hj) (fun b e => old b ((h.rowX i hi hj).lt b e).2 (by rw [h.ownX i hj b e]; simp) (lab_ne2 (own := own) (by rw [h.ownX i hj b e, h.ownP]; simp))), fun i hj b e => (hout b ((h.rowX i (h.len ▸ hj) hj).lt b e).2).trans (h.ownX i hj b e), ownsRow_block h.rowG (fun b e => old b (h.rowG.lt b e).2 (by rw [h.ownG b e]; simp) (lab_ne2 (own := own) (by rw [h.ownG b e, h.ownP]; simp))), fun b e => (hout b (h.rowG.lt b e).2).trans (h.ownG b e)⟩
  · rw [heap_setCell_at hp3]; rfl
  · have e1 : cellsV (s.l ++ news) = cellsV s.l ++ cellsV news := by simp [cellsV]
    show World.ownsRow _ 0 _ 4 v' (s.l ++ news).length (cellsV (s.l ++ news))
    rw [e1, List.length_append]
    exact ownsRow_block hrow (fun b e => Below.heap_setCell w3 _ _ b (fun e' => hvp (by rw [e, e'])))

theorem YR.addLog (h : YR own c w p s vL vT vG sv lg) {w3 : World} {v' : Value} (hk : Kp (fun b => vG.ownBlock = some b) w w3) (x : Value) (hrow : w3.ownsRow 0 48 1 v' (lg.length + 1) (lg ++ [x]))
    (hloc : v'.ownBlock = vG.ownBlock ∨ ∃ b, v'.ownBlock = some b ∧ w.heap.size ≤ b) :
    YR (fun b => if v'.ownBlock = some b then ⟨c, 3, 0, eb⟩ else own b) c (w3.setCell ⟨p, 4, none⟩ v') p s vL vT v' sv (lg ++ [x]) ∧
    (∀ b, b < w.heap.size → (fun b => if v'.ownBlock = some b then (⟨c, 3, 0, eb⟩ : Lab) else own b) b = own b) := by
  have hout : ∀ b, b < w.heap.size → (fun b => if v'.ownBlock = some b then (⟨c, 3, 0, eb⟩ : Lab) else own b) b = own b := fun b hb => by
    by_cases e : v'.ownBlock = some b
    · simp only [e, if_true]
      rcases hloc with hl | ⟨b', hb', hge⟩
      · exact (h.ownG b (hl ▸ e)).symm
      · rw [hb'] at e; cases e; omega
    · simp [e]
  refine ⟨?_, hout⟩
  have lp := block_lt h.store
  have hpT : ∀ b, vG.ownBlock = some b → own b = ⟨c, 3, 0, eb⟩ := h.ownG
  have old : ∀ b, b < w.heap.size → own b ≠ ⟨c, 3, 0, eb⟩ → b ≠ p → (w3.setCell ⟨p, 4, none⟩ v').heap[b]? = w.heap[b]? := fun b hb h1 h2 => by
    rw [Below.heap_setCell w3 _ _ b h2]; exact hk.block b hb (fun e => h1 (hpT b e))
  have hp3 : w3.heap[p]? = some (.cells #[vL, .int .i64 s.hor, .int .i64 s.now, vT, vG, .int .i64 s.syn, s.bku] 78 (0, 0)) := (hk.block p lp (fun e => by have := hpT p e; rw [h.ownP] at this; simp at this)).trans h.store
  have hvp : v'.ownBlock ≠ some p := fun e => by
    rcases hloc with hl | ⟨b, hb, hge⟩
    · have := hpT p (hl ▸ e); rw [h.ownP] at this; simp at this
    · rw [hb] at e; cases e; omega
  have rT := ownsRow_block (w' := w3.setCell ⟨p, 4, none⟩ v') h.rowT (fun b e => old b (h.rowT.lt b e).2 (by rw [h.ownT b e]; simp) (lab_ne2 (own := own) (by rw [h.ownT b e, h.ownP]; simp)))
  have oT : ∀ b, vT.ownBlock = some b → (fun b => if v'.ownBlock = some b then (⟨c, 3, 0, eb⟩ : Lab) else own b) b = ⟨c, 2, 0, eb⟩ := fun b e => (hout b (h.rowT.lt b e).2).trans (h.ownT b e)
  refine ⟨(hout p lp).trans h.ownP, ?_, ownsRow_block h.rowL (fun b e => old b (h.rowL.lt b e).2 (by rw [h.ownL b e]; simp) (lab_ne2 (own := own) (by rw [h.ownL b e, h.ownP]; simp))), fun b e => (hout b (h.rowL.lt b e).2).trans (h.ownL b e), h.len, rT, oT, fun i hi hj => ownsRow_block (h.rowX i hi hj) (fun b e => old b ((h.rowX i hi hj).lt b e).2 (by rw [h.ownX i hj b e]; simp) (lab_ne2 (own := own) (by rw [h.ownX i hj b e, h.ownP]; simp))), fun i hj b e => (hout b ((h.rowX i (h.len ▸ hj) hj).lt b e).2).trans (h.ownX i hj b e), ?_, fun b e => by simp [e]⟩
  · rw [heap_setCell_at hp3]; rfl
  · rw [List.length_append]
    exact ownsRow_block hrow (fun b e => Below.heap_setCell w3 _ _ b (fun e' => hvp (by rw [e, e'])))

end

end Go.Proofs.YthbdpfccfcceiaaGreatDoor
