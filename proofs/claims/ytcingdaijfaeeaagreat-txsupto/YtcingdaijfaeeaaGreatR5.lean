/-
  The document's answer: Begin.
-/
import Derived.Test.YtcingdaijfaeeaaGreatR4
namespace Go.Proofs.YtcingdaijfaeeaaGreat
open Go.RowKit

def openN (l : List YT) : Nat := (l.filter (fun t => !t.over)).length

def newYT (s : YS) : YT := ⟨false, s.now, []⟩

theorem infoTx : (Tryz.prog.info? 153).map (fun i => (i.zero, i.size, i.bytes)) = some (some (.agg #[.bool false, .int .i64 0, .slice none 0 0]), 3, 40) := by kernel_rfl

theorem three_new (w : World) (x y z : Value) (t : TypeId) : ∀ j u, [x, y, z][j]? = some u → (w.alloc (.cells #[x, y, z] t)).cell? ((⟨w.heap.size, 0, none⟩ : Addr).add j) = some u := by
  intro j u hj
  match j, hj with
  | 0, hj => simp at hj; subst hj; simp [Addr.add]
  | 1, hj => simp at hj; subst hj; simp [Addr.add]
  | 2, hj => simp at hj; subst hj; simp [Addr.add]

section
variable {own own' : Nat → Lab} {c : Nat} {w w' : World} {p : Nat} {s : YS} {vL vT vG : Value} {sv lg : List Value}

theorem YR.newTx (h : YR own c w p s vL vT vG sv lg) {w3 : World} {v' : Value} (hk : Kp (fun b => vT.ownBlock = some b) w w3) (hrow : w3.ownsRow 0 153 3 v' (s.txs.length + 1) (cellsT (s.txs.zip sv) ++ [.bool false, .int .i64 s.now, .slice none 0 0]))
    (hloc : v'.ownBlock = vT.ownBlock ∨ ∃ b, v'.ownBlock = some b ∧ w.heap.size ≤ b) :
    YR (fun b => if v'.ownBlock = some b then ⟨c, 2, 0, eb⟩ else own b) c (w3.setCell ⟨p, 3, none⟩ v') p { s with txs := s.txs ++ [newYT s] } vL v' vG (sv ++ [Value.slice none 0 0]) lg ∧
    (∀ b, b < w.heap.size → (fun b => if v'.ownBlock = some b then (⟨c, 2, 0, eb⟩ : Lab) else own b) b = own b) := by
  have hout : ∀ b, b < w.heap.size → (fun b => if v'.ownBlock = some b then (⟨c, 2, 0, eb⟩ : Lab) else own b) b = own b := fun b hb => by
    by_cases e : v'.ownBlock = some b
    · simp only [e, if_true]
      rcases hloc with hl | ⟨b', hb', hge⟩
      · exact (h.ownT b (hl ▸ e)).symm
      · rw [hb'] at e; cases e; omega
    · simp [e]
  refine ⟨?_, hout⟩
  have lp := block_lt h.store
  have hpT : ∀ b, vT.ownBlock = some b → own b = ⟨c, 2, 0, eb⟩ := h.ownT
  have old : ∀ b, b < w.heap.size → own b ≠ ⟨c, 2, 0, eb⟩ → b ≠ p → (w3.setCell ⟨p, 3, none⟩ v').heap[b]? = w.heap[b]? := fun b hb h1 h2 => by
    rw [Below.heap_setCell w3 _ _ b h2]; exact hk.block b hb (fun e => h1 (hpT b e))
  have hp3 : w3.heap[p]? = some (.cells #[vL, .int .i64 0, .int .i64 s.now, vT, vG, .int .i64 0, .slice none 0 0] 45 (0, 0)) := (hk.block p lp (fun e => by have := hpT p e; rw [h.ownP] at this; simp at this)).trans h.store
  have hvp : v'.ownBlock ≠ some p := fun e => by
    rcases hloc with hl | ⟨b, hb, hge⟩
    · have := hpT p (hl ▸ e); rw [h.ownP] at this; simp at this
    · rw [hb] at e; cases e; omega
  refine ⟨(hout p lp).trans h.ownP, ?_, ?_, ?_, by simp [h.len], ?_, ?_, ?_, ?_, ?_, ?_⟩
  · rw [heap_setCell_at hp3]; rfl
  · exact ownsRow_block h.rowL (fun b e => old b (h.rowL.lt b e).2 (by rw [h.ownL b e]; simp) (lab_ne2 (own := own) (by rw [h.ownL b e, h.ownP]; simp)))
  · exact fun b e => (hout b (h.rowL.lt b e).2).trans (h.ownL b e)
  · have e1 : cellsT ((s.txs ++ [newYT s]).zip (sv ++ [Value.slice none 0 0])) = cellsT (s.txs.zip sv) ++ [.bool false, .int .i64 s.now, .slice none 0 0] := by
      rw [List.zip_append h.len.symm]; simp [cellsT, newYT]
    show World.ownsRow _ 0 _ 3 v' (s.txs ++ [newYT s]).length (cellsT ((s.txs ++ [newYT s]).zip (sv ++ [Value.slice none 0 0])))
    rw [e1, List.length_append]
    exact ownsRow_block hrow (fun b e => Below.heap_setCell w3 _ _ b (fun e' => hvp (by rw [e, e'])))
  · intro b e; simp [e]
  · intro i hi hj
    by_cases ei : i < s.txs.length
    · have hi' : i < sv.length := h.len ▸ ei
      simp only [List.getElem_append_left ei, List.getElem_append_left hi']
      exact ownsRow_block (h.rowX i ei hi') (fun b e => old b ((h.rowX i ei hi').lt b e).2 (by rw [h.ownX i hi' b e]; simp) (lab_ne2 (own := own) (by rw [h.ownX i hi' b e, h.ownP]; simp)))
    · have : i = s.txs.length := by simp at hi; omega
      subst this
      have e2 : s.txs.length = sv.length := h.len.symm
      simp only [List.getElem_append_right (Nat.le_refl _), Nat.sub_self, List.getElem_cons_zero]
      simp only [List.getElem_append_right (Nat.le_of_eq h.len), h.len, Nat.sub_self, List.getElem_cons_zero]
      exact World.ownsRow_nil _ _ _ _
  · intro i hj b e
    by_cases ei : i < sv.length
    · simp only [List.getElem_append_left ei] at e
      exact (hout b ((h.rowX i (h.len ▸ ei) ei).lt b e).2).trans (h.ownX i ei b e)
    · have : i = sv.length := by simp at hj; omega
      subst this
      simp [Value.ownBlock] at e
  · exact ownsRow_block h.rowG (fun b e => old b (h.rowG.lt b e).2 (by rw [h.ownG b e]; simp) (lab_ne2 (own := own) (by rw [h.ownG b e, h.ownP]; simp)))
  · exact fun b e => (hout b (h.rowG.lt b e).2).trans (h.ownG b e)

variable {R : Ending → World → Prop}

theorem openN_snoc (l : List YT) (t : YT) : openN (l ++ [t]) = openN l + (if t.over then 0 else 1) := by
  unfold openN; rw [List.filter_append]; cases h : t.over <;> simp [h]

set_option maxRecDepth 20000 in
set_option maxHeartbeats 1000000 in
theorem y_begin (h : YR own c w p s vL vT vG sv lg) (hn : s.txs.length < 1000000000000)
    (h0 : openN s.txs = 8 → R (.returned (.tuple #[.int .i64 0, .int .i64 3])) w)
    (h1 : openN s.txs ≠ 8 → ∀ w' own' v', Kp (fun b => (own b).c = c) w w' → (∀ b, b < w.heap.size → own' b = own b) → YR own' c w' p { s with txs := s.txs ++ [newYT s] } vL v' vG (sv ++ [Value.slice none 0 0]) lg →
      R (.returned (.tuple #[.int .i64 ((s.txs.length + 1 : Nat) : Int), .int .i64 0])) w') :
    Calls Tryz.prog 34 #[.pointer (some ⟨p, 0, none⟩)] w R := by
  have H : Hid (YR own c w p s vL vT vG sv lg) := h
  have H0 : Hid _ := h0
  have H1 : Hid _ := h1
  have HN : Hid _ := hn
  have c3 : w.cell? ⟨p, 3, none⟩ = some vT := cell_of h.store 3
  have c2 : w.cell? ⟨p, 2, none⟩ = some (.int .i64 s.now) := cell_of h.store 2
  have f3 : w.frozen? ⟨p, 3, none⟩ = false := frozen_of h.store 3
  obtain ⟨a, cap, hv, hcap⟩ := row_len h.rowT
  subst hv
  obtain ⟨i0, hi, hz0, hz1, hz2⟩ := info_parts infoTx
  clear h h0 h1 hn hcap
  go_enter Tryz.func34, Tryz.ntmps34
  go_wp2
  go_loop [4, 5] (fun vn vi => ∃ k : Nat, k ≤ s.txs.length ∧ vi = .int .i64 k ∧ vn = .int .i64 (openN (s.txs.take k))) (fun _ vi => s.txs.length - (intOf vi).toNat)
  case atStart => exact ⟨0, Nat.zero_le _, rfl, rfl⟩
  case round =>
    obtain ⟨k, hk, rfl, rfl⟩ := hrel
    have hle : openN (s.txs.take k) ≤ k := by
      unfold openN
      exact Nat.le_trans (List.length_filter_le _ _) (by simp [List.length_take]; omega)
    by_cases hlt : k < s.txs.length
    · obtain ⟨g, cap', hv, k0, q1, q2, q3, q4⟩ := H.out.txAt k hlt
      clear q1 q2 q3 q4
      injection hv with e1 e2 e3
      subst e1; subst e3
      have hsn := openN_snoc (s.txs.take k) (s.txs[k])
      rw [← List.take_succ_eq_append_getElem hlt] at hsn
      have HS : Hid _ := hsn
      have hlt' : (k : Int) < s.txs.length := by omega
      have hk1 : (k : Int) ≤ 1000000000000 := by have := HN.out; omega
      have ho1 : (openN (s.txs.take k) : Int) ≤ 1000000000000 := by omega
      generalize hon : openN (s.txs.take k) = n at *
      generalize hov : (s.txs[k]).over = ov at *
      clear hsn e2 hon hle
      cases ov
      · go_wp2
        go_round
        case rel => exact ⟨k + 1, by omega, by go_num, by rw [HS.out]; go_num⟩
        case measure => simp [intOf]; omega
      · go_wp2
        go_round
        case rel => exact ⟨k + 1, by omega, by go_num, by rw [HS.out]; simp⟩
        case measure => simp [intOf]; omega
    · have hke : k = s.txs.length := by omega
      subst hke
      rw [List.take_length] at hle ⊢
      by_cases h8 : openN s.txs = 8
      · have h8' : ((openN s.txs : Int) == 8) = true := by rw [h8]; rfl
        have HR := H0.out h8
        go_wp2
        exact HR
      · have h8' : ((openN s.txs : Int) == 8) = false := by simp; omega
        have HR : Hid _ := H1.out h8
        clear hle
        go_wp2
        have hkA : Kp (fun b => (Value.slice a s.txs.length cap).ownBlock = some b) w (w.alloc (.cells #[.bool false, .int .i64 s.now, .slice none 0 0] 153)).drew := (Kp.alloc _ _ _).trans (Kp.drew (fun b => (Value.slice a s.txs.length cap).ownBlock = some b) _) (fun _ _ h => h)
        have hrow2 : (w.alloc (.cells #[.bool false, .int .i64 s.now, .slice none 0 0] 153)).drew.ownsRow 0 153 3 (.slice a s.txs.length cap) s.txs.length (cellsT (s.txs.zip sv)) := ownsRow_kp H.out.rowT (S := fun _ => False) ((Kp.alloc _ _ _).trans (Kp.drew (fun _ => False) _) (fun _ _ h => h)) (fun _ _ h => h)
        have hpn : (Value.slice a s.txs.length cap).ownBlock ≠ some p := fun e => by have := H.out.ownT p e; rw [H.out.ownP] at this; simp at this
        have hlp := block_lt H.out.store
        have HLP : Hid _ := hlp
        have hs2 : (w.alloc (.cells #[.bool false, .int .i64 s.now, .slice none 0 0] 153)).drew.heap.size = w.heap.size + 1 := by simp
        have ps : p < w.heap.size := hlp
        go_region_law (refine step_append_own rfl (.tmp 32) (.tmp 38) 42 rfl 0 153 i0 (.agg #[.bool false, .int .i64 0, .slice none 0 0]) 3 40 Tryz.underlying42 hi hz0 hz1 hz2 rfl (by decide) (.slice a s.txs.length cap) s.txs.length (cellsT (s.txs.zip sv)) (by simp [Act.eval]) hrow2 ⟨w.heap.size, 0, none⟩ 1 1 [.bool false, .int .i64 s.now, .slice none 0 0] (by simp [Act.eval]) rfl (three_new _ _ _ _ _) (by simp [Value.oneCell']) (by have := HN.out; unfold maxLen; omega) (by have := HN.out; omega) (Nat.zero_le _) ?_; intro v' w3 hown' hgrow hloc; have hk3 := hkA.trans (Kp.of_grown (S := fun b => (Value.slice a s.txs.length cap).ownBlock = some b) hgrow (fun _ h => h)) (fun _ _ h => h); have k3 := (hk3.cell (a := ⟨p, 3, none⟩) HLP.out hpn).trans c3; have g3 := (hk3.frozen (a := ⟨p, 3, none⟩) HLP.out hpn).trans f3; have HY : Hid _ := H.out.newTx hk3 hown' (hloc.imp id (fun h => ⟨_, h, by rw [hs2]; omega⟩)); obtain ⟨a', cap', rfl, hcap'⟩ := row_len hown'; clear hcap' hgrow hloc hown')
        all_goals
          replace HR := HR.out _ _ _ ((hk3.mono (S' := fun b => (own b).c = c) (fun b _ e => by rw [H.out.ownT b e])).trans (Kp.setCell (S := fun b => b = p) w3 ⟨p, 3, none⟩ (.slice a' (s.txs.length + 1) cap') rfl) (fun b hb e => by rw [e, H.out.ownP])) HY.out.2 HY.out.1
          clear HY hk3 hrow2 hkA
          go_wp2
          exact HR

end

end Go.Proofs.YtcingdaijfaeeaaGreat
