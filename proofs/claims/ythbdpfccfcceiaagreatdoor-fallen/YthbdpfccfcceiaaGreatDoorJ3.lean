/-
  A commit's record is done: (*Store).do, told of the store's plain state.
-/
import Derived.Test.YthbdpfccfcceiaaGreatDoorC2J2
namespace Go.Proofs.YthbdpfccfcceiaaGreatDoor
open Go.RowKit Go.Maps

/-- What a list of writes gives a key. -/
def wrL (ws : List (ByteArray × ByteArray × Bool)) (k : ByteArray) : Option (ByteArray × Bool) := (ws.find? (fun x => decide (x.1 = k))).map (·.2)
/-- The keys that are not taken in yet. -/
def leftL (ws : List (ByteArray × ByteArray × Bool)) (j : Nat) (v : Value) : Bool := match v with | .string k => (ws.drop j).any (fun x => decide (x.1 = k)) | _ => false

theorem wrL_some (ws : List (ByteArray × ByteArray × Bool)) (k : ByteArray) : (wrL ws k).isSome = ws.any (fun x => decide (x.1 = k)) := by
  unfold wrL
  rw [Option.isSome_map, Bool.eq_iff_iff, List.find?_isSome, List.any_eq_true]
theorem wrL_at (ws : List (ByteArray × ByteArray × Bool)) (hnd : (ws.map Prod.fst).Nodup) : ∀ x ∈ ws, wrL ws x.1 = some x.2 := by
  induction ws with
  | nil => intro x hx; cases hx
  | cons y r ih =>
    intro x hx
    rw [List.map_cons, List.nodup_cons] at hnd
    rcases List.mem_cons.1 hx with rfl | hx
    · simp [wrL]
    · have hne : y.1 ≠ x.1 := fun e => hnd.1 (by rw [e]; exact List.mem_map.2 ⟨x, hx, rfl⟩)
      have := ih hnd.2 x hx
      unfold wrL at this ⊢
      rw [List.find?_cons_of_neg (by simpa using hne)]
      exact this
theorem leftL_start (ws : List (ByteArray × ByteArray × Bool)) (k : ByteArray) : leftL ws 0 (.string k) = (wrL ws k).isSome := by rw [wrL_some]; rfl
theorem leftL_end (ws : List (ByteArray × ByteArray × Bool)) : leftL ws ws.length = fun _ => false := by
  funext v
  unfold leftL
  split <;> simp
theorem leftL_here (ws : List (ByteArray × ByteArray × Bool)) (hnd : (ws.map Prod.fst).Nodup) (j : Nat) (x : ByteArray × ByteArray × Bool) (hx : ws[j]? = some x) : leftL ws j (.string x.1) = true ∧ leftL ws (j + 1) (.string x.1) = false ∧ ∀ z, z ≠ .string x.1 → leftL ws (j + 1) z = leftL ws j z := by
  obtain ⟨hj, rfl⟩ := List.getElem?_eq_some_iff.1 hx
  have hd : ws.drop j = ws[j] :: ws.drop (j + 1) := List.drop_eq_getElem_cons hj
  have hnd2 : ((ws.drop j).map Prod.fst).Nodup := by
    rw [List.map_drop]; exact hnd.sublist (List.drop_sublist _ _)
  rw [hd, List.map_cons, List.nodup_cons] at hnd2
  refine ⟨?_, ?_, fun z hz => ?_⟩
  · unfold leftL; simp only []; rw [hd, List.any_cons]; simp
  · unfold leftL
    simp only []
    rw [Bool.eq_false_iff]
    intro h
    rw [List.any_eq_true] at h
    obtain ⟨y, hy, e⟩ := h
    exact hnd2.1 (List.mem_map.2 ⟨y, hy, by simpa using e⟩)
  · unfold leftL
    split
    · rename_i k
      rw [hd, List.any_cons]
      have : ¬ ws[j].1 = k := fun e => hz (by rw [e])
      simp [this]
    · rfl

section
variable {own own' : Nat → Lab} {c : Nat} {w w' : World} {p : Nat} {s : XS} {mo ph mv mm : Nat} {pt mw : Int → Nat} {sl : ByteArray → Value}
variable {R : Ending → World → Prop}

theorem RdW.cells {g n cap : Nat} {ws : List (ByteArray × ByteArray × Bool)} (h : RdW w (.slice (some ⟨g, 0, none⟩) n cap) ws) {j : Nat} {x : ByteArray × ByteArray × Bool} (hx : ws[j]? = some x) : w.cell? ⟨g, j * 3, none⟩ = some (.string x.1) ∧ w.cell? ⟨g, j * 3 + 1, none⟩ = some (.string x.2.1) ∧ w.cell? ⟨g, j * 3 + 2, none⟩ = some (.bool x.2.2) := by
  obtain ⟨pw, cap', e, h1⟩ := h
  obtain ⟨g', e2, hc⟩ := h1 (fun e => by rw [e] at hx; simp at hx)
  injection e with e _ _
  rw [e2] at e
  injection e with e
  injection e with e
  subst e
  exact hc j x hx

/-- How the store lies while the writes of a record are taken in. -/
structure MidD (own0 : Nat → Lab) (c : Nat) (w0 : World) (p : Nat) (s : XS) (rv : Value) (ws : List (ByteArray × ByteArray × Bool)) (mo ph mv mm : Nat) (pt mw : Int → Nat) (wr : World) (own' : Nat → Lab) (sl' : ByteArray → Value) (j nv nm : Nat) : Prop where
  xr : XR own' c wr p (comm s ⟨0, wrL ws, 0⟩ (leftL ws j) nv nm) mo ph mv mm pt mw sl'
  ownE : ∀ b, b < w0.heap.size → own' b = own0 b
  kp : Kp (fun b => (own0 b).c = c) w0 wr
  hv : nv ≤ s.nv + j
  hm : nm ≤ s.nm + j
  rd : RdW wr rv ws

theorem midD_add {own0 : Nat → Lab} {w0 wr W : World} {rv : Value} {ws : List (ByteArray × ByteArray × Bool)} {sl' : ByteArray → Value} {j nv nm : Nat} (hM : MidD own0 c w0 p s rv ws mo ph mv mm pt mw wr own' sl' j nv nm) (hnd : (ws.map Prod.fst).Nodup)
    (key val : ByteArray) (g : Bool) (hx : ws[j]? = some (key, val, g)) (hlen : key.size ≤ 8) (hnow : 0 ≤ s.now ∧ s.now < 2000) (hmom : (s.mom key).length < 1000000) (hnv : s.nv + j < 1000000) (hnm : s.nm + j < 1000000) (hrv : ∀ b, rv.ownBlock = some b → b < w0.heap.size ∧ (own0 b).c ≠ c)
    (hKW : Kp (fun _ => False) wr W)
    (hR : ∀ w' own'' sl'' nv' nm', MidD own0 c w0 p s rv ws mo ph mv mm pt mw w' own'' sl'' (j + 1) nv' nm' → R (.returned (.tuple #[])) w') :
    Calls Tryz.prog 79 #[.pointer (some ⟨ph, 0, none⟩), .string key, .int .i64 (s.now + 1), .agg #[.string val, .bool g]] W R := by
  obtain ⟨hl1, hl2, hl3⟩ := leftL_here ws hnd j _ hx
  have hwr : wrL ws key = some (val, g) := wrL_at ws hnd (key, val, g) (List.mem_of_getElem? hx)
  have hxW := hM.xr.kept hKW
  have hmk : (comm s ⟨0, wrL ws, 0⟩ (leftL ws j) nv nm).mom key = s.mom key := by simp [comm, hl1]
  have hv := hM.hv; have hm := hM.hm
  have kW : Kp (fun b => (own0 b).c = c) w0 W := hM.kp.trans hKW (fun _ _ h => h.elim)
  refine x_add hxW key val g (s.now + 1) hlen (WalkArith.wf_i64 (by omega)) (by rw [hmk]; omega) (show nm < 1000000 by omega) (show nv < 1000000 by omega) (fun w' own'' sl'' nv' nm' hk' ho' h1 h2 hx' => ?_)
  have h1' : nv' ≤ nv + 1 := h1
  have h2' : nm' ≤ nm + 1 := h2
  have hc : ∀ b, (b = mv ∨ b = mm ∨ own' b = ⟨c, 7, 0, key⟩) → (own' b).c = c := fun b h => by
    rcases h with h | h | h
    · rw [h, hxW.ownV]
    · rw [h, hxW.ownM]
    · rw [h]
  refine hR w' own'' sl'' nv' nm' ⟨?_, fun b hb => ?_, ?_, by omega, by omega, ?_⟩
  · rw [← comm_step s ⟨0, wrL ws, 0⟩ (leftL ws j) (leftL ws (j + 1)) nv nm nv' nm' key (val, g) hwr hl1 hl2 hl3]; exact hx'
  · rw [ho' b (Nat.lt_of_lt_of_le hb kW.size)]; exact hM.ownE b hb
  · refine kW.trans hk' (fun b hb h => ?_)
    rw [← hM.ownE b hb]; exact hc b h
  · refine (hM.rd.kept hKW).kp hk' (fun b e h => ?_)
    obtain ⟨h3, h4⟩ := hrv b e
    exact h4 (by rw [← hM.ownE b h3]; exact hc b h)

set_option maxRecDepth 20000 in
set_option maxHeartbeats 4000000 in
theorem x_do_commit (h : XR own c w p s mo ph mv mm pt mw sl) (hT : Tab w) (hN : TabN own c) (rv : Value) (ws : List (ByteArray × ByteArray × Bool)) (h1c : rv.oneCell' = true) (hrd : RdW w rv ws) (hne : ws ≠ []) (hnd : (ws.map Prod.fst).Nodup) (hn : ws.length ≤ 10) (hsz : ∀ x ∈ ws, x.1.size ≤ 8 ∧ x.2.1.size ≤ 20) (hrv : ∀ b, rv.ownBlock = some b → (own b).c ≠ c)
    (hl : s.log.lg.length ≤ 4999) (hbs : ∀ b ∈ s.log.lg, b.length ≤ 400) (hnow : 0 ≤ s.now ∧ s.now < 2000) (hmom : ∀ k, (s.mom k).length < 1000000) (hnv : s.nv + 10 < 1000000) (hnm : s.nm + 10 < 1000000) (t : Nat) (ht : (t : Int) = s.now + 1)
    (hR : ∀ w' own' sl' l' nv' nm', Kp (fun b => (own b).c = c) w w' → (∀ b, b < w.heap.size → own' b = own b) → l'.lg = s.log.lg ++ [bodyC t ws] → l'.sy = s.log.sy → nv' ≤ s.nv + ws.length → nm' ≤ s.nm + ws.length →
      XR own' c w' p (comm { s with log := l' } ⟨0, wrL ws, 0⟩ (fun _ => false) nv' nm') mo ph mv mm pt mw sl' → R (.returned (.tuple #[])) w') :
    Calls Tryz.prog 46 #[.pointer (some ⟨p, 0, none⟩), .agg #[.int .u8 67, .int .i64 t, rv]] w R := by
  obtain ⟨pw, cap, rfl, hw1⟩ := hrd
  obtain ⟨g, rfl, hc⟩ := hw1 hne
  have HRD : Hid (RdW w (.slice (some ⟨g, 0, none⟩) ws.length cap) ws) := ⟨_, cap, rfl, hw1⟩
  have H0 := hid_of h
  have HT := hid_of hT
  have HN := hid_of hN
  have HR := hid_of hR
  have HL := hid_of hl
  have HBS := hid_of hbs
  have HSZ := hid_of hsz
  have HND := hid_of hnd
  have HRV := hid_of hrv
  have HNE := hid_of hne
  have HNL := hid_of hn
  have HNOW := hid_of hnow
  have HMOM := hid_of hmom
  have HNV := hid_of hnv
  have HNM := hid_of hnm
  have HGL : Hid (g < w.heap.size) := by
    obtain ⟨x, hx⟩ : ∃ x, ws[0]? = some x := ⟨ws[0]'(List.length_pos_iff.2 hne), List.getElem?_eq_getElem (List.length_pos_iff.2 hne)⟩
    exact World.block_lt_of_cell? w _ (hc 0 x hx).1
  have HBL : Hid ((bodyC t ws).length ≤ 400) := by
    have := bodyC_length_le t ws hsz
    show _ ≤ _
    omega
  have ht2 : (t : Int) ≤ 2000 := by omega
  have HTL : Hid (t < 4294967296) := by show _ < _; omega
  have hn' : (ws.length : Int) ≤ 10 := by omega
  have HTE := hid_of ht
  have b0 : (w.alloc (.cells #[.int .u8 67, .int .i64 t, .slice (some ⟨g, 0, none⟩) ws.length cap] 110)).cell? ⟨w.heap.size, 0, none⟩ = some (.int .u8 67) := by go_simp
  have b1 : (w.alloc (.cells #[.int .u8 67, .int .i64 t, .slice (some ⟨g, 0, none⟩) ws.length cap] 110)).cell? ⟨w.heap.size, 1, none⟩ = some (.int .i64 t) := by go_simp
  have b2 : (w.alloc (.cells #[.int .u8 67, .int .i64 t, .slice (some ⟨g, 0, none⟩) ws.length cap] 110)).cell? ⟨w.heap.size, 2, none⟩ = some (.slice (some ⟨g, 0, none⟩) ws.length cap) := by go_simp
  have HKA : Hid (Kp (fun _ => False) w (w.alloc (.cells #[.int .u8 67, .int .i64 t, .slice (some ⟨g, 0, none⟩) ws.length cap] 110))) := Kp.alloc _ _ _
  clear h hT hN hR hl hbs hsz hnd hrv hne hn hnow hmom hnv hnm hw1 hc ht
  go_enter Tryz.func46, Tryz.ntmps46
  go_wp2_with fail
  generalize w.alloc (.cells #[.int .u8 67, .int .i64 t, .slice (some ⟨g, 0, none⟩) ws.length cap] 110) = A at b0 b1 b2 HKA ⊢
  go_region_law (refine step_call rfl 78 _ _ _ rfl Tryz.func78 (by kernel_rfl) (by kernel_rfl) _ (by simp [Act.eval]; rfl) ?_; refine x_jadd (H0.out.outer (HKA.out.trans (Kp.drew _ _) (fun _ _ h => h))) (HT.out.kept (HKA.out.trans (Kp.drew _ _) (fun _ _ h => h))) (HN.out.outer HT.out) 67 t (.slice (some ⟨g, 0, none⟩) ws.length cap) (bodyC t ws) HL.out HBS.out HBL.out rfl (Or.inr ⟨t, _, ws, HTL.out, rfl, rfl, HRD.out.kept (HKA.out.trans (Kp.drew _ _) (fun _ _ h => h)), HNE.out, by have := HNL.out; omega, fun x hx => by have := HSZ.out x hx; omega, rfl⟩) (fun b e => by simp only [Value.ownBlock, Option.some.injEq] at e; subst e; rw [outer_old HGL.out]; exact HRV.out g rfl) ?_; intro w1 own1 l1 hk1 ho1 _ hl1 hs1 hx1; have H1 := hid_of hx1; have HK1 := hid_of hk1; have HO1 := hid_of ho1; have HL1 := hid_of hl1; have HS1 := hid_of hs1; have d0 : w1.cell? ⟨w.heap.size, 0, none⟩ = some (.int .u8 67) := (hk1.cell (a := ⟨w.heap.size, 0, none⟩) (World.block_lt_of_cell? A _ b0) (fun e => outer_new (Nat.le_refl _) e.1)).trans b0; have d1 : w1.cell? ⟨w.heap.size, 1, none⟩ = some (.int .i64 t) := (hk1.cell (a := ⟨w.heap.size, 1, none⟩) (World.block_lt_of_cell? A _ b1) (fun e => outer_new (Nat.le_refl _) e.1)).trans b1; have d2 : w1.cell? ⟨w.heap.size, 2, none⟩ = some (.slice (some ⟨g, 0, none⟩) ws.length cap) := (hk1.cell (a := ⟨w.heap.size, 2, none⟩) (World.block_lt_of_cell? A _ b2) (fun e => outer_new (Nat.le_refl _) e.1)).trans b2; have c1 : w1.cell? ⟨p, 2, none⟩ = some (.int .i64 s.now) := cell_of hx1.store 2; have f1 : w1.frozen? ⟨p, 2, none⟩ = false := frozen_of hx1.store 2; have npb : w.heap.size ≠ p := fun e => outer_new (own := own) (c := c) (Nat.le_refl w.heap.size) (by rw [e, outer_old (by rw [← e]; exact absurd (block_lt H0.out.store) (by rw [← e]; exact Nat.lt_irrefl _))]; rw [H0.out.ownP]); clear hk1 ho1 hl1 hs1 hx1; refine ⟨_, rfl, ?_⟩)
  all_goals
    clear b0 b1 b2
    go_wp2_with fail
    have HW1 : Hid (Kp (fun b => (own1 b).c = c) w1 (w1.setCell ⟨p, 2, none⟩ (.int .i64 t))) := Kp.setCell w1 _ _ (by show (own1 p).c = c; rw [H1.out.ownP])
    have HX1 : Hid (XR own1 c (w1.setCell ⟨p, 2, none⟩ (.int .i64 t)) p (comm { s with log := l1 } ⟨0, wrL ws, 0⟩ (leftL ws 0) s.nv s.nm) mo ph mv mm pt mw sl) := by
      have h1 := H1.out.tick t
      rw [HTE.out] at h1
      have h2 := comm_start { s with log := l1 } ⟨0, wrL ws, 0⟩ (leftL ws 0) (fun k => leftL_start ws k)
      rw [HTE.out]
      show XR _ _ _ _ (comm { s with log := l1 } ⟨0, wrL ws, 0⟩ (leftL ws 0) ({ s with log := l1 } : XS).nv ({ s with log := l1 } : XS).nm) _ _ _ _ _ _ _
      rw [h2]; exact h1
    have HG1 : Hid (own1 g = own g) := (HO1.out g (Nat.lt_of_lt_of_le HGL.out HKA.out.size)).trans (outer_old HGL.out)
    have HGW : Hid (g < (w1.setCell ⟨p, 2, none⟩ (.int .i64 t)).heap.size) := Nat.lt_of_lt_of_le (Nat.lt_of_lt_of_le (Nat.lt_of_lt_of_le HGL.out HKA.out.size) HK1.out.size) HW1.out.size
    have HRD1 : Hid (RdW (w1.setCell ⟨p, 2, none⟩ (.int .i64 t)) (.slice (some ⟨g, 0, none⟩) ws.length cap) ws) := by
      refine ((HRD.out.kept (HKA.out.trans (Kp.drew _ _) (fun _ _ h => h))).kp HK1.out (fun b e h => ?_)).kp HW1.out (fun b e h => ?_)
      · simp only [Value.ownBlock, Option.some.injEq] at e
        subst e
        have := h.1
        rw [outer_old HGL.out] at this
        exact HRV.out g rfl this
      · simp only [Value.ownBlock, Option.some.injEq] at e
        subst e
        rw [HG1.out] at h
        exact HRV.out g rfl h
    generalize hW1 : w1.setCell ⟨p, 2, none⟩ (.int .i64 t) = W1 at HW1 HX1 HGW HRD1 ⊢
    clear d0 d1 d2 c1 f1
    go_loopw [29] (fun v29 wr => ∃ (j : Nat) (own' : Nat → Lab) (sl' : ByteArray → Value) (nv nm : Nat), j ≤ ws.length ∧ v29 = .int .i64 j ∧ MidD own1 c W1 p { s with log := l1 } (.slice (some ⟨g, 0, none⟩) ws.length cap) ws mo ph mv mm pt mw wr own' sl' j nv nm) (fun v29 _ => ws.length - (intOf v29).toNat)
    case atStart => exact ⟨0, own1, sl, s.nv, s.nm, Nat.zero_le _, rfl, HX1.out, fun _ _ => rfl, Kp.refl _ _, Nat.le_refl _, Nat.le_refl _, HRD1.out⟩
    case round =>
      obtain ⟨j, own', sl', nv, nm, hj, rfl, hM⟩ := hrel
      by_cases hlt : j < ws.length
      · obtain ⟨x, hx⟩ : ∃ x, ws[j]? = some x := ⟨ws[j], List.getElem?_eq_getElem hlt⟩
        obtain ⟨a0, a1, a2⟩ := hM.rd.cells hx
        obtain ⟨key, val, gone⟩ := x
        have HM := hid_of hM
        have hjl : (j : Int) < ws.length := by omega
        clear hM
        go_wp2_with fail
        clear a0 a1 a2
        have e0 : (wr.alloc (.cells #[.string key, .string val, .bool gone] 153)).cell? ⟨wr.heap.size, 0, none⟩ = some (.string key) := by go_simp
        have e1 : (wr.alloc (.cells #[.string key, .string val, .bool gone] 153)).cell? ⟨wr.heap.size, 1, none⟩ = some (.string val) := by go_simp
        have e2 : (wr.alloc (.cells #[.string key, .string val, .bool gone] 153)).cell? ⟨wr.heap.size, 2, none⟩ = some (.bool gone) := by go_simp
        have hkw : Kp (fun _ => False) wr (wr.alloc (.cells #[.string key, .string val, .bool gone] 153)) := Kp.alloc _ _ _
        generalize wr.alloc (.cells #[.string key, .string val, .bool gone] 153) = W at e0 e1 e2 hkw ⊢
        have hxW := HM.out.xr.kept hkw
        have d3 : W.cell? ⟨p, 0, none⟩ = some (.pointer (some ⟨ph, 0, none⟩)) := cell_of hxW.store 0
        have d0 : W.cell? ⟨p, 2, none⟩ = some (.int .i64 (s.now + 1)) := cell_of hxW.store 2
        have Hgo : Hid (∀ {R : Ending → World → Prop}, (∀ w' own'' sl'' nv' nm', MidD own1 c W1 p { s with log := l1 } (.slice (some ⟨g, 0, none⟩) ws.length cap) ws mo ph mv mm pt mw w' own'' sl'' (j + 1) nv' nm' → R (.returned (.tuple #[])) w') → Calls Tryz.prog 79 #[.pointer (some ⟨ph, 0, none⟩), .string key, .int .i64 (s.now + 1), .agg #[.string val, .bool gone]] W.drew R) :=
          fun hR => midD_add HM.out HND.out key val gone hx (HSZ.out _ (List.mem_of_getElem? hx)).1 HNOW.out (HMOM.out key) (by have := HNV.out; have := HNL.out; show s.nv + j < 1000000; omega) (by have := HNM.out; have := HNL.out; show s.nm + j < 1000000; omega) (fun b e => by simp only [Value.ownBlock, Option.some.injEq] at e; subst e; exact ⟨HGW.out, by rw [HG1.out]; exact HRV.out g rfl⟩) (hkw.trans (Kp.drew _ _) (fun _ _ h => h)) hR
        clear hxW hkw hx
        go_region_law (refine step_call rfl 79 _ _ _ rfl Tryz.func79 (by kernel_rfl) (by kernel_rfl) _ (by simp [Act.eval]; rfl) ?_; refine Hgo.out ?_; intro w5 own5 sl5 nv5 nm5 hM5; have HM5 := hid_of hM5; clear hM5; refine ⟨_, rfl, ?_⟩)
        all_goals
          clear e0 e1 e2 d0 d3 Hgo
          go_wp2_with fail
          first
            | go_roundw
              case rel => exact ⟨j + 1, own5, sl5, nv5, nm5, by omega, by go_num, HM5.out⟩
              case measure => simp [intOf]; omega
            | exact ⟨⟨j + 1, own5, sl5, nv5, nm5, by omega, by go_num, HM5.out⟩, by simp [intOf]; omega⟩
      · have hj' : j = ws.length := by omega
        subst hj'
        have HM := hid_of hM
        clear hM
        go_wp2_with fail
        first | go_end0 | skip
        refine HR.out _ own' sl' l1 nv nm ((((HKA.out.mono (fun _ _ h => h.elim)).trans (Kp.drew _ _) (fun _ _ h => h)).trans HK1.out (fun b hb e => ?_)).trans (HW1.out.trans HM.out.kp (fun _ _ h => h)) (fun b hb e => ?_)) (fun b hb => ?_) HL1.out HS1.out HM.out.hv HM.out.hm ?_
        · have := e.1; rw [outer_old hb] at this; exact this
        · have hb1 := Nat.lt_of_lt_of_le hb HKA.out.size
          rw [HO1.out b hb1, outer_old hb] at e
          exact e
        · have hb1 := Nat.lt_of_lt_of_le hb HKA.out.size
          rw [HM.out.ownE b (Nat.lt_of_lt_of_le (Nat.lt_of_lt_of_le hb1 HK1.out.size) HW1.out.size), HO1.out b hb1, outer_old hb]
        · have := HM.out.xr
          rw [leftL_end] at this
          exact this

end

end Go.Proofs.YthbdpfccfcceiaaGreatDoor
