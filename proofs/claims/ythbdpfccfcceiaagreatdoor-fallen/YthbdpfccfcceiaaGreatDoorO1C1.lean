/-
  Whether a transaction has been overtaken: (*Store).overtaken.
  The history's Add, told of the store's plain state.
-/
import Derived.Test.YthbdpfccfcceiaaGreatDoorS2S3
namespace Go.Proofs.YthbdpfccfcceiaaGreatDoor
open Go.RowKit Go.Maps

def changed (l : List Int) (t : Int) : Bool := match l.getLast? with | some m => decide (t < m) | none => false

theorem ownsRow_cells {w : World} {v : Value} {l : List Int} (h : w.ownsRow 0 3 1 v l.length (l.map (Value.int .i64))) (hl : l ≠ []) :
    ∃ g cap, v = .slice (some ⟨g, 0, none⟩) l.length cap ∧ ∀ j, j < l.length → w.cell? ⟨g, j, none⟩ = some (.int .i64 (l.getD j 0)) := by
  rcases h.2 with ⟨_, h0⟩ | ⟨g, cap, cur, e, _, hg, hn, _, hcs, htk⟩
  · exact absurd (List.eq_nil_of_length_eq_zero h0) hl
  · refine ⟨g, cap, e, fun j hj => ?_⟩
    rw [cell_of hg]
    have : (l.map (Value.int .i64))[j]? = cur.toList[j]? := by
      rw [← htk, List.getElem?_take]; simp [hj]
    rw [List.getElem?_map, List.getElem?_eq_getElem hj] at this
    rw [← Array.getElem?_toList, ← this]
    simp [List.getD, List.getElem?_eq_getElem hj]

section
variable {own own' : Nat → Lab} {c : Nat} {w w' : World} {p : Nat} {s : XS} {mo ph mv mm : Nat} {pt mw : Int → Nat} {sl : ByteArray → Value}

theorem x_changed (h : XR own c w p s mo ph mv mm pt mw sl) (key : ByteArray) (hlen : key.size ≤ 8) (hl : (s.mom key).length < 1000000) (t : Int) :
    Calls Tryz.prog 125 #[.pointer (some ⟨ph, 0, none⟩), .string key, .int .i64 t] w fun e w' => e = .returned (.bool (changed (s.mom key) t)) ∧ w' = w := by
  have c1 : w.cell? ⟨ph, 1, none⟩ = some (.map (some mm)) := cell_of h.hist 1
  by_cases hm : s.mom key = []
  · refine changed_nil ph mm s.nm _ key t w c1 h.moms hlen none 0 (by rw [encS_at, if_pos hm]; rfl) ⟨by rw [hm]; rfl, rfl⟩
  · obtain ⟨g, cap, hv, hc⟩ := ownsRow_cells (h.row key hm) hm
    obtain ⟨len, hlen'⟩ : ∃ len, (s.mom key).length = len + 1 := ⟨(s.mom key).length - 1, by have := List.length_pos_iff.2 hm; omega⟩
    refine changed_some ph mm s.nm _ key t w c1 h.moms hlen g len cap (by rw [encS_at, if_neg hm, hv, hlen']; rfl) (by omega) _ (hc len (by omega)) ⟨?_, rfl⟩
    unfold changed
    rw [List.getLast?_eq_getElem?, hlen']
    simp only [Nat.add_sub_cancel]
    rw [List.getElem?_eq_getElem (by omega)]
    simp [List.getD, List.getElem?_eq_getElem (show len < (s.mom key).length by omega)]

theorem encS_inv {g : ByteArray → Option (ByteArray × Bool)} {key v : Value} (h : encS (fun k => (g k).map encVer) key = some v) : ∃ (k : ByteArray) (x : Value), key = .string k ∧ v = (fun v : Value => v) x := by
  cases key <;> simp [encS] at h
  exact ⟨_, v, rfl, rfl⟩

def overt (s : XS) (t : XT) : Prop := ∃ k, (t.wr k).isSome = true ∧ changed (s.mom k) t.sees = true

variable {R : Ending → World → Prop}

set_option maxRecDepth 20000 in
set_option maxHeartbeats 1000000 in
theorem x_overtaken (h : XR own c w p s mo ph mv mm pt mw sl) (tx : Int) (t : XT) (e : s.txs tx = some t) (hkeys : ∀ k, (t.wr k).isSome = true → k.size ≤ 8) (hmom : ∀ k, (s.mom k).length < 1000000)
    (h0 : ¬ overt s t → ∀ w', Kp (fun _ => False) w w' → R (.returned (.bool false)) w')
    (h1 : overt s t → ∀ w', Kp (fun _ => False) w w' → R (.returned (.bool true)) w') :
    Calls Tryz.prog 71 #[.pointer (some ⟨p, 0, none⟩), .pointer (some ⟨pt tx, 0, none⟩)] w R := by
  have c1 : w.cell? ⟨pt tx, 1, none⟩ = some (.map (some (mw tx))) := cell_of (h.tx tx t e) 1
  have hw := h.wr tx t e
  have H0 : Hid _ := h0
  have H1 : Hid _ := h1
  clear h0 h1
  go_enter Tryz.func71, Tryz.ntmps71
  go_wp2_with (first
    | (at_range; refine wpL_range _ rfl _ 130 rfl 9 138 kStr Tryz.underlying130 (mw tx) t.nw _ rfl hw ?_; intro w0 hrg0 hg0 hs0)
    | go_in)
  go_frame
  go_loopw [5] (fun _ wr => ∃ (left : Value → Bool) (cnt : Nat), frng wr Tryz.prog 9 (mw tx) w.heap.size t.nw (encS fun k => (t.wr k).map encVer) left cnt ∧ Kp (fun _ => False) w wr ∧ ∀ k, (t.wr k).isSome = true → left (.string k) = false → changed (s.mom k) t.sees = false)
    (fun _ wr => wr.rangeLeft (mw tx) w.heap.size)
  case atStart => exact ⟨_, _, hrg0, Kp.of_grown hg0 (fun _ h => by cases h), fun k hk hl => by rw [encS_at] at hl; rw [Option.isSome_map, hk] at hl; cases hl⟩
  case round =>
    obtain ⟨left, cnt, hrg, hkp, hdone⟩ := hrel
    have HD : Hid _ := hdone
    clear hdone
    go_wp2_with (first
      | (at_next; refine wpL_next _ rfl _ rfl 9 kStr Value.string (fun v : Value => v) (mw tx) w.heap.size t.nw _ left cnt (fun key v hv => ?inv) rfl hrg ?_ ?_)
      | go_in)
    case inv => exact encS_inv hv
    · intro _ hl0
      go_wp2
      refine H0.out (fun ⟨k, hk1, hk2⟩ => ?_) _ hkp
      rw [HD.out k hk1 (hl0 _)] at hk2; cases hk2
    · intro k v w1 cnt1 hlk hfk left' hrg1 hl1 hl2 hlt hg1 hs1 hen
      have hks : (t.wr k).isSome = true := by
        rw [encS_at] at hfk
        cases hq : t.wr k with
        | none => rw [hq] at hfk; cases hfk
        | some _ => rfl
      have hkp1 : Kp (fun _ => False) w w1 := hkp.trans (Kp.of_grown (S := fun b => b = w.heap.size) hg1 (fun b hb => by cases hb; rfl)) (fun b hb e => by omega)
      have hx := h.kept hkp1
      have d0 : w1.cell? ⟨p, 0, none⟩ = some (.pointer (some ⟨ph, 0, none⟩)) := cell_of hx.store 0
      have d1 : w1.cell? ⟨pt tx, 0, none⟩ = some (.int .i64 t.sees) := cell_of (hx.tx tx t e) 0
      clear hfk hlk
      have hcall : Hid (∀ W : World, W = w1.drew → Calls Tryz.prog 125 #[.pointer (some ⟨ph, 0, none⟩), .string k, .int .i64 t.sees] W fun e w' => e = .returned (.bool (changed (s.mom k) t.sees)) ∧ w' = W) := fun W hW => by
        subst hW; exact x_changed (hx.kept (Kp.drew _ _)) k (hkeys k hks) (hmom k) t.sees
      have hrg2 : frng w1.drew Tryz.prog 9 (mw tx) w.heap.size t.nw (encS fun k => (t.wr k).map encVer) left' cnt1 := hrg1.of_block rfl rfl
      have hkp2 : Kp (fun _ => False) w w1.drew := hkp1.trans (Kp.drew _ _) (fun _ _ h => h)
      cases hch : changed (s.mom k) t.sees
      · rw [hch] at hcall
        go_wp2_with fail
        go_region_with (go_at_call 125; refine (hcall.out _ rfl).mono ?_; rintro e w' ⟨rfl, rfl⟩)
        all_goals
          clear d0 d1 hen
          go_wp2_with fail
          go_roundw
          case rel =>
            refine ⟨left', cnt1, hrg2, hkp2, fun k' hk' hl' => ?_⟩
            by_cases ek : k' = k
            · subst ek; exact hch
            · exact HD.out k' hk' (by rw [← hl2 _ (fun e => ek (by injection e))]; exact hl')
          case measure => rw [hrg2.left_eq, hrg.left_eq]; exact hlt
      · rw [hch] at hcall
        go_wp2_with fail
        go_region_with (go_at_call 125; refine (hcall.out _ rfl).mono ?_; rintro e w' ⟨rfl, rfl⟩)
        all_goals
          clear d0 d1 hen
          go_wp2_with fail
          exact H1.out ⟨k, hks, hch⟩ _ hkp2

end

end Go.Proofs.YthbdpfccfcceiaaGreatDoor

namespace Go.Proofs.YthbdpfccfcceiaaGreatDoor
open Go.RowKit Go.Maps

section
variable {own own' : Nat → Lab} {c : Nat} {w w' : World} {p : Nat} {s : XS} {mo ph mv mm : Nat} {pt mw : Int → Nat} {sl : ByteArray → Value}

theorem map_updP (g : ByteArray → Int → Option (ByteArray × Bool)) (k : ByteArray) (m : Int) (v : ByteArray × Bool) : (fun a b => ((updP g k m (some v)) a b).map encVer) = updP (fun a b => (g a b).map encVer) k m (some (encVer v)) := by
  funext a b
  by_cases e : a = k ∧ b = m
  · simp [updP, e]
  · simp [updP, e]

theorem put_moms (mom : ByteArray → List Int) (sl : ByteArray → Value) (key : ByteArray) (t : Int) (v' : Value) :
    IsPut (encS fun k => if mom k = [] then none else some (sl k)) (.string key) v' (encS fun k => if (updS mom key (mom key ++ [t])) k = [] then none else some (updS sl key v' k)) := by
  have : (fun k => if (updS mom key (mom key ++ [t])) k = [] then none else some (updS sl key v' k)) = updS (fun k => if mom k = [] then none else some (sl k)) key (some v') := by
    funext k
    by_cases e : k = key
    · subst e; simp [updS]
    · simp [updS, e]
  rw [this]; exact put_encS _ _ _

variable {R : Ending → World → Prop}

theorem x_add (h : XR own c w p s mo ph mv mm pt mw sl) (key val : ByteArray) (g : Bool) (t : Int) (hlen : key.size ≤ 8) (hwt : (Lit.int .i64 t).wf = true) (hl : (s.mom key).length < 1000000) (hnm : s.nm < 1000000) (hnv : s.nv < 1000000)
    (hR : ∀ w' own' sl' nv' nm', Kp (fun b => b = mv ∨ b = mm ∨ own b = ⟨c, 7, 0, key⟩) w w' → (∀ b, b < w.heap.size → own' b = own b) → nv' ≤ s.nv + 1 → nm' ≤ s.nm + 1 →
      XR own' c w' p { s with mom := updS s.mom key (s.mom key ++ [t]), ver := updP s.ver key t (some (val, g)), nv := nv', nm := nm' } mo ph mv mm pt mw sl' → R (.returned (.tuple #[])) w') :
    Calls Tryz.prog 79 #[.pointer (some ⟨ph, 0, none⟩), .string key, .int .i64 t, .agg #[.string val, .bool g]] w R := by
  have c0 : w.cell? ⟨ph, 0, none⟩ = some (.map (some mv)) := cell_of h.hist 0
  have c1 : w.cell? ⟨ph, 1, none⟩ = some (.map (some mm)) := cell_of h.hist 1
  have hne : mv ≠ mm := lab_ne (own := own) (by rw [h.ownV, h.ownM]; simp)
  -- the slice that is there
  obtain ⟨v, hv, hrow, hvo⟩ : ∃ v, ((encS fun k => if s.mom k = [] then none else some (sl k)) (.string key)).getD (.slice none 0 0) = v ∧ w.ownsRow 0 3 1 v (s.mom key).length ((s.mom key).map (Value.int .i64)) ∧ ∀ b, v.ownBlock = some b → own b = ⟨c, 7, 0, key⟩ := by
    by_cases hm : s.mom key = []
    · exact ⟨.slice none 0 0, by rw [encS_at, if_pos hm]; rfl, by rw [hm]; exact World.ownsRow_nil w 0 3 1, fun b hb => by simp [Value.ownBlock] at hb⟩
    · exact ⟨sl key, by rw [encS_at, if_neg hm]; rfl, h.row key hm, h.ownR key hm⟩
  have hvp : v.ownBlock ≠ some ph := fun e => by have := hvo ph e; rw [h.ownH] at this; simp at this
  have hp : IsPut (encP fun k m => (s.ver k m).map encVer) (.agg #[.string key, .int .i64 t]) (.agg #[.string val, .bool g]) (encP fun k m => ((updP s.ver key t (some (val, g))) k m).map encVer) := by
    rw [map_updP]; exact put_encP _ _ _ _
  refine add_any ph mv mm s.nm s.nv _ _ key val g t w c0 c1 h.moms h.vers hne hnm hnv hlen hwt v (s.mom key) hv hrow hl hvp hp (fun w' v' hk hvers hmoms hrow' hloc => ?_)
  have hk' : Kp (fun b => b = mv ∨ b = mm ∨ own b = ⟨c, 7, 0, key⟩) w w' := hk.mono (fun b _ hb => hb.imp id (fun hb => hb.imp id (hvo b)))
  have hmoms' := hmoms _ (put_moms s.mom sl key t v')
  generalize hnvE : (if (encP (fun k m => Option.map encVer (s.ver k m)) (Value.agg #[Value.string key, Value.int IntKind.i64 t])).isSome = true then s.nv else s.nv + 1) = nv' at hvers
  generalize hnmE : (if (encS (fun k => if s.mom k = [] then none else some (sl k)) (Value.string key)).isSome = true then s.nm else s.nm + 1) = nm' at hmoms'
  have b1 : nv' ≤ s.nv + 1 := by rw [← hnvE]; split <;> omega
  have b2 : nm' ≤ s.nm + 1 := by rw [← hnmE]; split <;> omega
  have old : ∀ b, b < w.heap.size → own b ≠ ⟨c, 3, 0, eb⟩ → own b ≠ ⟨c, 4, 0, eb⟩ → own b ≠ ⟨c, 7, 0, key⟩ → w'.heap[b]? = w.heap[b]? := fun b hb e1 e2 e3 =>
    hk'.block b hb (fun hb => by
      rcases hb with hb | hb | hb
      · exact e1 (by rw [hb, h.ownV])
      · exact e2 (by rw [hb, h.ownM])
      · exact e3 hb)
  have lp := block_lt h.store; have lh := block_lt h.hist; have lo := h.opn.lt; have lv := h.vers.lt; have lm := h.moms.lt
  -- the labels: the new slice's block
  have hout : ∀ b, b < w.heap.size → (fun b => if v'.ownBlock = some b then (⟨c, 7, 0, key⟩ : Lab) else own b) b = own b := fun b hb => by
    by_cases e : v'.ownBlock = some b
    · simp only [e, if_true]
      rcases hloc with hl | ⟨b', hb', hge⟩
      · exact (hvo b (hl ▸ e)).symm
      · rw [hb'] at e; cases e; omega
    · simp [e]
  refine hR w' (fun b => if v'.ownBlock = some b then ⟨c, 7, 0, key⟩ else own b) (updS sl key v') nv' nm' hk' hout b1 b2
    ⟨(hout p lp).trans h.ownP, (hout mo lo).trans h.ownO, (hout ph lh).trans h.ownH, (hout mv lv).trans h.ownV, (hout mm lm).trans h.ownM, ?_, ?_, ?_, ?_, ?_, ?_, hvers, hmoms', ?_, ?_, h.log.frame (fun b hlt _ hk => old b hlt (fun e => by rw [e] at hk; simp at hk) (fun e => by rw [e] at hk; simp at hk) (fun e => by rw [e] at hk; simp at hk)) (fun b hlt _ _ => hout b hlt), h.bks.frame (fun b hlt _ hk => old b hlt (fun e => by rw [e] at hk; simp at hk) (fun e => by rw [e] at hk; simp at hk) (fun e => by rw [e] at hk; simp at hk)) (fun b hlt _ _ => hout b hlt)⟩
  · exact (old p lp (by rw [h.ownP]; simp) (by rw [h.ownP]; simp) (by rw [h.ownP]; simp)).trans h.store
  · exact (old ph lh (by rw [h.ownH]; simp) (by rw [h.ownH]; simp) (by rw [h.ownH]; simp)).trans h.hist
  · exact h.opn.of_block (old mo lo (by rw [h.ownO]; simp) (by rw [h.ownO]; simp) (by rw [h.ownO]; simp))
  · intro n t1 e1
    exact ⟨(hout _ (block_lt (h.tx n t1 e1))).trans (h.ownT n t1 e1).1, (hout _ (h.wr n t1 e1).lt).trans (h.ownT n t1 e1).2⟩
  · intro n t1 e1
    have hl := (h.ownT n t1 e1).1
    exact (old _ (block_lt (h.tx n t1 e1)) (by rw [hl]; simp) (by rw [hl]; simp) (by rw [hl]; simp)).trans (h.tx n t1 e1)
  · intro n t1 e1
    have hl := (h.ownT n t1 e1).2
    exact (h.wr n t1 e1).of_block (old _ (h.wr n t1 e1).lt (by rw [hl]; simp) (by rw [hl]; simp) (by rw [hl]; simp))
  · intro k hk b e
    by_cases ek : k = key
    · subst ek
      rw [updS_same] at e
      simp [e]
    · rw [updS_other _ ek] at e
      have hm : s.mom k ≠ [] := by simpa [updS, ek] using hk
      exact (hout b ((h.row k hm).lt b e).2).trans (h.ownR k hm b e)
  · intro k hk
    by_cases ek : k = key
    · subst ek
      simp only [updS_same, List.length_append, List.length_cons, List.length_nil, Nat.zero_add, List.map_append, List.map_cons, List.map_nil]
      exact hrow'
    · have hm : s.mom k ≠ [] := by simpa [updS, ek] using hk
      simp only [updS_other _ ek]
      have h0 := h.row k hm
      refine ⟨h0.1, ?_⟩
      rcases h0.2 with h1 | ⟨g, cap, cur, e, hg0, hg, r⟩
      · exact Or.inl h1
      · have hl := h.ownR k hm g (by rw [e]; rfl)
        exact Or.inr ⟨g, cap, cur, e, hg0, (old g (block_lt hg) (by rw [hl]; simp) (by rw [hl]; simp) (by rw [hl]; simp [ek])).trans hg, r⟩

end

end Go.Proofs.YthbdpfccfcceiaaGreatDoor
