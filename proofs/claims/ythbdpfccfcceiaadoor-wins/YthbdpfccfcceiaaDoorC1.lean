/-
  The history's Add, told of the store's plain state.
-/
import Derived.Test.YthbdpfccfcceiaaDoorO1
namespace Go.Proofs.YthbdpfccfcceiaaDoor
open Go.RowKit Go.Maps

section
variable {own own' : Nat → Lab} {c : Nat} {w w' : World} {p : Nat} {s : XS} {mo ph mv mm : Nat} {pt mw : Int → Nat} {sl : ByteArray → Value}

theorem map_updP (g : ByteArray → Int → Option (ByteArray × Bool)) (k : ByteArray) (m : Int) (v : ByteArray × Bool) : (fun a b => ((updP g k m (some v)) a b).map encVer) = updP (fun a b => (g a b).map encVer) k m (some (encVer v)) := by
  funext a b
  by_cases e : a = k ∧ b = m
  · simp [updP, e]
  · simp [updP, e]

theorem put_moms (mom : ByteArray → List Int) (sl : ByteArray → Value) (key : ByteArray) (t : Int) (v' : Value) :
    IsPut (encS fun k => if mom k = [] then none else some (sl k)) (.string key) v' (encS fun k => if (updS mom key (mom key ++ [t])) k = [] then none else some (updS sl key v' k)) := by
  have : (fun k => if (updS mom key (mom key ++ [t])) k = [] then none else some (updS sl key v' k)) = updS (fun k => if mom k = [] then none else some (sl k)) key (some v') := by
    funext k
    by_cases e : k = key
    · subst e; simp [updS]
    · simp [updS, e]
  rw [this]; exact put_encS _ _ _

variable {R : Ending → World → Prop}

theorem x_add (h : XR own c w p s mo ph mv mm pt mw sl) (key val : ByteArray) (g : Bool) (t : Int) (hlen : key.size ≤ 8) (hwt : (Lit.int .i64 t).wf = true) (hl : (s.mom key).length < 1000000) (hnm : s.nm < 1000000) (hnv : s.nv < 1000000)
    (hR : ∀ w' own' sl' nv' nm', Kp (fun b => b = mv ∨ b = mm ∨ own b = ⟨c, 7, 0, key⟩) w w' → (∀ b, b < w.heap.size → own' b = own b) → nv' ≤ s.nv + 1 → nm' ≤ s.nm + 1 →
      XR own' c w' p { s with mom := updS s.mom key (s.mom key ++ [t]), ver := updP s.ver key t (some (val, g)), nv := nv', nm := nm' } mo ph mv mm pt mw sl' → R (.returned (.tuple #[])) w') :
    Calls Tryd.prog 51 #[.pointer (some ⟨ph, 0, none⟩), .string key, .int .i64 t, .agg #[.string val, .bool g]] w R := by
  have c0 : w.cell? ⟨ph, 0, none⟩ = some (.map (some mv)) := cell_of h.hist 0
  have c1 : w.cell? ⟨ph, 1, none⟩ = some (.map (some mm)) := cell_of h.hist 1
  have hne : mv ≠ mm := lab_ne (own := own) (by rw [h.ownV, h.ownM]; simp)
  -- the slice that is there
  obtain ⟨v, hv, hrow, hvo⟩ : ∃ v, ((encS fun k => if s.mom k = [] then none else some (sl k)) (.string key)).getD (.slice none 0 0) = v ∧ w.ownsRow 0 3 1 v (s.mom key).length ((s.mom key).map (Value.int .i64)) ∧ ∀ b, v.ownBlock = some b → own b = ⟨c, 7, 0, key⟩ := by
    by_cases hm : s.mom key = []
    · exact ⟨.slice none 0 0, by rw [encS_at, if_pos hm]; rfl, by rw [hm]; exact World.ownsRow_nil w 0 3 1, fun b hb => by simp [Value.ownBlock] at hb⟩
    · exact ⟨sl key, by rw [encS_at, if_neg hm]; rfl, h.row key hm, h.ownR key hm⟩
  have hvp : v.ownBlock ≠ some ph := fun e => by have := hvo ph e; rw [h.ownH] at this; simp at this
  have hp : IsPut (encP fun k m => (s.ver k m).map encVer) (.agg #[.string key, .int .i64 t]) (.agg #[.string val, .bool g]) (encP fun k m => ((updP s.ver key t (some (val, g))) k m).map encVer) := by
    rw [map_updP]; exact put_encP _ _ _ _
  refine add_any ph mv mm s.nm s.nv _ _ key val g t w c0 c1 h.moms h.vers hne hnm hnv hlen hwt v (s.mom key) hv hrow hl hvp hp (fun w' v' hk hvers hmoms hrow' hloc => ?_)
  have hk' : Kp (fun b => b = mv ∨ b = mm ∨ own b = ⟨c, 7, 0, key⟩) w w' := hk.mono (fun b _ hb => hb.imp id (fun hb => hb.imp id (hvo b)))
  have hmoms' := hmoms _ (put_moms s.mom sl key t v')
  generalize hnvE : (if (encP (fun k m => Option.map encVer (s.ver k m)) (Value.agg #[Value.string key, Value.int IntKind.i64 t])).isSome = true then s.nv else s.nv + 1) = nv' at hvers
  generalize hnmE : (if (encS (fun k => if s.mom k = [] then none else some (sl k)) (Value.string key)).isSome = true then s.nm else s.nm + 1) = nm' at hmoms'
  have b1 : nv' ≤ s.nv + 1 := by rw [← hnvE]; split <;> omega
  have b2 : nm' ≤ s.nm + 1 := by rw [← hnmE]; split <;> omega
  have old : ∀ b, b < w.heap.size → own b ≠ ⟨c, 3, 0, eb⟩ → own b ≠ ⟨c, 4, 0, eb⟩ → own b ≠ ⟨c, 7, 0, key⟩ → w'.heap[b]? = w.heap[b]? := fun b hb e1 e2 e3 =>
    hk'.block b hb (fun hb => by
      rcases hb with hb | hb | hb
      · exact e1 (by rw [hb, h.ownV])
      · exact e2 (by rw [hb, h.ownM])
      · exact e3 hb)
  have lp := block_lt h.store; have lh := block_lt h.hist; have lo := h.opn.lt; have lv := h.vers.lt; have lm := h.moms.lt
  -- the labels: the new slice's block
  have hout : ∀ b, b < w.heap.size → (fun b => if v'.ownBlock = some b then (⟨c, 7, 0, key⟩ : Lab) else own b) b = own b := fun b hb => by
    by_cases e : v'.ownBlock = some b
    · simp only [e, if_true]
      rcases hloc with hl | ⟨b', hb', hge⟩
      · exact (hvo b (hl ▸ e)).symm
      · rw [hb'] at e; cases e; omega
    · simp [e]
  refine hR w' (fun b => if v'.ownBlock = some b then ⟨c, 7, 0, key⟩ else own b) (updS sl key v') nv' nm' hk' hout b1 b2
    ⟨(hout p lp).trans h.ownP, (hout mo lo).trans h.ownO, (hout ph lh).trans h.ownH, (hout mv lv).trans h.ownV, (hout mm lm).trans h.ownM, ?_, ?_, ?_, ?_, ?_, ?_, hvers, hmoms', ?_, ?_, h.log.frame (fun b hlt _ hk => old b hlt (fun e => by rw [e] at hk; simp at hk) (fun e => by rw [e] at hk; simp at hk) (fun e => by rw [e] at hk; simp at hk)) (fun b hlt _ _ => hout b hlt), h.bks.frame (fun b hlt _ hk => old b hlt (fun e => by rw [e] at hk; simp at hk) (fun e => by rw [e] at hk; simp at hk) (fun e => by rw [e] at hk; simp at hk)) (fun b hlt _ _ => hout b hlt)⟩
  · exact (old p lp (by rw [h.ownP]; simp) (by rw [h.ownP]; simp) (by rw [h.ownP]; simp)).trans h.store
  · exact (old ph lh (by rw [h.ownH]; simp) (by rw [h.ownH]; simp) (by rw [h.ownH]; simp)).trans h.hist
  · exact h.opn.of_block (old mo lo (by rw [h.ownO]; simp) (by rw [h.ownO]; simp) (by rw [h.ownO]; simp))
  · intro n t1 e1
    exact ⟨(hout _ (block_lt (h.tx n t1 e1))).trans (h.ownT n t1 e1).1, (hout _ (h.wr n t1 e1).lt).trans (h.ownT n t1 e1).2⟩
  · intro n t1 e1
    have hl := (h.ownT n t1 e1).1
    exact (old _ (block_lt (h.tx n t1 e1)) (by rw [hl]; simp) (by rw [hl]; simp) (by rw [hl]; simp)).trans (h.tx n t1 e1)
  · intro n t1 e1
    have hl := (h.ownT n t1 e1).2
    exact (h.wr n t1 e1).of_block (old _ (h.wr n t1 e1).lt (by rw [hl]; simp) (by rw [hl]; simp) (by rw [hl]; simp))
  · intro k hk b e
    by_cases ek : k = key
    · subst ek
      rw [updS_same] at e
      simp [e]
    · rw [updS_other _ ek] at e
      have hm : s.mom k ≠ [] := by simpa [updS, ek] using hk
      exact (hout b ((h.row k hm).lt b e).2).trans (h.ownR k hm b e)
  · intro k hk
    by_cases ek : k = key
    · subst ek
      simp only [updS_same, List.length_append, List.length_cons, List.length_nil, Nat.zero_add, List.map_append, List.map_cons, List.map_nil]
      exact hrow'
    · have hm : s.mom k ≠ [] := by simpa [updS, ek] using hk
      simp only [updS_other _ ek]
      have h0 := h.row k hm
      refine ⟨h0.1, ?_⟩
      rcases h0.2 with h1 | ⟨g, cap, cur, e, hg0, hg, r⟩
      · exact Or.inl h1
      · have hl := h.ownR k hm g (by rw [e]; rfl)
        exact Or.inr ⟨g, cap, cur, e, hg0, (old g (block_lt hg) (by rw [hl]; simp) (by rw [hl]; simp) (by rw [hl]; simp [ek])).trans hg, r⟩

end

end Go.Proofs.YthbdpfccfcceiaaDoor
