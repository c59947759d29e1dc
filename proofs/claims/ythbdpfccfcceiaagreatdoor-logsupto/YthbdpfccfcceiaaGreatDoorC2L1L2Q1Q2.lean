/-
  Commit of a store, told of its plain state.
  What a transaction sees of a key: history.Value, look and Get, told of the store's plain state.
  Get, Now and New of a store, told of its plain state.
  Slices of texts that are sorted and made one of each: slices.Sort and slices.Compact, told of rows.
  slices.Compact of a sorted slice of texts.
-/
import Derived.Test.YthbdpfccfcceiaaGreatDoorB1B2O1C1
import Derived.Lib.SlicesCompact
import Derived.Sort.Walk0
namespace Go.Proofs.YthbdpfccfcceiaaGreatDoor
open Go.RowKit Go.Maps

/-- A store of which some of what a transaction wrote is taken in at the next moment: all but the keys that are left. -/
def comm (s : XS) (t : XT) (left : Value → Bool) (nv nm : Nat) : XS :=
  { s with now := s.now + 1, mom := fun k => if ((t.wr k).isSome && !left (.string k)) = true then s.mom k ++ [s.now + 1] else s.mom k, ver := fun k m => if m = s.now + 1 ∧ ((t.wr k).isSome && !left (.string k)) = true then t.wr k else s.ver k m, nv := nv, nm := nm }

theorem comm_start (s : XS) (t : XT) (left : Value → Bool) (h : ∀ k, left (.string k) = (t.wr k).isSome) : comm s t left s.nv s.nm = { s with now := s.now + 1 } := by
  have : ∀ k, ((t.wr k).isSome && !left (.string k)) = false := fun k => by rw [h k]; cases (t.wr k).isSome <;> rfl
  simp [comm, this]

theorem comm_step (s : XS) (t : XT) (left left' : Value → Bool) (nv nm nv' nm' : Nat) (k : ByteArray) (v : ByteArray × Bool) (hk : t.wr k = some v) (hl : left (.string k) = true) (hl1 : left' (.string k) = false) (hl2 : ∀ z, z ≠ .string k → left' z = left z) :
    { comm s t left nv nm with mom := updS (comm s t left nv nm).mom k ((comm s t left nv nm).mom k ++ [s.now + 1]), ver := updP (comm s t left nv nm).ver k (s.now + 1) (some v), nv := nv', nm := nm' } = comm s t left' nv' nm' := by
  have hne : ∀ a : ByteArray, a ≠ k → Value.string a ≠ Value.string k := fun a ha e => ha (by injection e)
  simp only [comm, XS.mk.injEq, true_and, and_true]
  refine ⟨?_, ?_⟩
  · funext a
    by_cases e : a = k
    · subst e; simp [updS, hk, hl, hl1]
    · simp [updS, e, hl2 _ (hne a e)]
  · funext a m
    by_cases e : a = k
    · subst e
      by_cases em : m = s.now + 1
      · subst em; simp [updP, hk, hl1]
      · simp [updP, em]
    · simp [updP, e, hl2 _ (hne a e)]

section
variable {own own' : Nat → Lab} {c : Nat} {w w' : World} {p : Nat} {s : XS} {mo ph mv mm : Nat} {pt mw : Int → Nat} {sl : ByteArray → Value}

theorem XR.tick (h : XR own c w p s mo ph mv mm pt mw sl) (n : Int) : XR own c (w.setCell ⟨p, 2, none⟩ (.int .i64 n)) p { s with now := n } mo ph mv mm pt mw sl := by
  have hb : ∀ b, b ≠ p → (w.setCell ⟨p, 2, none⟩ (.int .i64 n)).heap[b]? = w.heap[b]? := fun b hb => Below.heap_setCell w _ _ b hb
  refine ⟨h.ownP, h.ownO, h.ownH, h.ownV, h.ownM, ?_, ?_, ?_, h.ownT, ?_, ?_, ?_, ?_, h.ownR, fun k hk => ?_, h.log.frame (fun b _ _ hk => hb b (lab_k h.ownP hk (by omega))) (fun _ _ _ _ => rfl), h.bks.frame (fun b _ _ hk => hb b (lab_u h.ownP hk (by omega))) (fun _ _ _ _ => rfl)⟩
  · rw [heap_setCell_at h.store]; rfl
  · exact (hb ph (lab_ne (own := own) (by rw [h.ownH, h.ownP]; simp))).trans h.hist
  · exact h.opn.of_block (hb mo (lab_ne (own := own) (by rw [h.ownO, h.ownP]; simp)))
  · intro n t e
    exact (hb _ (lab_ne (own := own) (by rw [(h.ownT n t e).1, h.ownP]; simp))).trans (h.tx n t e)
  · intro n t e
    exact (h.wr n t e).of_block (hb _ (lab_ne (own := own) (by rw [(h.ownT n t e).2, h.ownP]; simp)))
  · exact h.vers.of_block (hb mv (lab_ne (own := own) (by rw [h.ownV, h.ownP]; simp)))
  · exact h.moms.of_block (hb mm (lab_ne (own := own) (by rw [h.ownM, h.ownP]; simp)))
  · have h0 := h.row k hk
    refine ⟨h0.1, ?_⟩
    rcases h0.2 with h1 | ⟨g, cap, cur, e, hg0, hg, r⟩
    · exact Or.inl h1
    · exact Or.inr ⟨g, cap, cur, e, hg0, (hb g (lab_ne (own := own) (by rw [h.ownR k hk g (by rw [e]; rfl), h.ownP]; simp))).trans hg, r⟩

theorem XR.setHor (h : XR own c w p s mo ph mv mm pt mw sl) (n : Int) : XR own c (w.setCell ⟨p, 1, none⟩ (.int .i64 n)) p { s with hor := n } mo ph mv mm pt mw sl := by
  have hb : ∀ b, b ≠ p → (w.setCell ⟨p, 1, none⟩ (.int .i64 n)).heap[b]? = w.heap[b]? := fun b hb => Below.heap_setCell w _ _ b hb
  refine ⟨h.ownP, h.ownO, h.ownH, h.ownV, h.ownM, ?_, ?_, ?_, h.ownT, ?_, ?_, ?_, ?_, h.ownR, fun k hk => ?_, h.log.frame (fun b _ _ hk => hb b (lab_k h.ownP hk (by omega))) (fun _ _ _ _ => rfl), h.bks.frame (fun b _ _ hk => hb b (lab_u h.ownP hk (by omega))) (fun _ _ _ _ => rfl)⟩
  · rw [heap_setCell_at h.store]; rfl
  · exact (hb ph (lab_ne (own := own) (by rw [h.ownH, h.ownP]; simp))).trans h.hist
  · exact h.opn.of_block (hb mo (lab_ne (own := own) (by rw [h.ownO, h.ownP]; simp)))
  · intro n t e
    exact (hb _ (lab_ne (own := own) (by rw [(h.ownT n t e).1, h.ownP]; simp))).trans (h.tx n t e)
  · intro n t e
    exact (h.wr n t e).of_block (hb _ (lab_ne (own := own) (by rw [(h.ownT n t e).2, h.ownP]; simp)))
  · exact h.vers.of_block (hb mv (lab_ne (own := own) (by rw [h.ownV, h.ownP]; simp)))
  · exact h.moms.of_block (hb mm (lab_ne (own := own) (by rw [h.ownM, h.ownP]; simp)))
  · have h0 := h.row k hk
    refine ⟨h0.1, ?_⟩
    rcases h0.2 with h1 | ⟨g, cap, cur, e, hg0, hg, r⟩
    · exact Or.inl h1
    · exact Or.inr ⟨g, cap, cur, e, hg0, (hb g (lab_ne (own := own) (by rw [h.ownR k hk g (by rw [e]; rfl), h.ownP]; simp))).trans hg, r⟩

variable {R : Ending → World → Prop}

set_option maxRecDepth 20000 in
set_option maxHeartbeats 400000 in
theorem commit_none (p mo n : Nat) (f : Value → Option Value) (tx : Int) (w : World) (c2 : w.cell? ⟨p, 7, none⟩ = some (.map (some mo))) (hown : fmap w Tryz.prog 3 mo n f) (hwx : (Lit.int .i64 tx).wf = true) (hf : f (.int .i64 tx) = none)
    (hR : R (.returned (.tuple #[.int .i64 0, .int .i64 2])) w) :
    Calls Tryz.prog 36 #[.pointer (some ⟨p, 0, none⟩), .int .i64 tx] w R := by
  have hkey : Hid _ := keyOf_int_mk Tryz.underlying3 hwx
  go_enter Tryz.func36, Tryz.ntmps36
  go_wp2_with (first
    | (at_lookup; refine wpL_lookup_ok _ rfl _ _ 99 rfl 3 129 kInt Tryz.underlying99 (zTxP _) mo n f rfl hown (.int .i64 tx) _ rfl hkey.out _ hf ?_)
    | go_in)
  exact hR

/-- What is gone of the open ones. -/
theorem gone_opn (s : XS) (tx : Int) (pt : Int → Nat) : IsDel (encI fun n => (s.txs n).map fun _ => Value.pointer (some ⟨pt n, 0, none⟩)) (.int .i64 tx) (encI fun n => ((updI s.txs tx none) n).map fun _ => Value.pointer (some ⟨pt n, 0, none⟩)) := by
  rw [map_updI]; exact del_encI _ _

theorem sub_upd {txs : Int → Option XT} {tx : Int} : ∀ n t, (updI txs tx none) n = some t → txs n = some t := fun n t e => by
  by_cases en : n = tx
  · subst en; rw [updI_same] at e; cases e
  · rw [updI_other _ en] at e; exact e

set_option maxRecDepth 20000 in
set_option maxHeartbeats 400000 in
theorem x_commit_empty (h : XR own c w p s mo ph mv mm pt mw sl) (tx : Int) (hwx : (Lit.int .i64 tx).wf = true) (t : XT) (e : s.txs tx = some t) (hnw : t.nw = 0)
    (hR : ∀ w', Kp (fun b => (own b).c = c) w w' → XR own c w' p { s with txs := updI s.txs tx none, nopen := s.nopen - 1 } mo ph mv mm pt mw sl → R (.returned (.tuple #[.int .i64 t.sees, .int .i64 0])) w') :
    Calls Tryz.prog 36 #[.pointer (some ⟨p, 0, none⟩), .int .i64 tx] w R := by
  have hkey : Hid _ := keyOf_int_mk Tryz.underlying3 hwx
  have c2 : w.cell? ⟨p, 7, none⟩ = some (.map (some mo)) := cell_of h.store 7
  have d0 : w.cell? ⟨pt tx, 0, none⟩ = some (.int .i64 t.sees) := cell_of (h.tx tx t e) 0
  have d1 : w.cell? ⟨pt tx, 1, none⟩ = some (.map (some (mw tx))) := cell_of (h.tx tx t e) 1
  have hw := h.wr tx t e
  rw [hnw] at hw
  have hf : (encI fun n => (s.txs n).map fun _ => Value.pointer (some ⟨pt n, 0, none⟩)) (.int .i64 tx) = some (.pointer (some ⟨pt tx, 0, none⟩)) := by rw [encI_at, e]; rfl
  have H : Hid (XR own c w p s mo ph mv mm pt mw sl) := h
  have hopn := h.opn
  have nT : pt tx ≠ mo := lab_ne (own := own) (by rw [(h.ownT tx t e).1, h.ownO]; simp)
  have HR : Hid _ := hR
  have hg : Hid _ := gone_opn s tx pt
  clear h hR
  go_enter Tryz.func36, Tryz.ntmps36
  go_wp2_with (first
    | (at_lookup; refine wpL_lookup_ok _ rfl _ _ 99 rfl 3 129 kInt Tryz.underlying99 (zTxP _) mo s.nopen _ rfl hopn (.int .i64 tx) _ rfl hkey.out _ hf ?_)
    | (at_len; refine wpL_len _ rfl _ 130 rfl 9 138 Tryz.underlying130 (mw tx) 0 _ rfl hw ?_)
    | (at_delete; refine wpL_delete _ rfl _ _ 99 3 rfl 129 kInt Tryz.underlying99 mo s.nopen _ rfl hopn (.int .i64 tx) _ rfl hkey.out hg.out ?_; intro w1 hown1 hturn1; have d0' : w1.cell? ⟨pt tx, 0, none⟩ = some (.int .i64 t.sees) := (World.cell?_of_block (w := w) (mapTurned_block hturn1 _ nT)).trans d0)
    | go_in)
  rw [hf] at hown1
  exact HR.out w1 (Kp.of_turned hturn1 (by rw [H.out.ownO])) (H.out.reopen (fun b hb => mapTurned_block hturn1 b hb) _ _ hown1 sub_upd)

end

end Go.Proofs.YthbdpfccfcceiaaGreatDoor

namespace Go.Proofs.YthbdpfccfcceiaaGreatDoor
open Go.RowKit Go.Maps

def valAt (s : XS) (k : ByteArray) (t : Int) : ByteArray × Bool :=
  match ((s.mom k).filter (fun m => decide (m ≤ t))).getLast? with
  | none => (eb, false)
  | some m => match s.ver k m with | some v => (v.1, !v.2) | none => (eb, true)

theorem filter_take : ∀ (l : List Int) (t : Int), l.Pairwise (· < ·) → l.filter (fun m => decide (m ≤ t)) = l.take (l.countP (fun m => decide (m ≤ t)))
  | [], _, _ => rfl
  | x :: r, t, h => by
    obtain ⟨h1, h2⟩ := List.pairwise_cons.1 h
    by_cases hx : x ≤ t
    · rw [List.filter_cons_of_pos (by simpa using hx), List.countP_cons_of_pos (by simpa using hx), List.take_succ_cons, filter_take r t h2]
    · have hr : ∀ y ∈ r, ¬ y ≤ t := fun y hy => by have := h1 y hy; omega
      have e1 : r.filter (fun m => decide (m ≤ t)) = [] := by
        rw [List.filter_eq_nil_iff]; intro y hy; simpa using hr y hy
      have e2 : r.countP (fun m => decide (m ≤ t)) = 0 := by
        rw [List.countP_eq_zero]; intro y hy; simpa using hr y hy
      rw [List.filter_cons_of_neg (by simpa using hx), List.countP_cons_of_neg (by simpa using hx), e1, e2]; rfl

section
variable {own own' : Nat → Lab} {c : Nat} {w w' : World} {p : Nat} {s : XS} {mo ph mv mm : Nat} {pt mw : Int → Nat} {sl : ByteArray → Value}
variable {R : Ending → World → Prop}

theorem x_value (h : XR own c w p s mo ph mv mm pt mw sl) (key : ByteArray) (t : Int) (hlen : key.size ≤ 8) (hl : (s.mom key).length < 1000000) (hs : (s.mom key).Pairwise (· < ·)) (hw : ∀ m ∈ s.mom key, (Lit.int .i64 m).wf = true ∧ (s.ver key m).isSome = true)
    (hR : ∀ w', Kp (fun _ => False) w w' → R (.returned (.tuple #[.string (valAt s key t).1, .bool (valAt s key t).2])) w') :
    Calls Tryz.prog 91 #[.pointer (some ⟨ph, 0, none⟩), .string key, .int .i64 t] w R := by
  have c0 : w.cell? ⟨ph, 0, none⟩ = some (.map (some mv)) := cell_of h.hist 0
  have c1 : w.cell? ⟨ph, 1, none⟩ = some (.map (some mm)) := cell_of h.hist 1
  by_cases hm : s.mom key = []
  · have hv : valAt s key t = (eb, false) := by simp [valAt, hm]
    rw [hv] at hR
    exact value_empty ph mm s.nm _ key t w c1 h.moms hlen none 0 (by rw [encS_at, if_pos hm]; rfl) (hR w (Kp.refl _ _))
  · obtain ⟨g, cap, hv, hc⟩ := ownsRow_cells (h.row key hm) hm
    have hf : ((encS fun k => if s.mom k = [] then none else some (sl k)) (.string key)).getD (.slice none 0 0) = .slice (some ⟨g, 0, none⟩) (s.mom key).length cap := by rw [encS_at, if_neg hm, hv]; rfl
    have hft := filter_take (s.mom key) t hs
    by_cases h0 : (s.mom key).countP (fun m => decide (m ≤ t)) = 0
    · have hval : valAt s key t = (eb, false) := by simp [valAt, hft, h0]
      rw [hval] at hR
      exact value_none ph mm s.nm _ key t w c1 h.moms hlen g cap (s.mom key) hf hl hc hs h0 (fun q => hR _ (Kp.drewN _ _ _))
    · obtain ⟨idx, hidx⟩ : ∃ idx, (s.mom key).countP (fun m => decide (m ≤ t)) = idx + 1 := ⟨_, (Nat.succ_pred_eq_of_ne_zero h0).symm⟩
      have hle : idx + 1 ≤ (s.mom key).length := by rw [← hidx]; exact List.countP_le_length
      have hmem : (s.mom key).getD idx 0 ∈ s.mom key := by
        simp only [List.getD, List.getElem?_eq_getElem (show idx < (s.mom key).length by omega), Option.getD_some]
        exact List.getElem_mem _
      obtain ⟨hwf, hsome⟩ := hw _ hmem
      obtain ⟨v, hv'⟩ := Option.isSome_iff_exists.1 hsome
      have hlast : ((s.mom key).filter (fun m => decide (m ≤ t))).getLast? = some ((s.mom key).getD idx 0) := by
        rw [hft, hidx, List.getLast?_eq_getElem?, List.length_take, Nat.min_eq_left hle, Nat.add_sub_cancel, List.getElem?_take]
        simp [List.getD, List.getElem?_eq_getElem (show idx < (s.mom key).length by omega)]
      have hval : valAt s key t = (v.1, !v.2) := by simp only [valAt, hlast, hv']
      rw [hval] at hR
      exact value_some ph mv mm s.nm s.nv _ _ key t w c0 c1 h.moms h.vers hlen g cap (s.mom key) hf hl hc hs idx hidx _ rfl hwf v.1 v.2 (by rw [encP_at, hv']; rfl) hR

def seesX (s : XS) (t : XT) (k : ByteArray) : ByteArray × Bool := match t.wr k with | some v => (v.1, !v.2) | none => valAt s k t.sees

/-- What is asked of a key's moments. -/
structure MomOk (s : XS) (k : ByteArray) : Prop where
  len : (s.mom k).length < 1000000
  up : (s.mom k).Pairwise (· < ·)
  ver : ∀ m ∈ s.mom k, (Lit.int .i64 m).wf = true ∧ (s.ver k m).isSome = true

set_option maxRecDepth 20000 in
set_option maxHeartbeats 1000000 in
theorem x_look (h : XR own c w p s mo ph mv mm pt mw sl) (tx : Int) (t : XT) (e : s.txs tx = some t) (key : ByteArray) (hlen : key.size ≤ 8) (hm : MomOk s key)
    (hR : ∀ w', Kp (fun _ => False) w w' → R (.returned (.tuple #[.string (seesX s t key).1, .bool (seesX s t key).2])) w') :
    Calls Tryz.prog 155 #[.pointer (some ⟨p, 0, none⟩), .pointer (some ⟨pt tx, 0, none⟩), .string key] w R := by
  have hkey : Hid _ := WideMaps.keyOf_string_mk Tryz.underlying9 (show key.size ≤ maxLen by unfold maxLen; omega)
  have d0 : w.cell? ⟨pt tx, 0, none⟩ = some (.int .i64 t.sees) := cell_of (h.tx tx t e) 0
  have d1 : w.cell? ⟨pt tx, 1, none⟩ = some (.map (some (mw tx))) := cell_of (h.tx tx t e) 1
  have d3 : w.cell? ⟨p, 0, none⟩ = some (.pointer (some ⟨ph, 0, none⟩)) := cell_of h.store 0
  have hw := h.wr tx t e
  cases ek : t.wr key with
  | some v =>
    have hv : seesX s t key = (v.1, !v.2) := by simp [seesX, ek]
    rw [hv] at hR
    have HR : Hid _ := hR
    have hf : (encS fun k => (t.wr k).map encVer) (.string key) = some (.agg #[.string v.1, .bool v.2]) := by rw [encS_at, ek]; rfl
    obtain ⟨x, y⟩ := v
    clear hR hv h
    go_enter Tryz.func155, Tryz.ntmps155
    go_wp2_with (first
      | (at_lookup; refine wpL_lookup_ok _ rfl _ _ 130 rfl 9 138 kStr Tryz.underlying130 (zVer _) (mw tx) t.nw _ rfl hw (.string key) _ rfl hkey.out _ hf ?_)
      | go_in)
    go_region
    all_goals
      try go_wp2_with fail
      exact HR.out _ ((Kp.alloc _ _ _).trans (Kp.drew (fun _ => False) _) (fun _ _ h => h))
  | none =>
    have hv : seesX s t key = valAt s key t.sees := by simp [seesX, ek]
    rw [hv] at hR
    have HR : Hid _ := hR
    have hf : (encS fun k => (t.wr k).map encVer) (.string key) = none := by rw [encS_at, ek]; rfl
    have H : Hid (XR own c w p s mo ph mv mm pt mw sl) := h
    clear hR hv h
    go_enter Tryz.func155, Tryz.ntmps155
    go_wp2_with (first
      | (at_lookup; refine wpL_lookup_ok _ rfl _ _ 130 rfl 9 138 kStr Tryz.underlying130 (zVer _) (mw tx) t.nw _ rfl hw (.string key) _ rfl hkey.out _ hf ?_)
      | go_in)
    have hkw : Kp (fun _ => False) w (w.alloc (Obj.cells #[Value.string ByteArray.empty, Value.bool false] 138)) := Kp.alloc _ _ _
    generalize w.alloc (Obj.cells #[Value.string ByteArray.empty, Value.bool false] 138) = W at hkw ⊢
    have hx := H.out.kept hkw
    have a0 : W.cell? ⟨pt tx, 0, none⟩ = some (.int .i64 t.sees) := cell_of (hx.tx tx t e) 0
    have a3 : W.cell? ⟨p, 0, none⟩ = some (.pointer (some ⟨ph, 0, none⟩)) := cell_of hx.store 0
    have hxd : Hid (XR own c W.drew p s mo ph mv mm pt mw sl) := hx.kept (Kp.drew _ _)
    have hkd : Hid (Kp (fun _ => False) w W.drew) := hkw.trans (Kp.drew _ _) (fun _ _ h => h)
    clear hx hkw hw hf d0 d1 d3
    go_region_with (go_at_call 91; refine x_value hxd.out key t.sees hlen hm.len hm.up hm.ver (fun w1 hk1 => ?_))
    all_goals
      go_wp2_with fail
      go_ret2
      exact HR.out _ (hkd.out.trans hk1 (fun _ _ h => h))

end

end Go.Proofs.YthbdpfccfcceiaaGreatDoor

namespace Go.Proofs.YthbdpfccfcceiaaGreatDoor
open Go.RowKit Go.Maps

section
variable {own own' : Nat → Lab} {c : Nat} {w w' : World} {p : Nat} {s : XS} {mo ph mv mm : Nat} {pt mw : Int → Nat} {sl : ByteArray → Value}
variable {R : Ending → World → Prop}

set_option maxRecDepth 20000 in
set_option maxHeartbeats 400000 in
theorem x_get (h : XR own c w p s mo ph mv mm pt mw sl) (tx : Int) (hwx : (Lit.int .i64 tx).wf = true) (key : ByteArray) (hkl : key.size ≤ maxLen) (hm : ∀ k, MomOk s k)
    (h0 : s.txs tx = none → R (.returned (.tuple #[.string eb, .int .i64 2])) w)
    (h1 : ∀ t, s.txs tx = some t → isKey key = false → R (.returned (.tuple #[.string eb, .int .i64 1])) w)
    (h2 : ∀ t, s.txs tx = some t → isKey key = true → (seesX s t key).2 = false → ∀ w', Kp (fun _ => False) w w' → R (.returned (.tuple #[.string eb, .int .i64 5])) w')
    (h3 : ∀ t, s.txs tx = some t → isKey key = true → (seesX s t key).2 = true → ∀ w', Kp (fun _ => False) w w' → R (.returned (.tuple #[.string (seesX s t key).1, .int .i64 0])) w') :
    Calls Tryz.prog 102 #[.pointer (some ⟨p, 0, none⟩), .int .i64 tx, .string key] w R := by
  have hkey : Hid _ := keyOf_int_mk Tryz.underlying3 hwx
  have c2 : w.cell? ⟨p, 7, none⟩ = some (.map (some mo)) := cell_of h.store 7
  have hopn := h.opn
  have HK : Hid _ := hkl
  have H : Hid (XR own c w p s mo ph mv mm pt mw sl) := h
  cases e : s.txs tx with
  | none =>
    have hf : (encI fun n => (s.txs n).map fun _ => Value.pointer (some ⟨pt n, 0, none⟩)) (.int .i64 tx) = none := by rw [encI_at, e]; rfl
    have HR := h0 e
    clear h h0 h1 h2 h3 hkl
    go_enter Tryz.func102, Tryz.ntmps102
    go_wp2_with (first
      | (at_lookup; refine wpL_lookup_ok _ rfl _ _ 99 rfl 3 129 kInt Tryz.underlying99 (zTxP _) mo s.nopen _ rfl hopn (.int .i64 tx) _ rfl hkey.out _ hf ?_)
      | go_in)
    exact HR
  | some t =>
    have hf : (encI fun n => (s.txs n).map fun _ => Value.pointer (some ⟨pt n, 0, none⟩)) (.int .i64 tx) = some (.pointer (some ⟨pt tx, 0, none⟩)) := by rw [encI_at, e]; rfl
    cases hb : isKey key with
    | false =>
      have HR := h1 t e hb
      clear h h0 h1 h2 h3 hkl
      go_enter Tryz.func102, Tryz.ntmps102
      go_wp2_with (first
        | (at_lookup; refine wpL_lookup_ok _ rfl _ _ 99 rfl 3 129 kInt Tryz.underlying99 (zTxP _) mo s.nopen _ rfl hopn (.int .i64 tx) _ rfl hkey.out _ hf ?_)
        | (go_at_call 67; refine (isKey_any _ _ HK.out).mono ?_; rintro e w' ⟨rfl, rfl⟩)
        | go_in)
      exact HR
    | true =>
      cases hs : (seesX s t key).2 with
      | false =>
        have HR : Hid _ := h2 t e hb hs
        clear h h0 h1 h2 h3 hkl
        go_enter Tryz.func102, Tryz.ntmps102
        go_wp2_with (first
          | (at_lookup; refine wpL_lookup_ok _ rfl _ _ 99 rfl 3 129 kInt Tryz.underlying99 (zTxP _) mo s.nopen _ rfl hopn (.int .i64 tx) _ rfl hkey.out _ hf ?_)
          | (go_at_call 67; refine (isKey_any _ _ HK.out).mono ?_; rintro e w' ⟨rfl, rfl⟩)
          | (go_at_call 155; refine x_look H.out tx t e key (isKey_le key hb) (hm key) (fun w1 hk1 => ?_))
          | go_in)
        exact HR.out w1 hk1
      | true =>
        have HR : Hid _ := h3 t e hb hs
        clear h h0 h1 h2 h3 hkl
        go_enter Tryz.func102, Tryz.ntmps102
        go_wp2_with (first
          | (at_lookup; refine wpL_lookup_ok _ rfl _ _ 99 rfl 3 129 kInt Tryz.underlying99 (zTxP _) mo s.nopen _ rfl hopn (.int .i64 tx) _ rfl hkey.out _ hf ?_)
          | (go_at_call 67; refine (isKey_any _ _ HK.out).mono ?_; rintro e w' ⟨rfl, rfl⟩)
          | (go_at_call 155; refine x_look H.out tx t e key (isKey_le key hb) (hm key) (fun w1 hk1 => ?_))
          | go_in)
        exact HR.out w1 hk1

theorem x_now (h : XR own c w p s mo ph mv mm pt mw sl) (h0 : R (.returned (.int .i64 s.now)) w) :
    Calls Tryz.prog 15 #[.pointer (some ⟨p, 0, none⟩)] w R := by
  have c0 : w.cell? ⟨p, 2, none⟩ = some (.int .i64 s.now) := cell_of h.store 2
  clear h
  go_enter Tryz.func15, Tryz.ntmps15
  go_wp2
  exact h0

def newXS (mu : Nat) : XS := { now := 0, hor := 0, begun := 0, txs := fun _ => none, nopen := 0, mom := fun _ => [], ver := fun _ _ => none, nv := 0, nm := 0, log := ⟨.slice none 0 0, [], [], 0⟩, bk := ⟨mu, 0, fun _ => none, 0⟩ }

/-- The cells of a store that New gave. -/
def newCells (mo ph mu : Nat) : Array Value := #[.pointer (some ⟨ph, 0, none⟩), .int .i64 0, .int .i64 0, .slice none 0 0, .int .i64 0, .int .i64 0, .int .i64 0, .map (some mo), .int .i64 0, .map (some mu)]

set_option maxRecDepth 20000 in
set_option maxHeartbeats 400000 in
theorem new_any (w : World)
    (hR : R (.returned (.pointer (some ⟨w.heap.size + 5, 0, none⟩))) ((((((w.alloc (.map #[] 0)).alloc (.map #[] 0)).alloc (.cells #[.map (some w.heap.size), .map (some (w.heap.size + 1))] 209)).alloc (.map #[] 0)).alloc (.map #[] 0)).alloc (.cells (newCells (w.heap.size + 3) (w.heap.size + 2) (w.heap.size + 4)) 102))) :
    Calls Tryz.prog 33 #[] w R := by
  have hmm := @run_makeMap Tryz.prog
  go_enter Tryz.func33, Tryz.ntmps33
  go_wp2
  exact hR

end

end Go.Proofs.YthbdpfccfcceiaaGreatDoor

namespace Go.Proofs.YthbdpfccfcceiaaGreatDoor
open Go.RowKit Go.Maps Go.Sort

def ofL (l : List UInt8) : ByteArray := ⟨l.toArray⟩
theorem ofL_data (a : ByteArray) : ofL a.data.toList = a := by simp [ofL]
theorem data_ofL (l : List UInt8) : (ofL l).data.toList = l := by simp [ofL]

/-- The order of texts. -/
def blt (a b : ByteArray) : Prop := a.data.toList < b.data.toList

theorem blt_irrefl (a : ByteArray) : ¬ blt a a := List.lt_irrefl _
theorem blt_trans {a b c : ByteArray} (h : blt a b) (h' : blt b c) : blt a c := List.lt_trans h h'
theorem blt_total {a b : ByteArray} (h : a ≠ b) : blt a b ∨ blt b a := by
  by_cases h1 : blt a b
  · exact Or.inl h1
  · right
    have h2 : b.data.toList ≤ a.data.toList := List.not_lt.1 h1
    rcases List.le_iff_lt_or_eq.1 h2 with h3 | h3
    · exact h3
    · exact absurd (WideShapes.bytes_inj h3).symm h

section
variable {w : World} {base : Nat} {v : Value}

theorem row_form {e n : Nat} {xs : List Value} (h : w.ownsRow base e 1 v n xs) : ∃ a cap, v = .slice a n cap ∧ n ≤ cap ∨ (v = .slice none 0 0 ∧ n = 0) := by
  rcases h.2 with ⟨rfl, rfl⟩ | ⟨g, cap, cur, rfl, _, _, hn, _⟩
  · exact ⟨none, 0, Or.inr ⟨rfl, rfl⟩⟩
  · exact ⟨_, cap, Or.inl ⟨rfl, hn⟩⟩

theorem putCells_take (cur : Array Value) (d : List (List UInt8)) (n : Nat) (hn : d.length = n) (hc : n ≤ cur.size) : (putCells encStr 0 d.toArray cur).toList.take n = d.map encStr := by
  apply List.ext_getElem?
  intro i
  rw [List.getElem?_take]
  by_cases hi : i < n
  · rw [if_pos hi, Array.getElem?_toList]
    simp only [putCells, Array.getElem?_mapIdx]
    rw [Array.getElem?_eq_getElem (by omega), List.getElem?_map, List.getElem?_eq_getElem (by omega)]
    simp [hn, hi]
  · rw [if_neg hi, List.getElem?_map, List.getElem?_eq_none (by omega)]; rfl

theorem heap_putRow {W : World} {g : Nat} {cur : Array Value} {e : TypeId} {fz : Nat × Nat} (h : W.heap[g]? = some (.cells cur e fz)) (d : Array (List UInt8)) : (putRow encStr W g 0 d).heap[g]? = some (.cells (putCells encStr 0 d cur) e fz) := by
  simp [putRow, mapBlock, Array.getElem?_modify, h, onCells]

theorem heap_putRow_other {W : World} {g b : Nat} (h : b ≠ g) (d : Array (List UInt8)) : (putRow encStr W g 0 d).heap[b]? = W.heap[b]? := by
  simp [putRow, mapBlock, Array.getElem?_modify, Ne.symm h]

theorem heap_grow {W : World} (os : Array Obj) {b : Nat} (h : b < W.heap.size) : (grow W os).heap[b]? = W.heap[b]? := by
  simp [grow, Array.getElem?_append, h]

theorem kp_sorted (w : World) (n g : Nat) (d : Array (List UInt8)) (os : Array Obj) : Kp (fun b => b = g) w (grow (putRow encStr (Sort.ahead w n) g 0 d) os) := by
  refine ⟨rfl, rfl, rfl, by simp [grow, putRow, mapBlock, Sort.ahead], fun b hb hne => ?_⟩
  rw [heap_grow os (by simpa [putRow, mapBlock, Sort.ahead] using hb), heap_putRow_other hne]; rfl

theorem holds_row {ks : List ByteArray} {g cap : Nat} {cur : Array Value} {e : TypeId} (hg : w.heap[g]? = some (.cells cur e (0, 0))) (_hcs : cur.size = cap) (_hn : ks.length ≤ cap) (ht : cur.toList.take ks.length = ks.map Value.string) : Holds encStr w g 0 (ks.map (·.data.toList)).toArray := by
  intro j hj
  simp at hj
  refine ⟨?_, by simp [World.frozen?, hg]⟩
  rw [Nat.zero_add, cell_of hg, ← Array.getElem?_toList]
  have h1 : (cur.toList.take ks.length)[j]? = (ks.map Value.string)[j]? := by rw [ht]
  rw [List.getElem?_take, if_pos hj, List.getElem?_map, List.getElem?_eq_getElem hj] at h1
  rw [h1]
  simp [encStr, hj]

theorem row_after {ks ks' : List ByteArray} {g cap : Nat} {cur : Array Value} {W : World} (hg : W.heap[g]? = some (.cells cur 9 (0, 0))) (hb : base ≤ g) (hcs : cur.size = cap) (hm : cap ≤ maxLen) (hn : ks.length ≤ cap) (hl : ks'.length ≤ ks.length)
    {ds : List (List UInt8)} (hd : ds.length = ks.length) (hks : ds.take ks'.length = ks'.map (·.data.toList)) (hlt : g < W.heap.size) (os : Array Obj) :
    (grow (putRow encStr W g 0 ds.toArray) os).ownsRow base 9 1 (.slice (some ⟨g, 0, none⟩) ks'.length cap) ks'.length (ks'.map Value.string) := by
  refine ⟨by simp, Or.inr ⟨g, cap, putCells encStr 0 ds.toArray cur, rfl, hb, ?_, by omega, hm, by simp [putCells, hcs], ?_⟩⟩
  · rw [heap_grow os (by simpa [putRow, mapBlock] using hlt), heap_putRow hg]
  · have h1 := putCells_take cur ds ks.length hd (by omega)
    have h2 : (putCells encStr 0 ds.toArray cur).toList.take ks'.length = (ds.map encStr).take ks'.length := by
      rw [← h1, List.take_take, Nat.min_eq_left hl]
    rw [Nat.mul_one, h2, ← List.map_take, hks, List.map_map]
    apply List.map_congr_left
    intro a _
    simp [encStr]

theorem sort_row {ks : List ByteArray} (h : w.ownsRow base 9 1 v ks.length (ks.map Value.string)) (hl : ks.length < 1000000) :
    Calls Tryz.prog 133 #[v] w fun e w' => e = .returned (.tuple #[]) ∧ ∃ ks' : List ByteArray, ks'.Perm ks ∧ ks'.Pairwise (fun a b => a.data.toList ≤ b.data.toList) ∧ w'.ownsRow base 9 1 v ks'.length (ks'.map Value.string) ∧ Kp (fun b => v.ownBlock = some b) w w' := by
  rcases h.2 with ⟨rfl, h0⟩ | ⟨g, cap, cur, rfl, hb, hg, hn, hm, hcs, ht⟩
  · refine (Tryz.slices_Sort_string_none none 0 w).mono ?_
    rintro e w' ⟨rfl, rfl⟩
    exact ⟨rfl, ks, List.Perm.refl _, by rw [List.eq_nil_of_length_eq_zero h0]; exact List.Pairwise.nil, h, Kp.refl _ _⟩
  · rw [Nat.mul_one] at ht hcs
    have hH := holds_row (w := w) (ks := ks) hg hcs hn ht
    have hc := Tryz.slices_Sort_string g 0 cap (ks.map (·.data.toList)) w hH (block_lt hg) (by simpa using (by omega : ks.length < 4611686018427387904))
    rw [List.length_map] at hc
    refine hc.mono ?_
    rintro e w' ⟨rfl, n, os, rfl⟩
    have hp : ((ks.map (·.data.toList)).mergeSort fun x y => decide (x ≤ y)).Perm (ks.map (·.data.toList)) := List.mergeSort_perm _ _
    have hlen : ((ks.map (·.data.toList)).mergeSort fun x y => decide (x ≤ y)).length = ks.length := by rw [hp.length_eq]; simp
    refine ⟨rfl, ((ks.map (·.data.toList)).mergeSort fun x y => decide (x ≤ y)).map ofL, ?_, ?_, ?_, ?_⟩
    · have := hp.map ofL
      rw [List.map_map] at this
      simpa [Function.comp_def, ofL_data] using this
    · rw [List.pairwise_map]
      have hs := List.pairwise_mergeSort (le := fun x y : List UInt8 => decide (x ≤ y)) (fun a b c h1 h2 => by simp at h1 h2 ⊢; exact List.le_trans h1 h2) (fun a b => by simp; exact List.le_total a b) (ks.map (·.data.toList))
      exact hs.imp (fun h => by rw [data_ofL, data_ofL]; simpa using h)
    · have := row_after (W := Sort.ahead w n) (ks := ks) (ks' := ((ks.map (·.data.toList)).mergeSort fun x y => decide (x ≤ y)).map ofL) (ds := (ks.map (·.data.toList)).mergeSort fun x y => decide (x ≤ y)) (base := base) hg hb hcs hm hn (by simp) hlen (by rw [List.length_map, List.take_of_length_le (by simp), List.map_map]; simp [Function.comp_def, data_ofL]) (block_lt hg) os
      simpa using this
    · exact (kp_sorted w n g _ os).mono (fun b _ hb => by simp [Value.ownBlock, hb])

end

theorem frng.iter {w : World} {P : Program} {k : TypeId} {b r n cnt : Nat} {f : Value → Option Value} {left : Value → Bool} (h : frng w P k b r n f left cnt) : ∃ m s e l, w.heap[r]? = some (.mapIter m s e l) := by
  obtain ⟨D, lf, ⟨es, clock, since, seen, c0, _, _, _, _, h5, _⟩, _⟩ := h
  exact ⟨_, _, _, _, h5⟩

theorem encS_inv2 {g : ByteArray → Option (ByteArray × Bool)} {k : ByteArray} {v : Value} (h : encS (fun k => (g k).map encVer) (.string k) = some v) : ∃ x y, g k = some (x, y) ∧ v = .agg #[.string x, .bool y] := by
  rw [encS_at] at h
  cases e : g k with
  | none => rw [e] at h; cases h
  | some q => rw [e] at h; cases h; exact ⟨q.1, q.2, rfl, rfl⟩


end Go.Proofs.YthbdpfccfcceiaaGreatDoor

namespace Go.Proofs.YthbdpfccfcceiaaGreatDoor
open Go.RowKit Go.Maps Go.Sort Go.Lib

theorem comp_spec (d : Array (List UInt8)) (hs : ∀ i j, i ≤ j → j < d.size → d[i]! ≤ d[j]!) : ∀ m, m ≤ d.size → (compactUpTo d m).Pairwise (· < ·) ∧ ∀ x, x ∈ compactUpTo d m ↔ ∃ j, j < m ∧ d[j]! = x := by
  intro m
  induction m with
  | zero => intro _; exact ⟨by simp [compactUpTo], fun x => by simp [compactUpTo]⟩
  | succ m ih =>
    intro hm
    obtain ⟨h1, h2⟩ := ih (by omega)
    rw [compactUpTo_succ]
    by_cases hk : keeps d m = true
    · rw [if_pos hk]
      constructor
      · rw [List.pairwise_append]
        refine ⟨h1, by simp, fun x hx y hy => ?_⟩
        simp at hy; subst hy
        obtain ⟨j, hj, rfl⟩ := (h2 x).1 hx
        have hle := hs j m (by omega) (by omega)
        rcases List.le_iff_lt_or_eq.1 hle with h | h
        · exact h
        · exfalso
          have h3 := hs j (m - 1) (by omega) (by omega)
          have h4 := hs (m - 1) m (by omega) (by omega)
          have h5 : d[m - 1]! = d[m]! := List.le_antisymm h4 (h ▸ h3)
          have : keeps d m = false := keeps_neg (by omega) h5.symm
          rw [this] at hk; cases hk
      · intro x
        rw [List.mem_append, h2, List.mem_singleton]
        constructor
        · rintro (⟨j, hj, rfl⟩ | rfl)
          · exact ⟨j, by omega, rfl⟩
          · exact ⟨m, by omega, rfl⟩
        · rintro ⟨j, hj, rfl⟩
          by_cases e : j = m
          · subst e; exact Or.inr rfl
          · exact Or.inl ⟨j, by omega, rfl⟩
    · rw [if_neg hk, List.append_nil]
      refine ⟨h1, fun x => ?_⟩
      rw [h2]
      constructor
      · rintro ⟨j, hj, rfl⟩; exact ⟨j, by omega, rfl⟩
      · rintro ⟨j, hj, rfl⟩
        by_cases e : j = m
        · subst e
          have hne : ¬ (d[j]! ≠ d[j - 1]!) := fun h => hk (keeps_pos h)
          have hj0 : 0 < j := by
            rcases Nat.eq_zero_or_pos j with h | h
            · subst h; exact absurd (keeps_lt_one d 0 (by omega)) hk
            · exact h
          exact ⟨j - 1, by omega, (Classical.not_not.1 hne).symm⟩
        · exact ⟨j, by omega, rfl⟩

theorem getBang_map (ks : List ByteArray) (j : Nat) (h : j < ks.length) : (ks.map (·.data.toList)).toArray[j]! = (ks[j]).data.toList := by
  rw [getElem!_pos _ j (by simpa using h)]; simp

section
variable {w : World} {base : Nat} {v : Value}

theorem compact_row {ks : List ByteArray} (h : w.ownsRow base 9 1 v ks.length (ks.map Value.string)) (hl : ks.length < 1000000) (hs : ks.Pairwise (fun a b => a.data.toList ≤ b.data.toList)) :
    Calls Tryz.prog 200 #[v] w fun e w' => ∃ v', e = .returned v' ∧ ∃ ks' : List ByteArray, (∀ k, k ∈ ks' ↔ k ∈ ks) ∧ ks'.Pairwise blt ∧ ks'.length ≤ ks.length ∧ w'.ownsRow base 9 1 v' ks'.length (ks'.map Value.string) ∧ v'.ownBlock = v.ownBlock ∧ Kp (fun b => v.ownBlock = some b) w w' := by
  rcases h.2 with ⟨rfl, h0⟩ | ⟨g, cap, cur, rfl, hb, hg, hn, hm, hcs, ht⟩
  · refine (Tryz.slices_Compact_string_empty none 0 w).mono ?_
    rintro e w' ⟨rfl, rfl⟩
    have hk := List.eq_nil_of_length_eq_zero h0
    subst hk
    exact ⟨_, rfl, [], fun k => Iff.rfl, List.Pairwise.nil, Nat.le_refl _, h, rfl, Kp.refl _ _⟩
  · rw [Nat.mul_one] at ht hcs
    have hH := holds_row (w := w) (ks := ks) hg hcs hn ht
    have hc := Tryz.slices_Compact_string g 0 cap (ks.map (·.data.toList)) w hH (by simpa using (by omega : ks.length ≤ 9223372036854775807)) (by simpa using hn)
    rw [List.length_map] at hc
    refine hc.mono ?_
    rintro e w' ⟨rfl, q, rfl⟩
    obtain ⟨p1, p2⟩ := comp_spec (ks.map (·.data.toList)).toArray (fun i j hij hj => by
      simp at hj
      rw [getBang_map ks i (by omega), getBang_map ks j hj]
      by_cases e : i = j
      · subst e; exact List.le_refl _
      · exact (List.pairwise_iff_getElem.1 hs) i j (by omega) hj (by omega)) ks.length (by simp)
    have hcomp : Lib.compact (ks.map (·.data.toList)) = compactUpTo (ks.map (·.data.toList)).toArray ks.length := by simp [Lib.compact]
    have hlen : (Lib.compact (ks.map (·.data.toList))).length ≤ ks.length := by
      rw [hcomp]
      have : (compactUpTo (ks.map (·.data.toList)).toArray ks.length).length ≤ (List.range ks.length).length := by
        unfold compactUpTo; rw [List.length_map]; exact List.length_filter_le _ _
      simpa using this
    refine ⟨_, rfl, (Lib.compact (ks.map (·.data.toList))).map ofL, fun k => ?_, ?_, by simpa using hlen, ?_, rfl, ?_⟩
    · rw [List.mem_map]
      constructor
      · rintro ⟨x, hx, rfl⟩
        rw [hcomp, p2] at hx
        obtain ⟨j, hj, rfl⟩ := hx
        rw [getBang_map ks j hj, ofL_data]; exact List.getElem_mem _
      · intro hk
        obtain ⟨j, hj, rfl⟩ := List.getElem_of_mem hk
        exact ⟨(ks[j]).data.toList, by rw [hcomp, p2]; exact ⟨j, hj, getBang_map ks j hj⟩, ofL_data _⟩
    · rw [List.pairwise_map, hcomp]
      exact p1.imp (fun h => by unfold blt; rw [data_ofL, data_ofL]; exact h)
    · have := row_after (W := Sort.ahead w q) (ks := ks) (ks' := (Lib.compact (ks.map (·.data.toList))).map ofL) (ds := Lib.compact (ks.map (·.data.toList)) ++ List.replicate (ks.length - (Lib.compact (ks.map (·.data.toList))).length) []) (base := base) hg hb hcs hm hn (by simpa using hlen) (by simp; omega)
        (by rw [List.length_map, List.take_left, List.map_map]; simp [Function.comp_def, data_ofL]) (block_lt hg) #[]
      have e0 : ∀ W : World, grow W #[] = W := fun W => by simp [grow]
      rw [e0] at this
      simpa using this
    · have := kp_sorted w q g (Lib.compact (ks.map (fun k : ByteArray => k.data.toList)) ++ List.replicate (ks.length - (Lib.compact (ks.map (fun k : ByteArray => k.data.toList))).length) []).toArray #[]
      have e0 : ∀ W : World, grow W #[] = W := fun W => by simp [grow]
      rw [e0] at this
      exact this.mono (fun b _ hb => by simp [Value.ownBlock, hb])

end

end Go.Proofs.YthbdpfccfcceiaaGreatDoor
