/-
  Put and Delete of a store, told of its plain state.
-/
import Derived.Test.YthbdpfccfcceiaaDoorS2
namespace Go.Proofs.YthbdpfccfcceiaaDoor
open Go.RowKit Go.Maps

def wrote (t : XT) (key : ByteArray) (v : ByteArray × Bool) : Option XT :=
  if (t.wr key).isSome then some { t with wr := updS t.wr key (some v) } else if t.nw < 10 then some { t with wr := updS t.wr key (some v), nw := t.nw + 1 } else none

section
variable {own own' : Nat → Lab} {c : Nat} {w w' : World} {p : Nat} {s : XS} {mo ph mv mm : Nat} {pt mw : Int → Nat} {sl : ByteArray → Value}

theorem XR.rewrite (h : XR own c w p s mo ph mv mm pt mw sl) (tx : Int) (t t' : XT) (e : s.txs tx = some t) (hb : ∀ b, b < w.heap.size → b ≠ mw tx → w'.heap[b]? = w.heap[b]?) (hs : t'.sees = t.sees)
    (hw : fmap w' Tryd.prog 9 (mw tx) t'.nw (encS fun k => (t'.wr k).map encVer)) : XR own c w' p { s with txs := updI s.txs tx (some t') } mo ph mv mm pt mw sl := by
  have lp := block_lt h.store; have lh := block_lt h.hist; have lo := h.opn.lt; have lv := h.vers.lt; have lm := h.moms.lt
  have hl := (h.ownT tx t e).2
  have eo : (fun n => ((updI s.txs tx (some t')) n).map fun _ => Value.pointer (some ⟨pt n, 0, none⟩)) = fun n => (s.txs n).map fun _ => Value.pointer (some ⟨pt n, 0, none⟩) := by
    funext n
    by_cases en : n = tx
    · subst en; simp [updI, e]
    · simp [updI, en]
  refine ⟨h.ownP, h.ownO, h.ownH, h.ownV, h.ownM, ?_, ?_, ?_, ?_, ?_, ?_, ?_, ?_, h.ownR, fun k hk => ?_, h.log.frame (fun b hlt _ hk => hb b hlt (lab_k hl hk (by omega))) (fun _ _ _ _ => rfl), h.bks.frame (fun b hlt _ hk => hb b hlt (lab_u hl hk (by omega))) (fun _ _ _ _ => rfl)⟩
  · exact (hb p lp (lab_ne (own := own) (by rw [h.ownP, hl]; simp))).trans h.store
  · exact (hb ph lh (lab_ne (own := own) (by rw [h.ownH, hl]; simp))).trans h.hist
  · show fmap w' _ _ _ _ (encI fun n => ((updI s.txs tx (some t')) n).map fun _ => Value.pointer (some ⟨pt n, 0, none⟩))
    rw [eo]
    exact h.opn.of_block (hb mo lo (lab_ne (own := own) (by rw [h.ownO, hl]; simp)))
  · intro n t1 e1
    by_cases en : n = tx
    · subst en; exact h.ownT n t e
    · simp only [updI, en, if_false] at e1; exact h.ownT n t1 e1
  · intro n t1 e1
    by_cases en : n = tx
    · subst en
      simp only [updI_same, Option.some.injEq] at e1
      subst e1
      rw [hs]
      exact (hb _ (block_lt (h.tx n t e)) (lab_ne (own := own) (by rw [(h.ownT n t e).1, hl]; simp))).trans (h.tx n t e)
    · simp only [updI, en, if_false] at e1
      exact (hb _ (block_lt (h.tx n t1 e1)) (lab_ne (own := own) (by rw [(h.ownT n t1 e1).1, hl]; simp))).trans (h.tx n t1 e1)
  · intro n t1 e1
    by_cases en : n = tx
    · subst en
      simp only [updI_same, Option.some.injEq] at e1
      subst e1
      exact hw
    · simp only [updI, en, if_false] at e1
      exact (h.wr n t1 e1).of_block (hb _ (h.wr n t1 e1).lt (lab_ne (own := own) (by rw [(h.ownT n t1 e1).2, hl]; simp [en])))
  · exact h.vers.of_block (hb mv lv (lab_ne (own := own) (by rw [h.ownV, hl]; simp)))
  · exact h.moms.of_block (hb mm lm (lab_ne (own := own) (by rw [h.ownM, hl]; simp)))
  · have h0 := h.row k hk
    refine ⟨h0.1, ?_⟩
    rcases h0.2 with h1 | ⟨g, cap, cur, e, hg0, hg, r⟩
    · exact Or.inl h1
    · exact Or.inr ⟨g, cap, cur, e, hg0, (hb g (block_lt hg) (lab_ne (own := own) (by rw [h.ownR k hk g (by rw [e]; rfl), hl]; simp))).trans hg, r⟩

theorem XR.kept (h : XR own c w p s mo ph mv mm pt mw sl) (hk : Kp (fun _ => False) w w') : XR own c w' p s mo ph mv mm pt mw sl :=
  h.frame (fun b hb _ => hk.block b hb (fun e => e)) (fun _ _ _ => rfl)

theorem map_updS (g : ByteArray → Option (ByteArray × Bool)) (k : ByteArray) (v : ByteArray × Bool) : (fun n => ((updS g k (some v)) n).map encVer) = updS (fun n => (g n).map encVer) k (some (encVer v)) := by
  funext n
  by_cases e : n = k
  · subst e; simp [updS]
  · simp [updS, e]

variable {R : Ending → World → Prop}

theorem x_write (h : XR own c w p s mo ph mv mm pt mw sl) (tx : Int) (t : XT) (e : s.txs tx = some t) (key val : ByteArray) (g : Bool) (hk : isKey key = true) (hnw : t.nw ≤ 10)
    (h0 : wrote t key (val, g) = none → ∀ w', Kp (fun _ => False) w w' → R (.returned (.int .i64 3)) w')
    (h1 : ∀ t', wrote t key (val, g) = some t' → ∀ w', Kp (fun b => b = mw tx) w w' → XR own c w' p { s with txs := updI s.txs tx (some t') } mo ph mv mm pt mw sl → R (.returned (.int .i64 0)) w') :
    Calls Tryd.prog 42 #[.pointer (some ⟨pt tx, 0, none⟩), .string key, .agg #[.string val, .bool g]] w R := by
  have hlen := isKey_le key hk
  have c1 : w.cell? ⟨pt tx, 1, none⟩ = some (.map (some (mw tx))) := cell_of (h.tx tx t e) 1
  have hw := h.wr tx t e
  have hp : IsPut (encS fun k => (t.wr k).map encVer) (.string key) (.agg #[.string val, .bool g]) (encS fun k => ((updS t.wr key (some (val, g))) k).map encVer) := by
    rw [map_updS]; exact put_encS _ _ _
  cases ek : t.wr key with
  | some v0 =>
    have hwr : wrote t key (val, g) = some { t with wr := updS t.wr key (some (val, g)) } := by simp [wrote, ek]
    refine write_again (pt tx) (mw tx) t.nw _ key val g w c1 hw hlen v0.1 v0.2 (by rw [encS_at, ek]; rfl) (by omega) hp (fun w' hk hf => h1 _ hwr w' hk (h.rewrite tx t _ e (fun b hb hne => hk.block b hb hne) rfl hf))
  | none =>
    by_cases hn : t.nw < 10
    · have hwr : wrote t key (val, g) = some { t with wr := updS t.wr key (some (val, g)), nw := t.nw + 1 } := by simp [wrote, ek, hn]
      refine write_new (pt tx) (mw tx) t.nw _ key val g w c1 hw hlen (by rw [encS_at, ek]; rfl) (by omega) hp (fun w' hk hf => h1 _ hwr w' hk (h.rewrite tx t _ e (fun b hb hne => hk.block b hb hne) rfl hf))
    · have hwr : wrote t key (val, g) = none := by simp [wrote, ek, hn]
      refine write_full (pt tx) (mw tx) t.nw _ key val g w c1 hw (by unfold maxLen; omega) (by rw [encS_at, ek]; rfl) (by omega) (fun w' hk => h0 hwr w' hk)

theorem Kp.own_of {S : Nat → Prop} (hk : Kp S w w') (hs : ∀ b, S b → (own b).c = c) : Kp (fun b => (own b).c = c) w w' := hk.mono (fun b _ h => hs b h)

theorem x_put (h : XR own c w p s mo ph mv mm pt mw sl) (tx : Int) (hwx : (Lit.int .i64 tx).wf = true) (key val : ByteArray) (hkl : key.size ≤ maxLen) (hvl : val.size ≤ maxLen) (hnw : ∀ n t, s.txs n = some t → t.nw ≤ 10)
    (h0 : s.txs tx = none → R (.returned (.int .i64 2)) w)
    (h1 : ∀ t, s.txs tx = some t → (isKey key && decide (val.size ≤ 20)) = false → R (.returned (.int .i64 1)) w)
    (h2 : ∀ t, s.txs tx = some t → (isKey key && decide (val.size ≤ 20)) = true → wrote t key (val, false) = none → ∀ w', Kp (fun b => (own b).c = c) w w' → XR own c w' p s mo ph mv mm pt mw sl → R (.returned (.int .i64 3)) w')
    (h3 : ∀ t t', s.txs tx = some t → (isKey key && decide (val.size ≤ 20)) = true → wrote t key (val, false) = some t' → ∀ w', Kp (fun b => (own b).c = c) w w' → XR own c w' p { s with txs := updI s.txs tx (some t') } mo ph mv mm pt mw sl → R (.returned (.int .i64 0)) w') :
    Calls Tryd.prog 26 #[.pointer (some ⟨p, 0, none⟩), .int .i64 tx, .string key, .string val] w R := by
  have c2 : w.cell? ⟨p, 7, none⟩ = some (.map (some mo)) := cell_of h.store 7
  cases e : s.txs tx with
  | none => exact put_none p mo s.nopen _ tx key val w c2 h.opn hwx (by rw [encI_at, e]; rfl) (h0 e)
  | some t =>
    cases hb : (isKey key && decide (val.size ≤ 20)) with
    | false => exact put_bad p mo s.nopen _ tx key val w c2 h.opn hwx ⟨pt tx, 0, none⟩ (by rw [encI_at, e]; rfl) hkl hvl hb (h1 t e hb)
    | true =>
      have hb' : isKey key = true ∧ val.size ≤ 20 := by simpa using hb
      refine put_good p mo s.nopen (pt tx) _ tx key val w c2 h.opn hwx (by rw [encI_at, e]; rfl) hb'.1 hb'.2 (fun w1 hk1 => ?_)
      have hx1 := h.kept hk1
      refine x_write hx1 tx t e key val false hb'.1 (hnw tx t e) (fun hn w2 hk2 => ⟨3, rfl, ?_⟩) (fun t' ht w2 hk2 hx2 => ⟨0, rfl, ?_⟩)
      · exact h2 t e hb hn w2 ((hk1.trans hk2 (fun _ _ h => h)).own_of (fun _ h => h.elim)) (hx1.kept hk2)
      · exact h3 t t' e hb ht w2 ((hk1.mono (S' := fun b => b = mw tx) (fun _ _ h => h.elim)).trans hk2 (fun _ _ h => h) |>.own_of (fun b hb => by rw [hb, (h.ownT tx t e).2])) hx2

theorem x_delete (h : XR own c w p s mo ph mv mm pt mw sl) (tx : Int) (hwx : (Lit.int .i64 tx).wf = true) (key : ByteArray) (hkl : key.size ≤ maxLen) (hnw : ∀ n t, s.txs n = some t → t.nw ≤ 10)
    (h0 : s.txs tx = none → R (.returned (.int .i64 2)) w)
    (h1 : ∀ t, s.txs tx = some t → isKey key = false → R (.returned (.int .i64 1)) w)
    (h2 : ∀ t, s.txs tx = some t → isKey key = true → wrote t key (eb, true) = none → ∀ w', Kp (fun b => (own b).c = c) w w' → XR own c w' p s mo ph mv mm pt mw sl → R (.returned (.int .i64 3)) w')
    (h3 : ∀ t t', s.txs tx = some t → isKey key = true → wrote t key (eb, true) = some t' → ∀ w', Kp (fun b => (own b).c = c) w w' → XR own c w' p { s with txs := updI s.txs tx (some t') } mo ph mv mm pt mw sl → R (.returned (.int .i64 0)) w') :
    Calls Tryd.prog 27 #[.pointer (some ⟨p, 0, none⟩), .int .i64 tx, .string key] w R := by
  have c2 : w.cell? ⟨p, 7, none⟩ = some (.map (some mo)) := cell_of h.store 7
  cases e : s.txs tx with
  | none => exact delete_none p mo s.nopen _ tx key w c2 h.opn hwx (by rw [encI_at, e]; rfl) (h0 e)
  | some t =>
    cases hb : isKey key with
    | false => exact delete_bad p mo s.nopen _ tx key w c2 h.opn hwx ⟨pt tx, 0, none⟩ (by rw [encI_at, e]; rfl) hkl hb (h1 t e hb)
    | true =>
      refine delete_good p mo s.nopen (pt tx) _ tx key w c2 h.opn hwx (by rw [encI_at, e]; rfl) hb ?_
      refine x_write h tx t e key eb true hb (hnw tx t e) (fun hn w2 hk2 => ⟨3, rfl, ?_⟩) (fun t' ht w2 hk2 hx2 => ⟨0, rfl, ?_⟩)
      · exact h2 t e hb hn w2 (hk2.own_of (fun _ h => h.elim)) (h.kept hk2)
      · exact h3 t t' e hb ht w2 (hk2.own_of (fun b hb => by rw [hb, (h.ownT tx t e).2])) hx2

end

end Go.Proofs.YthbdpfccfcceiaaDoor
