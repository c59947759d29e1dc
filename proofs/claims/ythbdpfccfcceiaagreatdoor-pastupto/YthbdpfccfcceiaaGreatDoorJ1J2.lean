/-
  A record more in the log of a store, told of its plain state.
  What a record says is done: (*Store).do, told of the store's plain state.
-/
import Derived.Test.YthbdpfccfcceiaaGreatDoorO1C1
import Derived.Test.YthbdpfccfcceiaaGreatDoorD6
import Derived.Test.YthbdpfccfcceiaaGreatDoorC2L1L2
namespace Go.Proofs.YthbdpfccfcceiaaGreatDoor
open Go.RowKit Go.Maps

theorem filesB_ok (lg : List (List UInt8)) (hl : lg.length ≤ 5000) (hb : ∀ b ∈ lg, b.length ≤ 400) : ∀ f ∈ filesB lg, f ≠ [] ∧ f.length ≤ 100000000 := by
  intro f hf
  refine ⟨?_, ?_⟩
  · have : ∀ (lg : List (List UInt8)) (f : List UInt8), f ∈ filesB lg → f ≠ [] := by
      intro lg
      induction lg using snoc_ind with
      | h0 => intro f hf; simp [filesB, filesN] at hf
      | h1 l x ih =>
        intro f hf
        rw [filesB_snoc] at hf
        unfold addF at hf
        split at hf
        · rcases List.mem_append.1 hf with h | h
          · exact ih f h
          · simp at h; subst h; simp [frameB, sealB]
        · rcases List.mem_append.1 hf with h | h
          · exact ih f (List.dropLast_subset _ h)
          · simp at h; subst h; simp [frameB, sealB]
    exact this lg f hf
  · have h1 := length_le_bytesOf hf
    have h2 := bytesOf_filesB_le lg 400 hb
    have h3 : lg.length * 417 ≤ 5000 * 417 := Nat.mul_le_mul_right _ hl
    omega

section
variable {own own' : Nat → Lab} {c : Nat} {w w' : World} {p : Nat} {s : XS} {mo ph mv mm : Nat} {pt mw : Int → Nat} {sl : ByteArray → Value}

theorem XR.relog (h : XR own c w p s mo ph mv mm pt mw sl) (l' : XL) (hb : ∀ b, b < w.heap.size → (own b).c = c → (own b).k ≠ 0 → (own b).k ≠ 8 → (own b).k ≠ 9 → w'.heap[b]? = w.heap[b]?) (ho : ∀ b, b < w.heap.size → own' b = own b)
    (hst : w'.heap[p]? = some (.cells #[.pointer (some ⟨ph, 0, none⟩), .int .i64 s.hor, .int .i64 s.now, l'.lf, .int .i64 (inLast l'.lg.length : Nat), .int .i64 (l'.sy : Nat), .int .i64 s.begun, .map (some mo), .int .i64 s.bk.taken, .map (some s.bk.mu)] 102 (0, 0)))
    (hl : LogR own' c w' l') : XR own' c w' p { s with log := l' } mo ph mv mm pt mw sl := by
  have lp := block_lt h.store; have lh := block_lt h.hist; have lo := h.opn.lt; have lv := h.vers.lt; have lm := h.moms.lt
  have b' : ∀ b k i x, b < w.heap.size → own b = ⟨c, k, i, x⟩ → k ≠ 0 → k ≠ 8 → k ≠ 9 → w'.heap[b]? = w.heap[b]? := fun b k i x hlt e h0 h8 h9 => hb b hlt (by rw [e]) (by rw [e]; exact h0) (by rw [e]; exact h8) (by rw [e]; exact h9)
  refine ⟨(ho p lp).trans h.ownP, (ho mo lo).trans h.ownO, (ho ph lh).trans h.ownH, (ho mv lv).trans h.ownV, (ho mm lm).trans h.ownM, hst, ?_, ?_, ?_, ?_, ?_, ?_, ?_, ?_, ?_, hl, h.bks.frame (fun b hlt hc hk => hb b hlt hc (by omega) (by omega) (by omega)) (fun b hlt _ _ => ho b hlt)⟩
  · exact (b' ph _ _ _ lh h.ownH (by decide) (by decide) (by decide)).trans h.hist
  · exact h.opn.of_block (b' mo _ _ _ lo h.ownO (by decide) (by decide) (by decide))
  · intro n t e
    exact ⟨(ho _ (block_lt (h.tx n t e))).trans (h.ownT n t e).1, (ho _ (h.wr n t e).lt).trans (h.ownT n t e).2⟩
  · intro n t e
    exact (b' _ _ _ _ (block_lt (h.tx n t e)) (h.ownT n t e).1 (by decide) (by decide) (by decide)).trans (h.tx n t e)
  · intro n t e
    exact (h.wr n t e).of_block (b' _ _ _ _ (h.wr n t e).lt (h.ownT n t e).2 (by decide) (by decide) (by decide))
  · exact h.vers.of_block (b' mv _ _ _ lv h.ownV (by decide) (by decide) (by decide))
  · exact h.moms.of_block (b' mm _ _ _ lm h.ownM (by decide) (by decide) (by decide))
  · intro k hk b e
    exact (ho b ((h.row k hk).lt b e).2).trans (h.ownR k hk b e)
  · intro k hk
    exact ownsRow_same (h.row k hk) (fun b e => b' b _ _ _ ((h.row k hk).lt b e).2 (h.ownR k hk b e) (by decide) (by decide) (by decide))

/-- The blocks of the tables are none of the store's. -/
def TabN (own : Nat → Lab) (c : Nat) : Prop := (own 0).c ≠ c ∧ (own 1).c ≠ c

variable {R : Ending → World → Prop}

theorem x_jadd (h : XR own c w p s mo ph mv mm pt mw sl) (hT : Tab w) (hN : TabN own c) (k t : Int) (rv : Value) (body : List UInt8) (hl : s.log.lg.length ≤ 4999) (hbs : ∀ b ∈ s.log.lg, b.length ≤ 400) (hb : body.length ≤ 400) (h1c : rv.oneCell' = true) (hr : RecR w (.agg #[.int .u8 k, .int .i64 t, rv]) body) (hrv : ∀ b, rv.ownBlock = some b → (own b).c ≠ c)
    (hR : ∀ w' own' l', Kp (fun b => (own b).c = c ∧ ((own b).k = 0 ∨ (own b).k = 8 ∨ (own b).k = 9)) w w' → (∀ b, b < w.heap.size → own' b = own b) → (∀ b, w.heap.size ≤ b → (own' b) ≠ own b → (own' b).c = c) → l'.lg = s.log.lg ++ [body] → l'.sy = s.log.sy →
      XR own' c w' p { s with log := l' } mo ph mv mm pt mw sl → R (.returned (.tuple #[])) w') :
    Calls Tryz.prog 78 #[.pointer (some ⟨p, 3, none⟩), .agg #[.int .u8 k, .int .i64 t, rv]] w R := by
  obtain ⟨pf, cap, elf⟩ := ownsRow_slice h.log.rowF
  have hst := h.store
  rw [elf] at hst
  have hrow := h.log.rowF
  rw [elf] at hrow
  have hfl := filesB_length s.log.lg
  have hlen := h.log.len
  have ownF : ∀ b, (Value.slice pf (filesB s.log.lg).length cap).ownBlock = some b → own b = ⟨c, 8, 0, eb⟩ := fun b e => h.log.ownF b (by rw [elf]; exact e)
  have hcond : ((filesB s.log.lg).length = 0 ∨ inLast s.log.lg.length = 4) ↔ s.log.lg.length % 4 = 0 := by
    rw [filesB_nil_iff, inLast_four]; omega
  refine jadd_any p 3 _ 102 pf (filesB s.log.lg).length cap (inLast s.log.lg.length) k t rv body w (by decide) (by decide) h1c (by omega) hst rfl rfl s.log.lv (filesB s.log.lg) hT hrow rfl (filesB_ok _ (by omega) hbs) h.log.rowB (by omega) (by have := inLast_le s.log.lg.length; omega) hr ?_ ?_ ?_ ?_
  · intro b e
    have hn := hrv b e
    exact ⟨fun e2 => hn (by rw [e2, h.ownP]), fun e2 => hn (by rw [ownF b e2])⟩
  · intro b e
    have hc : (own b).c = c := by
      rcases e with e | e
      · rw [e, h.ownP]
      · rw [ownF b e]
    exact ⟨fun e2 => hN.1 (by rw [← e2]; exact hc), fun e2 => hN.2 (by rw [← e2]; exact hc)⟩
  · intro hq lf' v' w' hp' hrow' hbr' ⟨bv, hbv, hbvl⟩ hlf' hk'
    have hmod := hcond.1 hq
    have hkk : Kp (fun b => (own b).c = c ∧ ((own b).k = 0 ∨ (own b).k = 8 ∨ (own b).k = 9)) w w' := hk'.mono (fun b _ e => by
      rcases e with e | e
      · rw [e, h.ownP]; simp
      · rw [ownF b e]; simp)
    have hfs : filesB (s.log.lg ++ [body]) = filesB s.log.lg ++ [openB (filesB s.log.lg).length ++ frameB body] := by rw [filesB_snoc]; simp [addF, hmod]
    have hne : lf'.ownBlock ≠ some bv := fun e => by
      obtain ⟨c1, h1⟩ := ownsRow_block2 hrow' e
      obtain ⟨c2, h2⟩ := hbr'.block hbv
      exact ne_type h1 h2 (by decide) rfl
    have hout : ∀ b, b < w.heap.size → (fun b => if lf'.ownBlock = some b then (⟨c, 8, 0, eb⟩ : Lab) else if bv = b then ⟨c, 9, ((filesB s.log.lg).length : Nat), eb⟩ else own b) b = own b := fun b hb => by
      have : bv ≠ b := by omega
      by_cases e : lf'.ownBlock = some b
      · simp only [e, if_true]
        rcases hlf' with h1 | ⟨b', h1, h2⟩
        · rw [h1] at e; exact (ownF b e).symm
        · rw [h1] at e; cases e; omega
      · simp [e, this]
    refine hR w' _ ⟨lf', s.log.lv ++ [v'], s.log.lg ++ [body], s.log.sy⟩ hkk hout (fun b _ e => ?_) rfl rfl (h.relog _ (fun b hb hc h0 h8 h9 => hkk.block b hb (fun e => by rcases e.2 with e | e | e <;> contradiction)) hout ?_ ?_)
    · by_cases e1 : lf'.ownBlock = some b
      · simp [e1]
      · by_cases e2 : bv = b
        · simp [e1, e2]
        · simp [e1, e2] at e
    · rw [hp']
      simp only [List.length_append, List.length_cons, List.length_nil, Nat.zero_add, inLast_succ_new _ hmod]
      rfl
    · refine ⟨fun b e => ?_, ?_, fun i v hv b e => ?_, fun i v f hv hf => ?_⟩
      · have e' : lf'.ownBlock = some b := e
        simp [e']
      · show w'.ownsRow 0 _ 1 lf' (filesB (s.log.lg ++ [body])).length (s.log.lv ++ [v'])
        rw [hfs]; simpa using hrow'
      · have hv' : (s.log.lv ++ [v'])[i]? = some v := hv
        rcases Nat.lt_trichotomy i s.log.lv.length with hi | hi | hi
        · rw [List.getElem?_append_left hi] at hv'
          have h1 := h.log.ownB i v hv' b e
          have hlt := ((h.log.rowB i v _ hv' (List.getElem?_eq_getElem (by omega))).lt b e).2
          exact (hout b hlt).trans h1
        · subst hi
          simp at hv'
          subst hv'
          rw [hbv] at e
          cases e
          simp [hne, hlen]
        · rw [List.getElem?_eq_none (by simp; omega)] at hv'; cases hv'
      · have hv' : (s.log.lv ++ [v'])[i]? = some v := hv
        have hf' : (filesB (s.log.lg ++ [body]))[i]? = some f := hf
        rw [hfs] at hf'
        rcases Nat.lt_trichotomy i s.log.lv.length with hi | hi | hi
        · rw [List.getElem?_append_left hi] at hv'
          rw [List.getElem?_append_left (by omega)] at hf'
          have h0 := h.log.rowB i v f hv' hf'
          refine ownsRow_same h0 (fun b e => hk'.block b (h0.lt b e).2 ?_)
          have h1 := h.log.ownB i v hv' b e
          rintro (e2 | e2)
          · rw [e2, h.ownP] at h1; simp at h1
          · rw [ownF b e2] at h1; simp at h1
        · subst hi
          simp at hv'
          rw [hlen] at hf'
          simp at hf'
          subst hv'; subst hf'
          exact hbr'
        · rw [List.getElem?_eq_none (by simp; omega)] at hv'; cases hv'
  · intro hq lv2 v f v' w' elv hf hp' hrow' hbr' hlv' hk'
    have hmod : s.log.lg.length % 4 ≠ 0 := fun e => hq (hcond.2 e)
    have hl2 : lv2.length + 1 = (filesB s.log.lg).length := by rw [← hlen, elv]; simp
    have hvat : s.log.lv[lv2.length]? = some v := by rw [elv]; simp
    have ownV : ∀ b, v.ownBlock = some b → own b = ⟨c, 9, (lv2.length : Nat), eb⟩ := fun b e => h.log.ownB lv2.length v hvat b e
    have hkk : Kp (fun b => (own b).c = c ∧ ((own b).k = 0 ∨ (own b).k = 8 ∨ (own b).k = 9)) w w' := hk'.mono (fun b _ e => by
      rcases e with e | e | e
      · rw [e, h.ownP]; simp
      · rw [ownF b e]; simp
      · rw [ownV b e]; simp)
    have hgl : (filesB s.log.lg).getLastD [] = f := by
      rw [List.getLastD_eq_getLast?, List.getLast?_eq_getElem?, show (filesB s.log.lg).length - 1 = lv2.length by omega, hf]; rfl
    have hfs : filesB (s.log.lg ++ [body]) = (filesB s.log.lg).dropLast ++ [f ++ frameB body] := by rw [filesB_snoc]; unfold addF; rw [if_neg hmod, hgl]
    have hdl : (filesB s.log.lg).dropLast.length = lv2.length := by simp; omega
    have hdr : ∀ i, i < lv2.length → (filesB s.log.lg).dropLast[i]? = (filesB s.log.lg)[i]? := fun i hi => by
      rw [List.getElem?_dropLast, if_pos (by omega)]
    have hout : ∀ b, b < w.heap.size → (fun b => if v'.ownBlock = some b then (⟨c, 9, (lv2.length : Nat), eb⟩ : Lab) else own b) b = own b := fun b hb => by
      by_cases e : v'.ownBlock = some b
      · simp only [e, if_true]
        rcases hlv' with h1 | ⟨b', h1, h2⟩
        · rw [h1] at e; exact (ownV b e).symm
        · rw [h1] at e; cases e; omega
      · simp [e]
    refine hR w' _ ⟨.slice pf (filesB s.log.lg).length cap, lv2 ++ [v'], s.log.lg ++ [body], s.log.sy⟩ hkk hout (fun b _ e => ?_) rfl rfl (h.relog _ (fun b hb hc h0 h8 h9 => hkk.block b hb (fun e => by rcases e.2 with e | e | e <;> contradiction)) hout ?_ ?_)
    · by_cases e1 : v'.ownBlock = some b
      · simp [e1]
      · simp [e1] at e
    · rw [hp']
      simp only [List.length_append, List.length_cons, List.length_nil, Nat.zero_add, inLast_succ _ hmod]
      rfl
    · refine ⟨fun b e => ?_, ?_, fun i u hu b e => ?_, fun i u g hu hg => ?_⟩
      · have e' : (Value.slice pf (filesB s.log.lg).length cap).ownBlock = some b := e
        exact (hout b (hrow.lt b e').2).trans (ownF b e')
      · show w'.ownsRow 0 _ 1 (.slice pf (filesB s.log.lg).length cap) (filesB (s.log.lg ++ [body])).length (lv2 ++ [v'])
        rw [hfs, List.length_append, hdl]
        simp only [List.length_cons, List.length_nil, Nat.zero_add]
        rw [hl2]
        exact hrow'
      · have hu' : (lv2 ++ [v'])[i]? = some u := hu
        rcases Nat.lt_trichotomy i lv2.length with hi | hi | hi
        · rw [List.getElem?_append_left hi] at hu'
          have hu2 : s.log.lv[i]? = some u := by rw [elv, List.getElem?_append_left hi]; exact hu'
          have h1 := h.log.ownB i u hu2 b e
          have hlt := ((h.log.rowB i u _ hu2 (List.getElem?_eq_getElem (by omega))).lt b e).2
          exact (hout b hlt).trans h1
        · subst hi
          simp at hu'
          subst hu'
          simp [e]
        · rw [List.getElem?_eq_none (by simp; omega)] at hu'; cases hu'
      · have hu' : (lv2 ++ [v'])[i]? = some u := hu
        have hg' : (filesB (s.log.lg ++ [body]))[i]? = some g := hg
        rw [hfs] at hg'
        rcases Nat.lt_trichotomy i lv2.length with hi | hi | hi
        · rw [List.getElem?_append_left hi] at hu'
          rw [List.getElem?_append_left (by omega), hdr i hi] at hg'
          have hu2 : s.log.lv[i]? = some u := by rw [elv, List.getElem?_append_left hi]; exact hu'
          have h0 := h.log.rowB i u g hu2 hg'
          refine ownsRow_same h0 (fun b e => hk'.block b (h0.lt b e).2 ?_)
          have h1 := h.log.ownB i u hu2 b e
          rintro (e2 | e2 | e2)
          · rw [e2, h.ownP] at h1; simp at h1
          · rw [ownF b e2] at h1; simp at h1
          · rw [ownV b e2] at h1; simp at h1; omega
        · subst hi
          rw [← hdl] at hg'
          simp at hu' hg'
          subst hu'; subst hg'
          exact hbr'
        · rw [List.getElem?_eq_none (by simp; omega)] at hu'; cases hu'

end

end Go.Proofs.YthbdpfccfcceiaaGreatDoor

namespace Go.Proofs.YthbdpfccfcceiaaGreatDoor
open Go.RowKit Go.Maps

section
variable {own own' : Nat → Lab} {c : Nat} {w w' : World} {p : Nat} {s : XS} {mo ph mv mm : Nat} {pt mw : Int → Nat} {sl : ByteArray → Value}
variable {R : Ending → World → Prop}

/-- The labels where new blocks are nobody's. -/
def outer (own : Nat → Lab) (c n : Nat) : Nat → Lab := fun b => if b < n then own b else ⟨c + 1, 99, 0, eb⟩
theorem outer_old {n b : Nat} (h : b < n) : outer own c n b = own b := by simp [outer, h]
theorem outer_new {n b : Nat} (h : n ≤ b) : (outer own c n b).c ≠ c := by
  have : ¬ b < n := by omega
  simp [outer, this]
theorem XR.outer (h : XR own c w p s mo ph mv mm pt mw sl) (hk : Kp (fun _ => False) w w') : XR (outer own c w.heap.size) c w' p s mo ph mv mm pt mw sl :=
  h.frame (fun b hb _ => hk.block b hb (fun e => e)) (fun _ hb _ => outer_old hb)
theorem TabN.outer (h : TabN own c) (hT : Tab w) : TabN (outer own c w.heap.size) c := by
  unfold TabN
  rw [outer_old hT.lt.1, outer_old hT.lt.2]
  exact h

set_option maxRecDepth 20000 in
set_option maxHeartbeats 2000000 in
theorem x_do_hor (h : XR own c w p s mo ph mv mm pt mw sl) (hT : Tab w) (hN : TabN own c) (t : Nat) (ht : t < 4294967296) (hl : s.log.lg.length ≤ 4999) (hbs : ∀ b ∈ s.log.lg, b.length ≤ 400)
    (hR : ∀ w' own' l', Kp (fun b => (own b).c = c) w w' → (∀ b, b < w.heap.size → own' b = own b) → l'.lg = s.log.lg ++ [bodyH t] → l'.sy = s.log.sy →
      XR own' c w' p { s with hor := t, log := l' } mo ph mv mm pt mw sl → R (.returned (.tuple #[])) w') :
    Calls Tryz.prog 46 #[.pointer (some ⟨p, 0, none⟩), .agg #[.int .u8 72, .int .i64 t, .slice none 0 0]] w R := by
  have H0 := hid_of h
  have HT := hid_of hT
  have HN := hid_of hN
  have HR := hid_of hR
  have HL := hid_of hl
  have HBS := hid_of hbs
  have HTT := hid_of ht
  have b0 : (w.alloc (.cells #[.int .u8 72, .int .i64 t, .slice none 0 0] 110)).cell? ⟨w.heap.size, 0, none⟩ = some (.int .u8 72) := by go_simp
  have b1 : (w.alloc (.cells #[.int .u8 72, .int .i64 t, .slice none 0 0] 110)).cell? ⟨w.heap.size, 1, none⟩ = some (.int .i64 t) := by go_simp
  have b2 : (w.alloc (.cells #[.int .u8 72, .int .i64 t, .slice none 0 0] 110)).cell? ⟨w.heap.size, 2, none⟩ = some (.slice none 0 0) := by go_simp
  have HKA : Hid (Kp (fun _ => False) w (w.alloc (.cells #[.int .u8 72, .int .i64 t, .slice none 0 0] 110))) := Kp.alloc _ _ _
  clear h hT hN hR hl hbs ht
  go_enter Tryz.func46, Tryz.ntmps46
  go_wp2_with fail
  generalize w.alloc (.cells #[.int .u8 72, .int .i64 t, .slice none 0 0] 110) = A at b0 b1 b2 HKA ⊢
  go_region_law (refine step_call rfl 78 _ _ _ rfl Tryz.func78 (by kernel_rfl) (by kernel_rfl) _ (by simp [Act.eval]; rfl) ?_; refine x_jadd (H0.out.outer (HKA.out.trans (Kp.drew _ _) (fun _ _ h => h))) (HT.out.kept (HKA.out.trans (Kp.drew _ _) (fun _ _ h => h))) (HN.out.outer HT.out) 72 t (.slice none 0 0) (bodyH t) HL.out HBS.out (by rw [bodyH_length]; omega) rfl (Or.inl ⟨t, .slice none 0 0, HTT.out, rfl, rfl, rfl⟩) (fun b e => by simp [Value.ownBlock] at e) ?_; intro w1 own1 l1 hk1 ho1 _ hl1 hs1 hx1; have H1 := hid_of hx1; have HK1 := hid_of hk1; have HO1 := hid_of ho1; have HL1 := hid_of hl1; have HS1 := hid_of hs1; have d0 : w1.cell? ⟨w.heap.size, 0, none⟩ = some (.int .u8 72) := (hk1.cell (a := ⟨w.heap.size, 0, none⟩) (World.block_lt_of_cell? A _ b0) (fun e => outer_new (Nat.le_refl _) e.1)).trans b0; have d1 : w1.cell? ⟨w.heap.size, 1, none⟩ = some (.int .i64 t) := (hk1.cell (a := ⟨w.heap.size, 1, none⟩) (World.block_lt_of_cell? A _ b1) (fun e => outer_new (Nat.le_refl _) e.1)).trans b1; have c1 : w1.cell? ⟨p, 1, none⟩ = some (.int .i64 s.hor) := cell_of hx1.store 1; have f1 : w1.frozen? ⟨p, 1, none⟩ = false := frozen_of hx1.store 1; clear hk1 ho1 hl1 hs1 hx1; refine ⟨_, rfl, ?_⟩)
  all_goals
    clear b0 b1 b2
    go_wp2_with fail
    refine bodyPost_ret (results_none rfl _ _ _) rfl ?_
    refine HR.out _ own1 l1 ((((HKA.out.mono (fun _ _ h => h.elim)).trans (Kp.drew _ _) (fun _ _ h => h)).trans HK1.out (fun b hb e => ?_)).trans (Kp.setCell (S := fun b => (own b).c = c) w1 _ _ (by show (own p).c = c; rw [H0.out.ownP])) (fun _ _ h => h)) (fun b hb => ?_) HL1.out HS1.out (H1.out.setHor t)
    · have := e.1; rw [outer_old hb] at this; exact this
    · rw [HO1.out b (Nat.lt_of_lt_of_le hb HKA.out.size), outer_old hb]

end

end Go.Proofs.YthbdpfccfcceiaaGreatDoor
