/-
  A record more in the log of a store, told of its plain state.
  Bytes that are taken apart from the front: the Reader.
-/
import Derived.Test.YthbdpfccfcceiaaGreatDoorO1C1
import Derived.Test.YthbdpfccfcceiaaGreatDoorD6
namespace Go.Proofs.YthbdpfccfcceiaaGreatDoor
open Go.RowKit Go.Maps

theorem filesB_ok (lg : List (List UInt8)) (hl : lg.length ≤ 5000) (hb : ∀ b ∈ lg, b.length ≤ 400) : ∀ f ∈ filesB lg, f ≠ [] ∧ f.length ≤ 100000000 := by
  intro f hf
  refine ⟨?_, ?_⟩
  · have : ∀ (lg : List (List UInt8)) (f : List UInt8), f ∈ filesB lg → f ≠ [] := by
      intro lg
      induction lg using snoc_ind with
      | h0 => intro f hf; simp [filesB, filesN] at hf
      | h1 l x ih =>
        intro f hf
        rw [filesB_snoc] at hf
        unfold addF at hf
        split at hf
        · rcases List.mem_append.1 hf with h | h
          · exact ih f h
          · simp at h; subst h; simp [frameB, sealB]
        · rcases List.mem_append.1 hf with h | h
          · exact ih f (List.dropLast_subset _ h)
          · simp at h; subst h; simp [frameB, sealB]
    exact this lg f hf
  · have h1 := length_le_bytesOf hf
    have h2 := bytesOf_filesB_le lg 400 hb
    have h3 : lg.length * 417 ≤ 5000 * 417 := Nat.mul_le_mul_right _ hl
    omega

section
variable {own own' : Nat → Lab} {c : Nat} {w w' : World} {p : Nat} {s : XS} {mo ph mv mm : Nat} {pt mw : Int → Nat} {sl : ByteArray → Value}

theorem XR.relog (h : XR own c w p s mo ph mv mm pt mw sl) (l' : XL) (hb : ∀ b, b < w.heap.size → (own b).c = c → (own b).k ≠ 0 → (own b).k ≠ 8 → (own b).k ≠ 9 → w'.heap[b]? = w.heap[b]?) (ho : ∀ b, b < w.heap.size → own' b = own b)
    (hst : w'.heap[p]? = some (.cells #[.pointer (some ⟨ph, 0, none⟩), .int .i64 s.hor, .int .i64 s.now, l'.lf, .int .i64 (inLast l'.lg.length : Nat), .int .i64 (l'.sy : Nat), .int .i64 s.begun, .map (some mo), .int .i64 s.bk.taken, .map (some s.bk.mu)] 102 (0, 0)))
    (hl : LogR own' c w' l') : XR own' c w' p { s with log := l' } mo ph mv mm pt mw sl := by
  have lp := block_lt h.store; have lh := block_lt h.hist; have lo := h.opn.lt; have lv := h.vers.lt; have lm := h.moms.lt
  have b' : ∀ b k i x, b < w.heap.size → own b = ⟨c, k, i, x⟩ → k ≠ 0 → k ≠ 8 → k ≠ 9 → w'.heap[b]? = w.heap[b]? := fun b k i x hlt e h0 h8 h9 => hb b hlt (by rw [e]) (by rw [e]; exact h0) (by rw [e]; exact h8) (by rw [e]; exact h9)
  refine ⟨(ho p lp).trans h.ownP, (ho mo lo).trans h.ownO, (ho ph lh).trans h.ownH, (ho mv lv).trans h.ownV, (ho mm lm).trans h.ownM, hst, ?_, ?_, ?_, ?_, ?_, ?_, ?_, ?_, ?_, hl, h.bks.frame (fun b hlt hc hk => hb b hlt hc (by omega) (by omega) (by omega)) (fun b hlt _ _ => ho b hlt)⟩
  · exact (b' ph _ _ _ lh h.ownH (by decide) (by decide) (by decide)).trans h.hist
  · exact h.opn.of_block (b' mo _ _ _ lo h.ownO (by decide) (by decide) (by decide))
  · intro n t e
    exact ⟨(ho _ (block_lt (h.tx n t e))).trans (h.ownT n t e).1, (ho _ (h.wr n t e).lt).trans (h.ownT n t e).2⟩
  · intro n t e
    exact (b' _ _ _ _ (block_lt (h.tx n t e)) (h.ownT n t e).1 (by decide) (by decide) (by decide)).trans (h.tx n t e)
  · intro n t e
    exact (h.wr n t e).of_block (b' _ _ _ _ (h.wr n t e).lt (h.ownT n t e).2 (by decide) (by decide) (by decide))
  · exact h.vers.of_block (b' mv _ _ _ lv h.ownV (by decide) (by decide) (by decide))
  · exact h.moms.of_block (b' mm _ _ _ lm h.ownM (by decide) (by decide) (by decide))
  · intro k hk b e
    exact (ho b ((h.row k hk).lt b e).2).trans (h.ownR k hk b e)
  · intro k hk
    exact ownsRow_same (h.row k hk) (fun b e => b' b _ _ _ ((h.row k hk).lt b e).2 (h.ownR k hk b e) (by decide) (by decide) (by decide))

/-- The blocks of the tables are none of the store's. -/
def TabN (own : Nat → Lab) (c : Nat) : Prop := (own 0).c ≠ c ∧ (own 1).c ≠ c

variable {R : Ending → World → Prop}

theorem x_jadd (h : XR own c w p s mo ph mv mm pt mw sl) (hT : Tab w) (hN : TabN own c) (k t : Int) (rv : Value) (body : List UInt8) (hl : s.log.lg.length ≤ 4999) (hbs : ∀ b ∈ s.log.lg, b.length ≤ 400) (hb : body.length ≤ 400) (h1c : rv.oneCell' = true) (hr : RecR w (.agg #[.int .u8 k, .int .i64 t, rv]) body) (hrv : ∀ b, rv.ownBlock = some b → (own b).c ≠ c)
    (hR : ∀ w' own' l', Kp (fun b => (own b).c = c ∧ ((own b).k = 0 ∨ (own b).k = 8 ∨ (own b).k = 9)) w w' → (∀ b, b < w.heap.size → own' b = own b) → (∀ b, w.heap.size ≤ b → (own' b) ≠ own b → (own' b).c = c) → l'.lg = s.log.lg ++ [body] → l'.sy = s.log.sy →
      XR own' c w' p { s with log := l' } mo ph mv mm pt mw sl → R (.returned (.tuple #[])) w') :
    Calls Tryz.prog 78 #[.pointer (some ⟨p, 3, none⟩), .agg #[.int .u8 k, .int .i64 t, rv]] w R := by
  obtain ⟨pf, cap, elf⟩ := ownsRow_slice h.log.rowF
  have hst := h.store
  rw [elf] at hst
  have hrow := h.log.rowF
  rw [elf] at hrow
  have hfl := filesB_length s.log.lg
  have hlen := h.log.len
  have ownF : ∀ b, (Value.slice pf (filesB s.log.lg).length cap).ownBlock = some b → own b = ⟨c, 8, 0, eb⟩ := fun b e => h.log.ownF b (by rw [elf]; exact e)
  have hcond : ((filesB s.log.lg).length = 0 ∨ inLast s.log.lg.length = 4) ↔ s.log.lg.length % 4 = 0 := by
    rw [filesB_nil_iff, inLast_four]; omega
  refine jadd_any p 3 _ 102 pf (filesB s.log.lg).length cap (inLast s.log.lg.length) k t rv body w (by decide) (by decide) h1c (by omega) hst rfl rfl s.log.lv (filesB s.log.lg) hT hrow rfl (filesB_ok _ (by omega) hbs) h.log.rowB (by omega) (by have := inLast_le s.log.lg.length; omega) hr ?_ ?_ ?_ ?_
  · intro b e
    have hn := hrv b e
    exact ⟨fun e2 => hn (by rw [e2, h.ownP]), fun e2 => hn (by rw [ownF b e2])⟩
  · intro b e
    have hc : (own b).c = c := by
      rcases e with e | e
      · rw [e, h.ownP]
      · rw [ownF b e]
    exact ⟨fun e2 => hN.1 (by rw [← e2]; exact hc), fun e2 => hN.2 (by rw [← e2]; exact hc)⟩
  · intro hq lf' v' w' hp' hrow' hbr' ⟨bv, hbv, hbvl⟩ hlf' hk'
    have hmod := hcond.1 hq
    have hkk : Kp (fun b => (own b).c = c ∧ ((own b).k = 0 ∨ (own b).k = 8 ∨ (own b).k = 9)) w w' := hk'.mono (fun b _ e => by
      rcases e with e | e
      · rw [e, h.ownP]; simp
      · rw [ownF b e]; simp)
    have hfs : filesB (s.log.lg ++ [body]) = filesB s.log.lg ++ [openB (filesB s.log.lg).length ++ frameB body] := by rw [filesB_snoc]; simp [addF, hmod]
    have hne : lf'.ownBlock ≠ some bv := fun e => by
      obtain ⟨c1, h1⟩ := ownsRow_block2 hrow' e
      obtain ⟨c2, h2⟩ := hbr'.block hbv
      exact ne_type h1 h2 (by decide) rfl
    have hout : ∀ b, b < w.heap.size → (fun b => if lf'.ownBlock = some b then (⟨c, 8, 0, eb⟩ : Lab) else if bv = b then ⟨c, 9, ((filesB s.log.lg).length : Nat), eb⟩ else own b) b = own b := fun b hb => by
      have : bv ≠ b := by omega
      by_cases e : lf'.ownBlock = some b
      · simp only [e, if_true]
        rcases hlf' with h1 | ⟨b', h1, h2⟩
        · rw [h1] at e; exact (ownF b e).symm
        · rw [h1] at e; cases e; omega
      · simp [e, this]
    refine hR w' _ ⟨lf', s.log.lv ++ [v'], s.log.lg ++ [body], s.log.sy⟩ hkk hout (fun b _ e => ?_) rfl rfl (h.relog _ (fun b hb hc h0 h8 h9 => hkk.block b hb (fun e => by rcases e.2 with e | e | e <;> contradiction)) hout ?_ ?_)
    · by_cases e1 : lf'.ownBlock = some b
      · simp [e1]
      · by_cases e2 : bv = b
        · simp [e1, e2]
        · simp [e1, e2] at e
    · rw [hp']
      simp only [List.length_append, List.length_cons, List.length_nil, Nat.zero_add, inLast_succ_new _ hmod]
      rfl
    · refine ⟨fun b e => ?_, ?_, fun i v hv b e => ?_, fun i v f hv hf => ?_⟩
      · have e' : lf'.ownBlock = some b := e
        simp [e']
      · show w'.ownsRow 0 _ 1 lf' (filesB (s.log.lg ++ [body])).length (s.log.lv ++ [v'])
        rw [hfs]; simpa using hrow'
      · have hv' : (s.log.lv ++ [v'])[i]? = some v := hv
        rcases Nat.lt_trichotomy i s.log.lv.length with hi | hi | hi
        · rw [List.getElem?_append_left hi] at hv'
          have h1 := h.log.ownB i v hv' b e
          have hlt := ((h.log.rowB i v _ hv' (List.getElem?_eq_getElem (by omega))).lt b e).2
          exact (hout b hlt).trans h1
        · subst hi
          simp at hv'
          subst hv'
          rw [hbv] at e
          cases e
          simp [hne, hlen]
        · rw [List.getElem?_eq_none (by simp; omega)] at hv'; cases hv'
      · have hv' : (s.log.lv ++ [v'])[i]? = some v := hv
        have hf' : (filesB (s.log.lg ++ [body]))[i]? = some f := hf
        rw [hfs] at hf'
        rcases Nat.lt_trichotomy i s.log.lv.length with hi | hi | hi
        · rw [List.getElem?_append_left hi] at hv'
          rw [List.getElem?_append_left (by omega)] at hf'
          have h0 := h.log.rowB i v f hv' hf'
          refine ownsRow_same h0 (fun b e => hk'.block b (h0.lt b e).2 ?_)
          have h1 := h.log.ownB i v hv' b e
          rintro (e2 | e2)
          · rw [e2, h.ownP] at h1; simp at h1
          · rw [ownF b e2] at h1; simp at h1
        · subst hi
          simp at hv'
          rw [hlen] at hf'
          simp at hf'
          subst hv'; subst hf'
          exact hbr'
        · rw [List.getElem?_eq_none (by simp; omega)] at hv'; cases hv'
  · intro hq lv2 v f v' w' elv hf hp' hrow' hbr' hlv' hk'
    have hmod : s.log.lg.length % 4 ≠ 0 := fun e => hq (hcond.2 e)
    have hl2 : lv2.length + 1 = (filesB s.log.lg).length := by rw [← hlen, elv]; simp
    have hvat : s.log.lv[lv2.length]? = some v := by rw [elv]; simp
    have ownV : ∀ b, v.ownBlock = some b → own b = ⟨c, 9, (lv2.length : Nat), eb⟩ := fun b e => h.log.ownB lv2.length v hvat b e
    have hkk : Kp (fun b => (own b).c = c ∧ ((own b).k = 0 ∨ (own b).k = 8 ∨ (own b).k = 9)) w w' := hk'.mono (fun b _ e => by
      rcases e with e | e | e
      · rw [e, h.ownP]; simp
      · rw [ownF b e]; simp
      · rw [ownV b e]; simp)
    have hgl : (filesB s.log.lg).getLastD [] = f := by
      rw [List.getLastD_eq_getLast?, List.getLast?_eq_getElem?, show (filesB s.log.lg).length - 1 = lv2.length by omega, hf]; rfl
    have hfs : filesB (s.log.lg ++ [body]) = (filesB s.log.lg).dropLast ++ [f ++ frameB body] := by rw [filesB_snoc]; unfold addF; rw [if_neg hmod, hgl]
    have hdl : (filesB s.log.lg).dropLast.length = lv2.length := by simp; omega
    have hdr : ∀ i, i < lv2.length → (filesB s.log.lg).dropLast[i]? = (filesB s.log.lg)[i]? := fun i hi => by
      rw [List.getElem?_dropLast, if_pos (by omega)]
    have hout : ∀ b, b < w.heap.size → (fun b => if v'.ownBlock = some b then (⟨c, 9, (lv2.length : Nat), eb⟩ : Lab) else own b) b = own b := fun b hb => by
      by_cases e : v'.ownBlock = some b
      · simp only [e, if_true]
        rcases hlv' with h1 | ⟨b', h1, h2⟩
        · rw [h1] at e; exact (ownV b e).symm
        · rw [h1] at e; cases e; omega
      · simp [e]
    refine hR w' _ ⟨.slice pf (filesB s.log.lg).length cap, lv2 ++ [v'], s.log.lg ++ [body], s.log.sy⟩ hkk hout (fun b _ e => ?_) rfl rfl (h.relog _ (fun b hb hc h0 h8 h9 => hkk.block b hb (fun e => by rcases e.2 with e | e | e <;> contradiction)) hout ?_ ?_)
    · by_cases e1 : v'.ownBlock = some b
      · simp [e1]
      · simp [e1] at e
    · rw [hp']
      simp only [List.length_append, List.length_cons, List.length_nil, Nat.zero_add, inLast_succ _ hmod]
      rfl
    · refine ⟨fun b e => ?_, ?_, fun i u hu b e => ?_, fun i u g hu hg => ?_⟩
      · have e' : (Value.slice pf (filesB s.log.lg).length cap).ownBlock = some b := e
        exact (hout b (hrow.lt b e').2).trans (ownF b e')
      · show w'.ownsRow 0 _ 1 (.slice pf (filesB s.log.lg).length cap) (filesB (s.log.lg ++ [body])).length (lv2 ++ [v'])
        rw [hfs, List.length_append, hdl]
        simp only [List.length_cons, List.length_nil, Nat.zero_add]
        rw [hl2]
        exact hrow'
      · have hu' : (lv2 ++ [v'])[i]? = some u := hu
        rcases Nat.lt_trichotomy i lv2.length with hi | hi | hi
        · rw [List.getElem?_append_left hi] at hu'
          have hu2 : s.log.lv[i]? = some u := by rw [elv, List.getElem?_append_left hi]; exact hu'
          have h1 := h.log.ownB i u hu2 b e
          have hlt := ((h.log.rowB i u _ hu2 (List.getElem?_eq_getElem (by omega))).lt b e).2
          exact (hout b hlt).trans h1
        · subst hi
          simp at hu'
          subst hu'
          simp [e]
        · rw [List.getElem?_eq_none (by simp; omega)] at hu'; cases hu'
      · have hu' : (lv2 ++ [v'])[i]? = some u := hu
        have hg' : (filesB (s.log.lg ++ [body]))[i]? = some g := hg
        rw [hfs] at hg'
        rcases Nat.lt_trichotomy i lv2.length with hi | hi | hi
        · rw [List.getElem?_append_left hi] at hu'
          rw [List.getElem?_append_left (by omega), hdr i hi] at hg'
          have hu2 : s.log.lv[i]? = some u := by rw [elv, List.getElem?_append_left hi]; exact hu'
          have h0 := h.log.rowB i u g hu2 hg'
          refine ownsRow_same h0 (fun b e => hk'.block b (h0.lt b e).2 ?_)
          have h1 := h.log.ownB i u hu2 b e
          rintro (e2 | e2 | e2)
          · rw [e2, h.ownP] at h1; simp at h1
          · rw [ownF b e2] at h1; simp at h1
          · rw [ownV b e2] at h1; simp at h1; omega
        · subst hi
          rw [← hdl] at hg'
          simp at hu' hg'
          subst hu'; subst hg'
          exact hbr'
        · rw [List.getElem?_eq_none (by simp; omega)] at hu'; cases hu'

end

end Go.Proofs.YthbdpfccfcceiaaGreatDoor

namespace Go.Proofs.YthbdpfccfcceiaaGreatDoor
open Go.RowKit Go.Maps Go.Lib

/-- What a reader has before it, and whether it is wrong. -/
structure RS where
  bs : List UInt8
  wr : Bool

def RS.bad (s : RS) : RS := { s with wr := true }
def RS.take (s : RS) (n : Nat) : Option (List UInt8) × RS := if s.wr = true ∨ s.bs.length < n then (none, s.bad) else (some (s.bs.take n), ⟨s.bs.drop n, false⟩)
def RS.one (s : RS) : Nat × RS := (match (s.take 1).1 with | some l => (l.getD 0 0).toNat | none => 0, (s.take 1).2)
def le4 (l : List UInt8) : Nat := (l.getD 0 0).toNat + 256 * (l.getD 1 0).toNat + 65536 * (l.getD 2 0).toNat + 16777216 * (l.getD 3 0).toNat
def RS.four (s : RS) : Nat × RS := (match (s.take 4).1 with | some l => le4 l | none => 0, (s.take 4).2)
def RS.text (s : RS) : List UInt8 × RS := ((((s.one).2.take (s.one).1).1).getD [], ((s.one).2.take (s.one).1).2)

/-- Bytes that are there to be read, in one block. -/
def RdC (w : World) (v : Value) (bs : List UInt8) (g : Nat) : Prop :=
  ∃ o cap, v = .slice (some ⟨g, o, none⟩) bs.length cap ∧ bs.length ≤ cap ∧ ∀ j, j < bs.length → w.cell? ⟨g, o + j, none⟩ = some (b8 (bs.getD j 0))

theorem RdC.rd {w : World} {v : Value} {bs : List UInt8} {g : Nat} (h : RdC w v bs g) : RdB w v bs := by
  obtain ⟨o, cap, rfl, _, hc⟩ := h
  exact ⟨_, cap, rfl, fun _ => ⟨g, o, rfl, hc⟩⟩
theorem RdC.kp {S : Nat → Prop} {w w' : World} {v : Value} {bs : List UInt8} {g : Nat} (h : RdC w v bs g) (hk : Kp S w w') (hs : ¬ S g) : RdC w' v bs g := by
  obtain ⟨o, cap, rfl, hl, hc⟩ := h
  exact ⟨o, cap, rfl, hl, fun j hj => (hk.cell (World.block_lt_of_cell? _ _ (hc j hj)) hs).trans (hc j hj)⟩
theorem RdC.kept {w w' : World} {v : Value} {bs : List UInt8} {g : Nat} (h : RdC w v bs g) (hk : Kp (fun _ => False) w w') : RdC w' v bs g := h.kp hk (fun e => e)

/-- A reader. -/
structure RdrAt (w : World) (r : Nat) (s : RS) (v : Value) (g : Nat) : Prop where
  blk : w.heap[r]? = some (.cells #[v, .bool s.wr] 303 (0, 0))
  rd : RdC w v s.bs g
  ne : g ≠ r
  lt : g < w.heap.size

theorem RdrAt.kp {S : Nat → Prop} {w w' : World} {r : Nat} {s : RS} {v : Value} {g : Nat} (h : RdrAt w r s v g) (hk : Kp S w w') (h1 : ¬ S r) (h2 : ¬ S g) : RdrAt w' r s v g :=
  ⟨(hk.block r (block_lt h.blk) h1).trans h.blk, h.rd.kp hk h2, h.ne, Nat.lt_of_lt_of_le h.lt hk.size⟩
theorem RdrAt.wrong {w : World} {r : Nat} {s : RS} {v : Value} {g : Nat} (h : RdrAt w r s v g) : RdrAt (w.setCell ⟨r, 1, none⟩ (.bool true)) r s.bad v g :=
  ⟨heap_set h.blk _, h.rd.kp (Kp.setCell (S := fun b => b = r) w _ _ rfl) h.ne, h.ne, Nat.lt_of_lt_of_le h.lt (Kp.setCell (S := fun b => b = r) w _ _ rfl).size⟩
theorem RdrAt.on {w : World} {r : Nat} {s : RS} {v v' : Value} {g : Nat} (h : RdrAt w r s v g) (hw : s.wr = false) {bs : List UInt8} (h' : RdC w v' bs g) : RdrAt (w.setCell ⟨r, 0, none⟩ v') r ⟨bs, false⟩ v' g :=
  ⟨by rw [← hw]; exact heap_set h.blk _, h'.kp (Kp.setCell (S := fun b => b = r) w _ _ rfl) h.ne, h.ne, Nat.lt_of_lt_of_le h.lt (Kp.setCell (S := fun b => b = r) w _ _ rfl).size⟩

theorem RdC.take {w : World} {g o cap : Nat} {bs : List UInt8} (hl : bs.length ≤ cap) (hc : ∀ j, j < bs.length → w.cell? ⟨g, o + j, none⟩ = some (b8 (bs.getD j 0))) (n : Nat) (hn : n ≤ bs.length) : RdC w (.slice (some ⟨g, o, none⟩) n cap) (bs.take n) g :=
  ⟨o, cap, by rw [List.length_take, Nat.min_eq_left hn], by rw [List.length_take]; omega, fun j hj => by
    rw [List.length_take] at hj
    have hj1 : j < n := by omega
    rw [hc j (by omega)]; simp [List.getD, hj1]⟩
theorem RdC.drop {w : World} {g o cap : Nat} {bs : List UInt8} (hl : bs.length ≤ cap) (hc : ∀ j, j < bs.length → w.cell? ⟨g, o + j, none⟩ = some (b8 (bs.getD j 0))) (n : Nat) (hn : n ≤ bs.length) : RdC w (.slice (some ⟨g, o + n, none⟩) (bs.length - n) (cap - n)) (bs.drop n) g :=
  ⟨o + n, cap - n, by rw [List.length_drop], by rw [List.length_drop]; omega, fun j hj => by
    rw [List.length_drop] at hj
    rw [Nat.add_assoc, hc (n + j) (by omega)]; simp [List.getD]⟩
theorem RdC.dropAll {w : World} {g o : Nat} {bs : List UInt8} (n : Nat) (hn : n = bs.length) : RdC w (.slice (some ⟨g, o, none⟩) 0 0) (bs.drop n) g := by
  subst hn
  exact ⟨o, 0, by simp, by simp, fun j hj => by simp at hj⟩

section
variable {R : Ending → World → Prop}

set_option maxRecDepth 20000 in
set_option maxHeartbeats 1000000 in
theorem take_any (r : Nat) (s : RS) (v : Value) (g n : Nat) (w : World) (h : RdrAt w r s v g) (hn : n ≤ 1000000) (hl : s.bs.length ≤ 1000000)
    (h1 : (s.take n).1 = none → RdrAt (w.setCell ⟨r, 1, none⟩ (.bool true)) r (s.take n).2 v g → R (.returned (.slice none 0 0)) (w.setCell ⟨r, 1, none⟩ (.bool true)))
    (h2 : ∀ l v1 v2, (s.take n).1 = some l → l.length = n → RdrAt (w.setCell ⟨r, 0, none⟩ v2) r (s.take n).2 v2 g → RdC (w.setCell ⟨r, 0, none⟩ v2) v1 l g → R (.returned v1) (w.setCell ⟨r, 0, none⟩ v2)) :
    Calls Tryz.prog 205 #[.pointer (some ⟨r, 0, none⟩), .int .i64 n] w R := by
  have H := hid_of h
  obtain ⟨o, cap, rfl, hcap, hc⟩ := h.rd
  have c0 : w.cell? ⟨r, 0, none⟩ = some (.slice (some ⟨g, o, none⟩) s.bs.length cap) := cell_of h.blk 0
  have c1 : w.cell? ⟨r, 1, none⟩ = some (.bool s.wr) := cell_of h.blk 1
  have f0 := frozen_at h.blk 0
  have f1 := frozen_at h.blk 1
  have HC := hid_of hc
  have hn' : (n : Int) ≤ 1000000 := by omega
  have hl' : (s.bs.length : Int) ≤ 1000000 := by omega
  by_cases q : s.wr = true ∨ s.bs.length < n
  · have e : s.take n = (none, s.bad) := by simp [RS.take, q]
    rw [e] at h1
    have HR := hid_of (h1 rfl h.wrong)
    clear h h1 h2 hc e
    by_cases q1 : s.wr = true
    · rw [q1] at c1
      clear q
      go_enter Tryz.func205, Tryz.ntmps205
      go_wp2_with fail
      exact HR.out
    · have q2 : (s.bs.length : Int) < n := q.elim (fun e => absurd e q1) (fun e => by omega)
      have q3 : s.wr = false := by simpa using q1
      rw [q3] at c1
      clear q q1
      go_enter Tryz.func205, Tryz.ntmps205
      go_wp2_with fail
      exact HR.out
  · have e : s.take n = (some (s.bs.take n), ⟨s.bs.drop n, false⟩) := by simp [RS.take, q]
    have q1 : s.wr = false := by cases hw : s.wr <;> simp_all
    have q2 : n ≤ s.bs.length := by omega
    have q3 : ¬ (s.bs.length : Int) < n := by omega
    have q4 : n ≤ cap := by omega
    rw [e] at h2
    have HR := hid_of h2
    have Q1 := hid_of q1
    have HCAP := hid_of hcap
    have HL := hid_of hl
    rw [q1] at c1
    by_cases q5 : cap = n
    · have q6 : s.bs.length = n := by omega
      have e0 : RdC w (.slice (some ⟨g, o, none⟩) 0 0) (s.bs.drop n) g := RdC.dropAll n q6.symm
      have HF := hid_of (HR.out (s.bs.take n) (.slice (some ⟨g, o, none⟩) n cap) (.slice (some ⟨g, o, none⟩) 0 0) rfl (by rw [List.length_take]; omega) (h.on q1 e0) ((RdC.take hcap hc n q2).kp (Kp.setCell (S := fun b => b = r) w _ _ rfl) h.ne))
      clear h h1 h2 e q hc
      subst q5
      rw [q6] at c0
      clear q2 q3 hcap hl hl'
      go_enter Tryz.func205, Tryz.ntmps205
      go_wp2_with fail
      exact HF.out
    · have e0 := RdC.drop (w := w) (g := g) (o := o) hcap hc n q2
      have HF := hid_of (HR.out (s.bs.take n) (.slice (some ⟨g, o, none⟩) n cap) _ rfl (by rw [List.length_take]; omega) (h.on q1 e0) ((RdC.take hcap hc n q2).kp (Kp.setCell (S := fun b => b = r) w _ _ rfl) h.ne))
      clear h h1 h2 e q hc
      go_enter Tryz.func205, Tryz.ntmps205
      go_wp2_with fail
      exact HF.out

set_option maxRecDepth 20000 in
set_option maxHeartbeats 1000000 in
theorem one_any (r : Nat) (s : RS) (v : Value) (g : Nat) (w : World) (h : RdrAt w r s v g) (hl : s.bs.length ≤ 1000000)
    (hR : ∀ w' v', RdrAt w' r s.one.2 v' g → Kp (fun b => b = r) w w' → R (.returned (.int .i64 (s.one.1 : Nat))) w') :
    Calls Tryz.prog 206 #[.pointer (some ⟨r, 0, none⟩)] w R := by
  have H := hid_of h
  have HL := hid_of hl
  have HR := hid_of hR
  clear h hl hR
  go_enter Tryz.func206, Tryz.ntmps206
  go_wp2_with (first
    | (go_at_call 205; refine take_any r s v g 1 w H.out (by omega) HL.out ?_ ?_)
    | fail)
  · intro e hr
    have HF := hid_of (HR.out _ v (by unfold RS.one; exact hr) (Kp.setCell w _ _ rfl))
    have e1 : s.one.1 = 0 := by simp [RS.one, e]
    rw [e1] at HF
    clear hr
    go_wp2_with fail
    exact HF.out
  · intro l v1 v2 e hlen hr hrd
    have HF := hid_of (HR.out _ v2 (by unfold RS.one; exact hr) (Kp.setCell w _ _ rfl))
    have e1 : s.one.1 = (l.getD 0 0).toNat := by simp [RS.one, e]
    rw [e1] at HF
    obtain ⟨o, cap, rfl, hcap, hc⟩ := hrd
    have hc0 := hc 0 (by omega)
    rw [hlen]
    generalize hx : l.getD 0 0 = x at HF hc0
    have hx2 := x.toNat_lt
    simp only [b8, Nat.add_zero] at hc0
    clear hr hc hx
    go_wp2_with fail
    exact HF.out

end

end Go.Proofs.YthbdpfccfcceiaaGreatDoor
