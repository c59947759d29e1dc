/-
  The document's answer: may a version go?
  The document's answer: which version goes first; its store with another list of versions.
-/
import Derived.Test.YthbdpfccfcceiaaGreatDoorG11R15
import Derived.BigQuiet
namespace Go.Proofs.YthbdpfccfcceiaaGreatDoor
open Go.RowKit

/-- A later version of its key is not behind the horizon. -/
def LaterY (s : YS) (v : YV) : Prop := ∃ y ∈ s.l, y.key = v.key ∧ v.t < y.t ∧ y.t ≤ s.hor
/-- It is the first of its key. -/
def FirstY (s : YS) (v : YV) : Prop := ∀ y ∈ s.l, y.key = v.key → ¬ y.t < v.t
def MayY (s : YS) (v : YV) : Prop := LaterY s v ∨ (v.gone = true ∧ v.t ≤ s.hor ∧ FirstY s v)

def NoLater (s : YS) (vk : ByteArray) (vt : Int) (i : Nat) : Prop := ∀ y ∈ s.l.take i, ¬ (y.key = vk ∧ vt < y.t ∧ y.t ≤ s.hor)
def FirstTo (s : YS) (vk : ByteArray) (vt : Int) (i : Nat) : Prop := ∀ y ∈ s.l.take i, y.key = vk → ¬ y.t < vt

theorem may_step {s : YS} {vk : ByteArray} {vt : Int} {i : Nat} (hi : i < s.l.length) {kk : ByteArray} {tt : Int} (hk : (s.l[i]).key = kk) (ht : (s.l[i]).t = tt) {fst fst' : Bool} (hf : fst = true ↔ FirstTo s vk vt i) (hn : NoLater s vk vt i)
    (h1 : fst' = true ↔ (fst = true ∧ (kk = vk → ¬ tt < vt))) (h2 : ¬ (kk = vk ∧ vt < tt ∧ tt ≤ s.hor)) : (fst' = true ↔ FirstTo s vk vt (i + 1)) ∧ NoLater s vk vt (i + 1) := by
  have e : s.l.take (i + 1) = s.l.take i ++ [s.l[i]] := List.take_succ_eq_append_getElem hi
  subst hk
  subst ht
  refine ⟨h1.trans ?_, ?_⟩
  · rw [hf]
    unfold FirstTo
    rw [e]
    constructor
    · rintro ⟨a, b⟩ y hy
      rcases List.mem_append.1 hy with h | h
      · exact a y h
      · have : y = s.l[i] := by simpa using h
        subst this; exact b
    · intro a
      exact ⟨fun y hy => a y (List.mem_append.2 (Or.inl hy)), a _ (List.mem_append.2 (Or.inr (by simp)))⟩
  · unfold NoLater
    rw [e]
    intro y hy
    rcases List.mem_append.1 hy with h | h
    · exact hn y h
    · have : y = s.l[i] := by simpa using h
      subst this; exact h2

theorem may_end {s : YS} {vk vs : ByteArray} {vt : Int} {vg : Bool} {fst : Bool} (hf : fst = true ↔ FirstTo s vk vt s.l.length) (hn : NoLater s vk vt s.l.length) : MayY s ⟨vk, vt, vg, vs⟩ ↔ (vg = true ∧ vt ≤ s.hor ∧ fst = true) := by
  unfold FirstTo at hf
  unfold NoLater at hn
  rw [List.take_length] at hf hn
  rw [hf]
  constructor
  · rintro (⟨y, hy, h1, h2, h3⟩ | ⟨h1, h2, h3⟩)
    · exact absurd ⟨h1, h2, h3⟩ (hn y hy)
    · exact ⟨h1, h2, h3⟩
  · rintro ⟨h1, h2, h3⟩
    exact Or.inr ⟨h1, h2, h3⟩

theorem key_eq {a b : ByteArray} (h : (a.toList == b.toList) = true) : a = b := WideShapes.bytes_inj (by rw [← Lib.toList_data, ← Lib.toList_data]; simpa using h)
theorem key_ne {a b : ByteArray} (h : (a.toList == b.toList) = false) : a ≠ b := fun e => by rw [e] at h; simp at h

theorem kdrew2 (w : World) (a b : Nat) : Kp (fun _ => False) w ((w.drewN a).drewN b) := (Kp.drewN _ _ _).trans (Kp.drewN (fun _ => False) _ _) (fun _ _ h => h)

section
variable {own own' : Nat → Lab} {c : Nat} {w w' : World} {p : Nat} {s : YS} {vL vT vG : Value} {sv lg : List Value}
variable {R : Ending → World → Prop}

def boxV (w : World) (v : YV) : World := w.alloc (.cells #[.string v.key, .int .i64 v.t, .bool v.gone, .string v.s] 193)

set_option maxRecDepth 20000 in
set_option maxHeartbeats 4000000 in
theorem y_may (h : YR own c w p s vL vT vG sv lg) (hl : s.l.length < 1000000) (vk vs : ByteArray) (vt : Int) (vg : Bool)
    (hR : ∀ b w', (b = true ↔ MayY s ⟨vk, vt, vg, vs⟩) → Kp (fun _ => False) w w' → R (.returned (.bool b)) w') :
    Calls Tryz.prog 162 #[.pointer (some ⟨p, 0, none⟩), .agg #[.string vk, .int .i64 vt, .bool vg, .string vs]] w R := by
  have H := hid_of h
  have HR := hid_of hR
  obtain ⟨al, cl, hvl, _⟩ := row_len h.rowL
  have HVV := hid_of hvl
  have k1 : Kp (fun _ => False) w (boxV w ⟨vk, vt, vg, vs⟩) := Kp.alloc _ _ _
  have hbox : (boxV w ⟨vk, vt, vg, vs⟩).heap[w.heap.size]? = some (.cells #[.string vk, .int .i64 vt, .bool vg, .string vs] 193 (0, 0)) := heap_alloc_new w _
  have hY1 := h.kept k1
  have HY1 := hid_of hY1
  have HBOX := hid_of hbox
  have HK1 := hid_of k1
  have hl' : (s.l.length : Int) < 1000000 := by omega
  have c0 : (boxV w ⟨vk, vt, vg, vs⟩).cell? ⟨p, 0, none⟩ = some (.slice al s.l.length cl) := (cell_of hY1.store 0).trans (by rw [hvl]; rfl)
  have c1 : (boxV w ⟨vk, vt, vg, vs⟩).cell? ⟨p, 1, none⟩ = some (.int .i64 s.hor) := cell_of hY1.store 1
  have C0 := hid_of c0
  have C1 := hid_of c1
  have LP : Hid (p < (boxV w ⟨vk, vt, vg, vs⟩).heap.size) := block_lt hY1.store
  clear h hR hvl k1 hbox hY1 c0 c1 hl
  go_enter Tryz.func162, Tryz.ntmps162
  go_wp2
  go_loopw [5, 6] (fun v5 v6 wr => ∃ (i : Nat) (fst : Bool), i ≤ s.l.length ∧ v5 = .bool fst ∧ v6 = .int .i64 i ∧ Kp (fun _ => False) (boxV w ⟨vk, vt, vg, vs⟩) wr ∧
    (fst = true ↔ FirstTo s vk vt i) ∧ NoLater s vk vt i) (fun _ v6 _ => s.l.length - (intOf v6).toNat)
  case atStart => exact ⟨0, true, Nat.zero_le _, rfl, rfl, Kp.refl _ _, ⟨fun _ y hy => by simp at hy, fun _ => rfl⟩, fun y hy => by simp at hy⟩
  case round =>
    obtain ⟨i, fst, hile, rfl, rfl, hkp, hfst, hno⟩ := hrel
    have HF := hid_of hfst
    have HNO := hid_of hno
    have HKP := hid_of hkp
    have d0 := (hkp.cell (a := ⟨p, 0, none⟩) LP.out (fun h => h)).trans C0.out
    have d1 := (hkp.cell (a := ⟨p, 1, none⟩) LP.out (fun h => h)).trans C1.out
    have hb2 := mbs hkp HBOX.out (fun h => h)
    have b0 : wr.cell? ⟨w.heap.size, 0, none⟩ = some (.string vk) := cell_of hb2 0
    have b1 : wr.cell? ⟨w.heap.size, 1, none⟩ = some (.int .i64 vt) := cell_of hb2 1
    have b2 : wr.cell? ⟨w.heap.size, 2, none⟩ = some (.bool vg) := cell_of hb2 2
    have HRW := hid_of (ownsRow_kp HY1.out.rowL hkp (fun _ _ h => h))
    clear hfst hno hkp hb2
    by_cases hin : i < s.l.length
    · have hin' : (i : Int) < s.l.length := by omega
      rcases vs_of HRW.out with ⟨_, h0⟩ | ⟨g, cap, hv⟩
      · rw [h0] at hin; simp at hin
      · have hval := hv.val
        rw [HVV.out] at hval
        injection hval with hal _ hcl
        subst hal
        have q0 := hv.c0 i hin
        have q1 := hv.c1 i hin
        have HIN := hid_of hin
        generalize hkk : (s.l[i]).key = kk at q0
        generalize htt : (s.l[i]).t = tt at q1
        have HKK := hid_of hkk
        have HTT := hid_of htt
        have next := fun (fst' : Bool) => may_step (fst := fst) (fst' := fst') (vk := vk) (vt := vt) hin hkk htt HF.out HNO.out
        have HNX := hid_of next
        clear hv hkk htt next hin hile
        cases he : (kk.toList == vk.toList)
        · have hne := key_ne he
          have HNE := hid_of hne
          clear hne
          go_wp2_with fail
          go_quiet (fail)
          go_wp2_with fail
          go_roundw
          case rel =>
            have hne := HNE.out
            have := HNX.out fst ⟨fun h => ⟨h, fun e => absurd e hne⟩, fun h => h.1⟩ (fun h => hne h.1)
            exact ⟨i + 1, fst, by have := HIN.out; omega, rfl, by go_num, HKP.out.trans (Kp.drewN (fun _ => False) _ _) (fun _ _ h => h), this.1, this.2⟩
          case measure => have := HIN.out; simp [intOf]; omega
        · have HEK := hid_of (key_eq he)
          by_cases h1 : vt < tt
          · by_cases h2 : tt ≤ s.hor
            · have HFF := hid_of (fun (w' : World) (k : Kp (fun _ => False) w w') => HR.out true w' ⟨fun _ => Or.inl ⟨s.l[i]'HIN.out, List.getElem_mem _, HKK.out.trans HEK.out, by have e2 : (s.l[i]'HIN.out).t = tt := HTT.out; show vt < _; omega, by have e2 : (s.l[i]'HIN.out).t = tt := HTT.out; omega⟩, fun _ => rfl⟩ k)
              go_wp2_with fail
              go_quiet (fail)
              go_wp2_with fail
              go_quiet (fail)
              go_wp2_with fail
              exact HFF.out _ ((HK1.out.trans HKP.out (fun _ _ h => h)).trans (kdrew2 _ _ _) (fun _ _ h => h))
            · have h3 : ¬ tt < vt := by omega
              have e1 : decide (vt < tt) = true := decide_eq_true h1
              have e2 : decide (tt ≤ s.hor) = false := decide_eq_false h2
              have e3 : decide (tt < vt) = false := decide_eq_false h3
              go_wp2_with fail
              go_quiet (fail)
              go_wp2_with fail
              go_quiet (fail)
              go_wp2_with fail
              go_quiet (fail)
              go_wp2_with fail
              go_roundw
              case rel =>
                have := HNX.out fst ⟨fun h => ⟨h, fun _ => by omega⟩, fun h => h.1⟩ (fun h => by have := h.2.2; omega)
                exact ⟨i + 1, fst, by have := HIN.out; omega, rfl, by go_num, HKP.out.trans (Kp.drewN (fun _ => False) _ _) (fun _ _ h => h), this.1, this.2⟩
              case measure => have := HIN.out; simp [intOf]; omega
          · have e1 : decide (vt < tt) = false := decide_eq_false h1
            by_cases h3 : tt < vt
            · have e3 : decide (tt < vt) = true := decide_eq_true h3
              go_wp2_with fail
              go_quiet (fail)
              go_wp2_with fail
              go_quiet (fail)
              go_wp2_with fail
              go_quiet (fail)
              go_wp2_with fail
              go_roundw
              case rel =>
                have := HNX.out false ⟨fun h => (by cases h), fun h => (by have := h.2 HEK.out; omega)⟩ (fun h => by have := h.2.1; omega)
                exact ⟨i + 1, false, by have := HIN.out; omega, rfl, by go_num, HKP.out.trans (Kp.drewN (fun _ => False) _ _) (fun _ _ h => h), this.1, this.2⟩
              case measure => have := HIN.out; simp [intOf]; omega
            · have e3 : decide (tt < vt) = false := decide_eq_false h3
              go_wp2_with fail
              go_quiet (fail)
              go_wp2_with fail
              go_quiet (fail)
              go_wp2_with fail
              go_quiet (fail)
              go_wp2_with fail
              go_roundw
              case rel =>
                have := HNX.out fst ⟨fun h => ⟨h, fun _ => by omega⟩, fun h => h.1⟩ (fun h => by have := h.2.1; omega)
                exact ⟨i + 1, fst, by have := HIN.out; omega, rfl, by go_num, HKP.out.trans (Kp.drewN (fun _ => False) _ _) (fun _ _ h => h), this.1, this.2⟩
              case measure => have := HIN.out; simp [intOf]; omega
    · have hie : i = s.l.length := by omega
      have hm := may_end (vs := vs) (vg := vg) (fst := fst) (by rw [← hie]; exact HF.out) (by rw [← hie]; exact HNO.out)
      have HM := hid_of hm
      have hnl : ¬ (i : Int) < s.l.length := by omega
      clear hm hie hin hile
      cases vg with
      | false =>
        have HFF := hid_of (fun (w' : World) (k : Kp (fun _ => False) w w') => HR.out false w' ⟨fun h => (by cases h), fun h => (by have := HM.out.1 h; cases this.1)⟩ k)
        go_wp2_with fail
        go_quiet (fail)
        go_wp2_with fail
        exact HFF.out _ ((HK1.out.trans HKP.out (fun _ _ h => h)).trans (Kp.drewN (fun _ => False) _ _) (fun _ _ h => h))
      | true =>
        by_cases h2 : vt ≤ s.hor
        · cases fst with
          | false =>
            have HFF := hid_of (fun (w' : World) (k : Kp (fun _ => False) w w') => HR.out false w' ⟨fun h => (by cases h), fun h => (by have := HM.out.1 h; cases this.2.2)⟩ k)
            go_wp2_with fail
            go_quiet (fail)
            go_wp2_with fail
            exact HFF.out _ ((HK1.out.trans HKP.out (fun _ _ h => h)).trans (Kp.drewN (fun _ => False) _ _) (fun _ _ h => h))
          | true =>
            have HFF := hid_of (fun (w' : World) (k : Kp (fun _ => False) w w') => HR.out true w' ⟨fun _ => HM.out.2 ⟨rfl, h2, rfl⟩, fun _ => rfl⟩ k)
            go_wp2_with fail
            go_quiet (fail)
            go_wp2_with fail
            exact HFF.out _ ((HK1.out.trans HKP.out (fun _ _ h => h)).trans (Kp.drewN (fun _ => False) _ _) (fun _ _ h => h))
        · have HFF := hid_of (fun (w' : World) (k : Kp (fun _ => False) w w') => HR.out false w' ⟨fun h => (by cases h), fun h => (by have := HM.out.1 h; exact absurd this.2.1 h2)⟩ k)
          have e2 : decide (vt ≤ s.hor) = false := decide_eq_false h2
          go_wp2_with fail
          go_quiet (fail)
          go_wp2_with fail
          exact HFF.out _ ((HK1.out.trans HKP.out (fun _ _ h => h)).trans (Kp.drewN (fun _ => False) _ _) (fun _ _ h => h))

end

end Go.Proofs.YthbdpfccfcceiaaGreatDoor

namespace Go.Proofs.YthbdpfccfcceiaaGreatDoor
open Go.RowKit

/-- Ahead of another version: by the key, then by the moment. -/
def ltV (a b : YV) : Prop := blt a.key b.key ∨ (a.key = b.key ∧ a.t < b.t)

theorem ltV_irrefl (a : YV) : ¬ ltV a a := fun h => by
  rcases h with h | h
  · exact blt_irrefl _ h
  · omega

theorem ltV_trans {a b c : YV} (h : ltV a b) (h' : ltV b c) : ltV a c := by
  rcases h with h | ⟨e, h⟩ <;> rcases h' with h' | ⟨e', h'⟩
  · exact Or.inl (blt_trans h h')
  · exact Or.inl (e' ▸ h)
  · exact Or.inl (e ▸ h')
  · exact Or.inr ⟨e.trans e', by omega⟩

structure BestV (s : YS) (k b : Nat) : Prop where
  lt : b < s.l.length
  ltk : b < k
  may : MayY s s.l[b]
  top : ∀ j (hj : j < s.l.length), j < k → MayY s s.l[j] → ¬ ltV s.l[j] s.l[b]

def NoneV (s : YS) (k : Nat) : Prop := ∀ j (hj : j < s.l.length), j < k → ¬ MayY s s.l[j]

section
variable {s : YS} {k b : Nat}

theorem NoneV.skip (h : NoneV s k) (hk : k < s.l.length) (hm : ¬ MayY s s.l[k]) : NoneV s (k + 1) := fun j hj hjk => by
  by_cases e : j = k
  · subst e; exact hm
  · exact h j hj (by omega)

theorem NoneV.new (h : NoneV s k) (hk : k < s.l.length) (hm : MayY s s.l[k]) : BestV s (k + 1) k :=
  ⟨hk, by omega, hm, fun j hj hjk hmj => by
    by_cases e : j = k
    · subst e; exact ltV_irrefl _
    · exact absurd hmj (h j hj (by omega))⟩

theorem BestV.skip (h : BestV s k b) (hk : k < s.l.length) (hm : ¬ MayY s s.l[k]) : BestV s (k + 1) b :=
  ⟨h.lt, Nat.lt_succ_of_lt h.ltk, h.may, fun j hj hjk hmj => by
    by_cases e : j = k
    · subst e; exact absurd hmj hm
    · exact h.top j hj (by omega) hmj⟩

theorem BestV.keep (h : BestV s k b) (hk : k < s.l.length) (hb : b < s.l.length) (hn : ¬ ltV s.l[k] s.l[b]) : BestV s (k + 1) b :=
  ⟨h.lt, Nat.lt_succ_of_lt h.ltk, h.may, fun j hj hjk hmj => by
    by_cases e : j = k
    · subst e; exact hn
    · exact h.top j hj (by omega) hmj⟩

theorem BestV.new (h : BestV s k b) (hk : k < s.l.length) (hb : b < s.l.length) (hm : MayY s s.l[k]) (hl : ltV s.l[k] s.l[b]) : BestV s (k + 1) k :=
  ⟨hk, by omega, hm, fun j hj hjk hmj => by
    by_cases e : j = k
    · subst e; exact ltV_irrefl _
    · exact fun h2 => h.top j hj (by omega) hmj (ltV_trans h2 hl)⟩

end

/-- So many versions have gone, each the first of those that may. -/
def VacY : Nat → YS → YS → Prop
  | 0, s, s' => s' = s
  | n + 1, s, s' => ∃ s1 b, VacY n s s1 ∧ BestV s1 s1.l.length b ∧ s' = { s1 with l := s1.l.eraseIdx b }

theorem VacY.none (s : YS) : VacY 0 s s := rfl
theorem VacY.more {n : Nat} {s s' : YS} {b : Nat} (h : VacY n s s') (hb : BestV s' s'.l.length b) : VacY (n + 1) s { s' with l := s'.l.eraseIdx b } := ⟨s', b, h, hb, rfl⟩

section
variable {own own' : Nat → Lab} {c : Nat} {w w' : World} {p : Nat} {s : YS} {vL vT vG : Value} {sv lg : List Value}

theorem YR.newVers (h : YR own c w p s vL vT vG sv lg) {w3 : World} {v' : Value} (hk : Kp (fun _ => False) w w3) (l' : List YV) (hrow : w3.ownsRow 0 193 4 v' l'.length (cellsV l')) (hloc : ∀ b, v'.ownBlock = some b → w.heap.size ≤ b) :
    YR (fun b => if v'.ownBlock = some b then ⟨c, 1, 0, eb⟩ else own b) c (w3.setCell ⟨p, 0, none⟩ v') p { s with l := l' } v' vT vG sv lg ∧
    (∀ b, b < w.heap.size → (fun b => if v'.ownBlock = some b then (⟨c, 1, 0, eb⟩ : Lab) else own b) b = own b) := by
  have hout : ∀ b, b < w.heap.size → (fun b => if v'.ownBlock = some b then (⟨c, 1, 0, eb⟩ : Lab) else own b) b = own b := fun b hb => by
    by_cases e : v'.ownBlock = some b
    · have := hloc b e; omega
    · simp [e]
  have lp := block_lt h.store
  have old : ∀ b, b < w.heap.size → b ≠ p → (w3.setCell ⟨p, 0, none⟩ v').heap[b]? = w.heap[b]? := fun b hb h2 => by
    rw [Below.heap_setCell w3 _ _ b h2]; exact hk.block b hb (fun e => e)
  refine ⟨⟨(hout p lp).trans h.ownP, ?_, ?_, ?_, h.len, ?_, ?_, ?_, ?_, ?_, ?_⟩, hout⟩
  · rw [heap_setCell_at ((hk.block p lp (fun e => e)).trans h.store)]; rfl
  · exact ownsRow_block hrow (fun b e => Below.heap_setCell w3 _ _ b (fun e2 => by have h1 := hloc b e; have e3 : b = p := e2; omega))
  · intro b e; simp [e]
  · exact ownsRow_block h.rowT (fun b e => old b (h.rowT.lt b e).2 (lab_ne2 (own := own) (by rw [h.ownT b e, h.ownP]; simp)))
  · exact fun b e => (hout b (h.rowT.lt b e).2).trans (h.ownT b e)
  · exact fun i hi hj => ownsRow_block (h.rowX i hi hj) (fun b e => old b ((h.rowX i hi hj).lt b e).2 (lab_ne2 (own := own) (by rw [h.ownX i hj b e, h.ownP]; simp)))
  · exact fun i hj b e => (hout b ((h.rowX i (h.len ▸ hj) hj).lt b e).2).trans (h.ownX i hj b e)
  · exact ownsRow_block h.rowG (fun b e => old b (h.rowG.lt b e).2 (lab_ne2 (own := own) (by rw [h.ownG b e, h.ownP]; simp)))
  · exact fun b e => (hout b (h.rowG.lt b e).2).trans (h.ownG b e)

end

end Go.Proofs.YthbdpfccfcceiaaGreatDoor
