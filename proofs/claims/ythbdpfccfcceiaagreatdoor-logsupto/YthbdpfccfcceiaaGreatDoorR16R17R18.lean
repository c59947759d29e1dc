/-
  The document's answer: may a version go?
  The document's answer: which version goes first; its store with another list of versions.
  The document's answer: Vacuum.
-/
import Derived.Test.YthbdpfccfcceiaaGreatDoorG12R15
import Derived.BigQuiet
namespace Go.Proofs.YthbdpfccfcceiaaGreatDoor
open Go.RowKit

/-- A later version of its key is not behind the horizon. -/
def LaterY (s : YS) (v : YV) : Prop := ∃ y ∈ s.l, y.key = v.key ∧ v.t < y.t ∧ y.t ≤ s.hor
/-- It is the first of its key. -/
def FirstY (s : YS) (v : YV) : Prop := ∀ y ∈ s.l, y.key = v.key → ¬ y.t < v.t
def MayY (s : YS) (v : YV) : Prop := LaterY s v ∨ (v.gone = true ∧ v.t ≤ s.hor ∧ FirstY s v)

def NoLater (s : YS) (vk : ByteArray) (vt : Int) (i : Nat) : Prop := ∀ y ∈ s.l.take i, ¬ (y.key = vk ∧ vt < y.t ∧ y.t ≤ s.hor)
def FirstTo (s : YS) (vk : ByteArray) (vt : Int) (i : Nat) : Prop := ∀ y ∈ s.l.take i, y.key = vk → ¬ y.t < vt

theorem may_step {s : YS} {vk : ByteArray} {vt : Int} {i : Nat} (hi : i < s.l.length) {kk : ByteArray} {tt : Int} (hk : (s.l[i]).key = kk) (ht : (s.l[i]).t = tt) {fst fst' : Bool} (hf : fst = true ↔ FirstTo s vk vt i) (hn : NoLater s vk vt i)
    (h1 : fst' = true ↔ (fst = true ∧ (kk = vk → ¬ tt < vt))) (h2 : ¬ (kk = vk ∧ vt < tt ∧ tt ≤ s.hor)) : (fst' = true ↔ FirstTo s vk vt (i + 1)) ∧ NoLater s vk vt (i + 1) := by
  have e : s.l.take (i + 1) = s.l.take i ++ [s.l[i]] := List.take_succ_eq_append_getElem hi
  subst hk
  subst ht
  refine ⟨h1.trans ?_, ?_⟩
  · rw [hf]
    unfold FirstTo
    rw [e]
    constructor
    · rintro ⟨a, b⟩ y hy
      rcases List.mem_append.1 hy with h | h
      · exact a y h
      · have : y = s.l[i] := by simpa using h
        subst this; exact b
    · intro a
      exact ⟨fun y hy => a y (List.mem_append.2 (Or.inl hy)), a _ (List.mem_append.2 (Or.inr (by simp)))⟩
  · unfold NoLater
    rw [e]
    intro y hy
    rcases List.mem_append.1 hy with h | h
    · exact hn y h
    · have : y = s.l[i] := by simpa using h
      subst this; exact h2

theorem may_end {s : YS} {vk vs : ByteArray} {vt : Int} {vg : Bool} {fst : Bool} (hf : fst = true ↔ FirstTo s vk vt s.l.length) (hn : NoLater s vk vt s.l.length) : MayY s ⟨vk, vt, vg, vs⟩ ↔ (vg = true ∧ vt ≤ s.hor ∧ fst = true) := by
  unfold FirstTo at hf
  unfold NoLater at hn
  rw [List.take_length] at hf hn
  rw [hf]
  constructor
  · rintro (⟨y, hy, h1, h2, h3⟩ | ⟨h1, h2, h3⟩)
    · exact absurd ⟨h1, h2, h3⟩ (hn y hy)
    · exact ⟨h1, h2, h3⟩
  · rintro ⟨h1, h2, h3⟩
    exact Or.inr ⟨h1, h2, h3⟩

theorem key_eq {a b : ByteArray} (h : (a.toList == b.toList) = true) : a = b := WideShapes.bytes_inj (by rw [← Lib.toList_data, ← Lib.toList_data]; simpa using h)
theorem key_ne {a b : ByteArray} (h : (a.toList == b.toList) = false) : a ≠ b := fun e => by rw [e] at h; simp at h

theorem kdrew2 (w : World) (a b : Nat) : Kp (fun _ => False) w ((w.drewN a).drewN b) := (Kp.drewN _ _ _).trans (Kp.drewN (fun _ => False) _ _) (fun _ _ h => h)

section
variable {own own' : Nat → Lab} {c : Nat} {w w' : World} {p : Nat} {s : YS} {vL vT vG : Value} {sv lg : List Value}
variable {R : Ending → World → Prop}

def boxV (w : World) (v : YV) : World := w.alloc (.cells #[.string v.key, .int .i64 v.t, .bool v.gone, .string v.s] 193)

set_option maxRecDepth 20000 in
set_option maxHeartbeats 4000000 in
theorem y_may (h : YR own c w p s vL vT vG sv lg) (hl : s.l.length < 1000000) (vk vs : ByteArray) (vt : Int) (vg : Bool)
    (hR : ∀ b w', (b = true ↔ MayY s ⟨vk, vt, vg, vs⟩) → Kp (fun _ => False) w w' → R (.returned (.bool b)) w') :
    Calls Tryz.prog 162 #[.pointer (some ⟨p, 0, none⟩), .agg #[.string vk, .int .i64 vt, .bool vg, .string vs]] w R := by
  have H := hid_of h
  have HR := hid_of hR
  obtain ⟨al, cl, hvl, _⟩ := row_len h.rowL
  have HVV := hid_of hvl
  have k1 : Kp (fun _ => False) w (boxV w ⟨vk, vt, vg, vs⟩) := Kp.alloc _ _ _
  have hbox : (boxV w ⟨vk, vt, vg, vs⟩).heap[w.heap.size]? = some (.cells #[.string vk, .int .i64 vt, .bool vg, .string vs] 193 (0, 0)) := heap_alloc_new w _
  have hY1 := h.kept k1
  have HY1 := hid_of hY1
  have HBOX := hid_of hbox
  have HK1 := hid_of k1
  have hl' : (s.l.length : Int) < 1000000 := by omega
  have c0 : (boxV w ⟨vk, vt, vg, vs⟩).cell? ⟨p, 0, none⟩ = some (.slice al s.l.length cl) := (cell_of hY1.store 0).trans (by rw [hvl]; rfl)
  have c1 : (boxV w ⟨vk, vt, vg, vs⟩).cell? ⟨p, 1, none⟩ = some (.int .i64 s.hor) := cell_of hY1.store 1
  have C0 := hid_of c0
  have C1 := hid_of c1
  have LP : Hid (p < (boxV w ⟨vk, vt, vg, vs⟩).heap.size) := block_lt hY1.store
  clear h hR hvl k1 hbox hY1 c0 c1 hl
  go_enter Tryz.func162, Tryz.ntmps162
  go_wp2
  go_loopw [5, 6] (fun v5 v6 wr => ∃ (i : Nat) (fst : Bool), i ≤ s.l.length ∧ v5 = .bool fst ∧ v6 = .int .i64 i ∧ Kp (fun _ => False) (boxV w ⟨vk, vt, vg, vs⟩) wr ∧
    (fst = true ↔ FirstTo s vk vt i) ∧ NoLater s vk vt i) (fun _ v6 _ => s.l.length - (intOf v6).toNat)
  case atStart => exact ⟨0, true, Nat.zero_le _, rfl, rfl, Kp.refl _ _, ⟨fun _ y hy => by simp at hy, fun _ => rfl⟩, fun y hy => by simp at hy⟩
  case round =>
    obtain ⟨i, fst, hile, rfl, rfl, hkp, hfst, hno⟩ := hrel
    have HF := hid_of hfst
    have HNO := hid_of hno
    have HKP := hid_of hkp
    have d0 := (hkp.cell (a := ⟨p, 0, none⟩) LP.out (fun h => h)).trans C0.out
    have d1 := (hkp.cell (a := ⟨p, 1, none⟩) LP.out (fun h => h)).trans C1.out
    have hb2 := mbs hkp HBOX.out (fun h => h)
    have b0 : wr.cell? ⟨w.heap.size, 0, none⟩ = some (.string vk) := cell_of hb2 0
    have b1 : wr.cell? ⟨w.heap.size, 1, none⟩ = some (.int .i64 vt) := cell_of hb2 1
    have b2 : wr.cell? ⟨w.heap.size, 2, none⟩ = some (.bool vg) := cell_of hb2 2
    have HRW := hid_of (ownsRow_kp HY1.out.rowL hkp (fun _ _ h => h))
    clear hfst hno hkp hb2
    by_cases hin : i < s.l.length
    · have hin' : (i : Int) < s.l.length := by omega
      rcases vs_of HRW.out with ⟨_, h0⟩ | ⟨g, cap, hv⟩
      · rw [h0] at hin; simp at hin
      · have hval := hv.val
        rw [HVV.out] at hval
        injection hval with hal _ hcl
        subst hal
        have q0 := hv.c0 i hin
        have q1 := hv.c1 i hin
        have HIN := hid_of hin
        generalize hkk : (s.l[i]).key = kk at q0
        generalize htt : (s.l[i]).t = tt at q1
        have HKK := hid_of hkk
        have HTT := hid_of htt
        have next := fun (fst' : Bool) => may_step (fst := fst) (fst' := fst') (vk := vk) (vt := vt) hin hkk htt HF.out HNO.out
        have HNX := hid_of next
        clear hv hkk htt next hin hile
        cases he : (kk.toList == vk.toList)
        · have hne := key_ne he
          have HNE := hid_of hne
          clear hne
          go_wp2_with fail
          go_quiet (fail)
          go_wp2_with fail
          go_roundw
          case rel =>
            have hne := HNE.out
            have := HNX.out fst ⟨fun h => ⟨h, fun e => absurd e hne⟩, fun h => h.1⟩ (fun h => hne h.1)
            exact ⟨i + 1, fst, by have := HIN.out; omega, rfl, by go_num, HKP.out.trans (Kp.drewN (fun _ => False) _ _) (fun _ _ h => h), this.1, this.2⟩
          case measure => have := HIN.out; simp [intOf]; omega
        · have HEK := hid_of (key_eq he)
          by_cases h1 : vt < tt
          · by_cases h2 : tt ≤ s.hor
            · have HFF := hid_of (fun (w' : World) (k : Kp (fun _ => False) w w') => HR.out true w' ⟨fun _ => Or.inl ⟨s.l[i]'HIN.out, List.getElem_mem _, HKK.out.trans HEK.out, by have e2 : (s.l[i]'HIN.out).t = tt := HTT.out; show vt < _; omega, by have e2 : (s.l[i]'HIN.out).t = tt := HTT.out; omega⟩, fun _ => rfl⟩ k)
              go_wp2_with fail
              go_quiet (fail)
              go_wp2_with fail
              go_quiet (fail)
              go_wp2_with fail
              exact HFF.out _ ((HK1.out.trans HKP.out (fun _ _ h => h)).trans (kdrew2 _ _ _) (fun _ _ h => h))
            · have h3 : ¬ tt < vt := by omega
              have e1 : decide (vt < tt) = true := decide_eq_true h1
              have e2 : decide (tt ≤ s.hor) = false := decide_eq_false h2
              have e3 : decide (tt < vt) = false := decide_eq_false h3
              go_wp2_with fail
              go_quiet (fail)
              go_wp2_with fail
              go_quiet (fail)
              go_wp2_with fail
              go_quiet (fail)
              go_wp2_with fail
              go_roundw
              case rel =>
                have := HNX.out fst ⟨fun h => ⟨h, fun _ => by omega⟩, fun h => h.1⟩ (fun h => by have := h.2.2; omega)
                exact ⟨i + 1, fst, by have := HIN.out; omega, rfl, by go_num, HKP.out.trans (Kp.drewN (fun _ => False) _ _) (fun _ _ h => h), this.1, this.2⟩
              case measure => have := HIN.out; simp [intOf]; omega
          · have e1 : decide (vt < tt) = false := decide_eq_false h1
            by_cases h3 : tt < vt
            · have e3 : decide (tt < vt) = true := decide_eq_true h3
              go_wp2_with fail
              go_quiet (fail)
              go_wp2_with fail
              go_quiet (fail)
              go_wp2_with fail
              go_quiet (fail)
              go_wp2_with fail
              go_roundw
              case rel =>
                have := HNX.out false ⟨fun h => (by cases h), fun h => (by have := h.2 HEK.out; omega)⟩ (fun h => by have := h.2.1; omega)
                exact ⟨i + 1, false, by have := HIN.out; omega, rfl, by go_num, HKP.out.trans (Kp.drewN (fun _ => False) _ _) (fun _ _ h => h), this.1, this.2⟩
              case measure => have := HIN.out; simp [intOf]; omega
            · have e3 : decide (tt < vt) = false := decide_eq_false h3
              go_wp2_with fail
              go_quiet (fail)
              go_wp2_with fail
              go_quiet (fail)
              go_wp2_with fail
              go_quiet (fail)
              go_wp2_with fail
              go_roundw
              case rel =>
                have := HNX.out fst ⟨fun h => ⟨h, fun _ => by omega⟩, fun h => h.1⟩ (fun h => by have := h.2.1; omega)
                exact ⟨i + 1, fst, by have := HIN.out; omega, rfl, by go_num, HKP.out.trans (Kp.drewN (fun _ => False) _ _) (fun _ _ h => h), this.1, this.2⟩
              case measure => have := HIN.out; simp [intOf]; omega
    · have hie : i = s.l.length := by omega
      have hm := may_end (vs := vs) (vg := vg) (fst := fst) (by rw [← hie]; exact HF.out) (by rw [← hie]; exact HNO.out)
      have HM := hid_of hm
      have hnl : ¬ (i : Int) < s.l.length := by omega
      clear hm hie hin hile
      cases vg with
      | false =>
        have HFF := hid_of (fun (w' : World) (k : Kp (fun _ => False) w w') => HR.out false w' ⟨fun h => (by cases h), fun h => (by have := HM.out.1 h; cases this.1)⟩ k)
        go_wp2_with fail
        go_quiet (fail)
        go_wp2_with fail
        exact HFF.out _ ((HK1.out.trans HKP.out (fun _ _ h => h)).trans (Kp.drewN (fun _ => False) _ _) (fun _ _ h => h))
      | true =>
        by_cases h2 : vt ≤ s.hor
        · cases fst with
          | false =>
            have HFF := hid_of (fun (w' : World) (k : Kp (fun _ => False) w w') => HR.out false w' ⟨fun h => (by cases h), fun h => (by have := HM.out.1 h; cases this.2.2)⟩ k)
            go_wp2_with fail
            go_quiet (fail)
            go_wp2_with fail
            exact HFF.out _ ((HK1.out.trans HKP.out (fun _ _ h => h)).trans (Kp.drewN (fun _ => False) _ _) (fun _ _ h => h))
          | true =>
            have HFF := hid_of (fun (w' : World) (k : Kp (fun _ => False) w w') => HR.out true w' ⟨fun _ => HM.out.2 ⟨rfl, h2, rfl⟩, fun _ => rfl⟩ k)
            go_wp2_with fail
            go_quiet (fail)
            go_wp2_with fail
            exact HFF.out _ ((HK1.out.trans HKP.out (fun _ _ h => h)).trans (Kp.drewN (fun _ => False) _ _) (fun _ _ h => h))
        · have HFF := hid_of (fun (w' : World) (k : Kp (fun _ => False) w w') => HR.out false w' ⟨fun h => (by cases h), fun h => (by have := HM.out.1 h; exact absurd this.2.1 h2)⟩ k)
          have e2 : decide (vt ≤ s.hor) = false := decide_eq_false h2
          go_wp2_with fail
          go_quiet (fail)
          go_wp2_with fail
          exact HFF.out _ ((HK1.out.trans HKP.out (fun _ _ h => h)).trans (Kp.drewN (fun _ => False) _ _) (fun _ _ h => h))

end

end Go.Proofs.YthbdpfccfcceiaaGreatDoor

namespace Go.Proofs.YthbdpfccfcceiaaGreatDoor
open Go.RowKit

/-- Ahead of another version: by the key, then by the moment. -/
def ltV (a b : YV) : Prop := blt a.key b.key ∨ (a.key = b.key ∧ a.t < b.t)

theorem ltV_irrefl (a : YV) : ¬ ltV a a := fun h => by
  rcases h with h | h
  · exact blt_irrefl _ h
  · omega

theorem ltV_trans {a b c : YV} (h : ltV a b) (h' : ltV b c) : ltV a c := by
  rcases h with h | ⟨e, h⟩ <;> rcases h' with h' | ⟨e', h'⟩
  · exact Or.inl (blt_trans h h')
  · exact Or.inl (e' ▸ h)
  · exact Or.inl (e ▸ h')
  · exact Or.inr ⟨e.trans e', by omega⟩

structure BestV (s : YS) (k b : Nat) : Prop where
  lt : b < s.l.length
  ltk : b < k
  may : MayY s s.l[b]
  top : ∀ j (hj : j < s.l.length), j < k → MayY s s.l[j] → ¬ ltV s.l[j] s.l[b]

def NoneV (s : YS) (k : Nat) : Prop := ∀ j (hj : j < s.l.length), j < k → ¬ MayY s s.l[j]

section
variable {s : YS} {k b : Nat}

theorem NoneV.skip (h : NoneV s k) (hk : k < s.l.length) (hm : ¬ MayY s s.l[k]) : NoneV s (k + 1) := fun j hj hjk => by
  by_cases e : j = k
  · subst e; exact hm
  · exact h j hj (by omega)

theorem NoneV.new (h : NoneV s k) (hk : k < s.l.length) (hm : MayY s s.l[k]) : BestV s (k + 1) k :=
  ⟨hk, by omega, hm, fun j hj hjk hmj => by
    by_cases e : j = k
    · subst e; exact ltV_irrefl _
    · exact absurd hmj (h j hj (by omega))⟩

theorem BestV.skip (h : BestV s k b) (hk : k < s.l.length) (hm : ¬ MayY s s.l[k]) : BestV s (k + 1) b :=
  ⟨h.lt, Nat.lt_succ_of_lt h.ltk, h.may, fun j hj hjk hmj => by
    by_cases e : j = k
    · subst e; exact absurd hmj hm
    · exact h.top j hj (by omega) hmj⟩

theorem BestV.keep (h : BestV s k b) (hk : k < s.l.length) (hb : b < s.l.length) (hn : ¬ ltV s.l[k] s.l[b]) : BestV s (k + 1) b :=
  ⟨h.lt, Nat.lt_succ_of_lt h.ltk, h.may, fun j hj hjk hmj => by
    by_cases e : j = k
    · subst e; exact hn
    · exact h.top j hj (by omega) hmj⟩

theorem BestV.new (h : BestV s k b) (hk : k < s.l.length) (hb : b < s.l.length) (hm : MayY s s.l[k]) (hl : ltV s.l[k] s.l[b]) : BestV s (k + 1) k :=
  ⟨hk, by omega, hm, fun j hj hjk hmj => by
    by_cases e : j = k
    · subst e; exact ltV_irrefl _
    · exact fun h2 => h.top j hj (by omega) hmj (ltV_trans h2 hl)⟩

end

/-- So many versions have gone, each the first of those that may. -/
def VacY : Nat → YS → YS → Prop
  | 0, s, s' => s' = s
  | n + 1, s, s' => ∃ s1 b, VacY n s s1 ∧ BestV s1 s1.l.length b ∧ s' = { s1 with l := s1.l.eraseIdx b }

theorem VacY.none (s : YS) : VacY 0 s s := rfl
theorem VacY.same : ∀ {n : Nat} {s s' : YS}, VacY n s s' → s'.lg = s.lg ∧ s'.syn = s.syn
  | 0, _, _, h => by rw [show _ = _ from h]; exact ⟨rfl, rfl⟩
  | _ + 1, _, _, ⟨_, _, h, _, e⟩ => by rw [e]; exact ⟨(VacY.same h).1, (VacY.same h).2⟩
theorem VacY.more {n : Nat} {s s' : YS} {b : Nat} (h : VacY n s s') (hb : BestV s' s'.l.length b) : VacY (n + 1) s { s' with l := s'.l.eraseIdx b } := ⟨s', b, h, hb, rfl⟩

section
variable {own own' : Nat → Lab} {c : Nat} {w w' : World} {p : Nat} {s : YS} {vL vT vG : Value} {sv lg : List Value}

theorem YR.newVers (h : YR own c w p s vL vT vG sv lg) {w3 : World} {v' : Value} (hk : Kp (fun _ => False) w w3) (l' : List YV) (hrow : w3.ownsRow 0 193 4 v' l'.length (cellsV l')) (hloc : ∀ b, v'.ownBlock = some b → w.heap.size ≤ b) :
    YR (fun b => if v'.ownBlock = some b then ⟨c, 1, 0, eb⟩ else own b) c (w3.setCell ⟨p, 0, none⟩ v') p { s with l := l' } v' vT vG sv lg ∧
    (∀ b, b < w.heap.size → (fun b => if v'.ownBlock = some b then (⟨c, 1, 0, eb⟩ : Lab) else own b) b = own b) := by
  have hout : ∀ b, b < w.heap.size → (fun b => if v'.ownBlock = some b then (⟨c, 1, 0, eb⟩ : Lab) else own b) b = own b := fun b hb => by
    by_cases e : v'.ownBlock = some b
    · have := hloc b e; omega
    · simp [e]
  have lp := block_lt h.store
  have old : ∀ b, b < w.heap.size → b ≠ p → (w3.setCell ⟨p, 0, none⟩ v').heap[b]? = w.heap[b]? := fun b hb h2 => by
    rw [Below.heap_setCell w3 _ _ b h2]; exact hk.block b hb (fun e => e)
  refine ⟨⟨(hout p lp).trans h.ownP, ?_, ?_, ?_, h.len, ?_, ?_, ?_, ?_, ?_, ?_⟩, hout⟩
  · rw [heap_setCell_at ((hk.block p lp (fun e => e)).trans h.store)]; rfl
  · exact ownsRow_block hrow (fun b e => Below.heap_setCell w3 _ _ b (fun e2 => by have h1 := hloc b e; have e3 : b = p := e2; omega))
  · intro b e; simp [e]
  · exact ownsRow_block h.rowT (fun b e => old b (h.rowT.lt b e).2 (lab_ne2 (own := own) (by rw [h.ownT b e, h.ownP]; simp)))
  · exact fun b e => (hout b (h.rowT.lt b e).2).trans (h.ownT b e)
  · exact fun i hi hj => ownsRow_block (h.rowX i hi hj) (fun b e => old b ((h.rowX i hi hj).lt b e).2 (lab_ne2 (own := own) (by rw [h.ownX i hj b e, h.ownP]; simp)))
  · exact fun i hj b e => (hout b ((h.rowX i (h.len ▸ hj) hj).lt b e).2).trans (h.ownX i hj b e)
  · exact ownsRow_block h.rowG (fun b e => old b (h.rowG.lt b e).2 (lab_ne2 (own := own) (by rw [h.ownG b e, h.ownP]; simp)))
  · exact fun b e => (hout b (h.rowG.lt b e).2).trans (h.ownG b e)

end

end Go.Proofs.YthbdpfccfcceiaaGreatDoor

namespace Go.Proofs.YthbdpfccfcceiaaGreatDoor
open Go.RowKit

section
variable {own own' : Nat → Lab} {c : Nat} {w w' : World} {p : Nat} {s : YS} {vL vT vG : Value} {sv lg : List Value}
variable {R : Ending → World → Prop}

theorem cellsV_app (a b : List YV) : cellsV (a ++ b) = cellsV a ++ cellsV b := by simp [cellsV]

theorem cellsV_take (l : List YV) (b : Nat) (hb : b ≤ l.length) : cellsV (l.take b) = (cellsV l).take (b * 4) := by
  have h := cellsV_app (l.take b) (l.drop b)
  rw [List.take_append_drop] at h
  have hlen : (cellsV (l.take b)).length = b * 4 := by rw [cellsV_len, List.length_take, Nat.min_eq_left hb]
  rw [h, ← hlen, List.take_left]

theorem cellsV_drop (l : List YV) (b : Nat) (hb : b ≤ l.length) : cellsV (l.drop b) = (cellsV l).drop (b * 4) := by
  have h := cellsV_app (l.take b) (l.drop b)
  rw [List.take_append_drop] at h
  have hlen : (cellsV (l.take b)).length = b * 4 := by rw [cellsV_len, List.length_take, Nat.min_eq_left hb]
  rw [h, ← hlen, List.drop_left]

theorem take_cells {w : World} {g b : Nat} {l : List YV} (hb : b ≤ l.length) (h : ∀ j u, (cellsV l)[j]? = some u → w.cell? ((⟨g, 0, none⟩ : Addr).add j) = some u) : ∀ j u, (cellsV (l.take b))[j]? = some u → w.cell? ((⟨g, 0, none⟩ : Addr).add j) = some u := fun j u hu => by
  rw [cellsV_take l b hb, List.getElem?_take] at hu
  split at hu
  · exact h j u hu
  · cases hu

theorem drop_cells {w : World} {g b : Nat} {l : List YV} (hb : b ≤ l.length) (h : ∀ j u, (cellsV l)[j]? = some u → w.cell? ((⟨g, 0, none⟩ : Addr).add j) = some u) : ∀ j u, (cellsV (l.drop b))[j]? = some u → w.cell? ((⟨g, b * 4, none⟩ : Addr).add j) = some u := fun j u hu => by
  rw [cellsV_drop l b hb, List.getElem?_drop] at hu
  have := h _ u hu
  rw [WideShapes.add_plain] at this ⊢
  rw [Nat.zero_add] at this
  exact this

theorem kpF2 {S : Nat → Prop} {w1 w2 : World} (k : Kp (fun _ => False) w1 w2) : Kp S w1 w2 := k.mono (fun _ _ h => h.elim)

/-- How it stands between two that go. -/
def VacAt (own : Nat → Lab) (c : Nat) (w : World) (p : Nat) (s : YS) (vT vG : Value) (sv lg : List Value) (n : Nat) (wr : World) : Prop :=
  ∃ own' s' vL', VacY n s s' ∧ YR own' c wr p s' vL' vT vG sv lg ∧ Kp (fun b => (own b).c = c) w wr ∧ (∀ b, b < w.heap.size → own' b = own b) ∧ s'.l.length ≤ s.l.length

set_option maxRecDepth 20000 in
set_option maxHeartbeats 8000000 in
theorem y_vacuum (h : YR own c w p s vL vT vG sv lg) (hl : s.l.length < 1000000) (most : Int) (hmo : most ≤ 9223372036854775807)
    (hR : ∀ (n : Nat) w' own' s' vL', VacY n s s' → ((n : Int) ≤ most ∨ n = 0) → ((n : Int) < most → NoneV s' s'.l.length) → Kp (fun b => (own b).c = c) w w' → (∀ b, b < w.heap.size → own' b = own b) → YR own' c w' p s' vL' vT vG sv lg → R (.returned (.int .i64 n)) w') :
    Calls Tryz.prog 111 #[.pointer (some ⟨p, 0, none⟩), .int .i64 most] w R := by
  have H := hid_of h
  have HR := hid_of hR
  have HL := hid_of hl
  obtain ⟨iV, hV⟩ := info_parts infoVer
  have HIV := hid_of hV
  clear h hR hl hV
  go_enter Tryz.func111, Tryz.ntmps111
  go_wp2
  go_loopw [5] (fun v5 wr => ∃ n : Nat, v5 = .int .i64 n ∧ ((n : Int) ≤ most ∨ n = 0) ∧ VacAt own c w p s vT vG sv lg n wr) (fun v5 _ => (most - intOf v5).toNat)
  case atStart => exact ⟨0, rfl, Or.inr rfl, own, s, vL, VacY.none s, H.out, Kp.refl _ _, fun _ _ => rfl, Nat.le_refl _⟩
  case round =>
    obtain ⟨n, rfl, hnm, own1, s1, vL1, hvac, hY, hkw, hag, hlen⟩ := hrel
    have HNM := hid_of hnm
    have HVA := hid_of hvac
    have HKW := hid_of hkw
    have HAG := hid_of hag
    have HLE := hid_of hlen
    have HY := hid_of hY
    by_cases hlt : (n : Int) < most
    · obtain ⟨al, cl, hvl, hcl⟩ := row_len hY.rowL
      have c0 : wr.cell? ⟨p, 0, none⟩ = some (.slice al s1.l.length cl) := (cell_of hY.store 0).trans (by rw [hvl]; rfl)
      have C0 := hid_of c0
      have HVL := hid_of hvl
      have hl1 : (s1.l.length : Int) < 1000000 := by have := HL.out; omega
      have LP : Hid (p < wr.heap.size) := block_lt hY.store
      have HLT := hid_of hlt
      have hn63 : (n : Int) < 9223372036854775807 := by omega
      clear hvac hkw hag hlen hY hnm hvl hmo
      go_wp2
      go_loopw [6, 7] (fun v6 v7 wq => ∃ i : Nat, i ≤ s1.l.length ∧ v7 = .int .i64 i ∧ Kp (fun _ => False) wr wq ∧ ((v6 = .int .i64 (-1) ∧ NoneV s1 i) ∨ ∃ b : Nat, v6 = .int .i64 b ∧ BestV s1 i b)) (fun _ v7 _ => s1.l.length - (intOf v7).toNat)
      case atStart => exact ⟨0, Nat.zero_le _, rfl, Kp.refl _ _, Or.inl ⟨rfl, fun j _ h => by omega⟩⟩
      case round =>
        obtain ⟨i, hile, rfl, hkp, hbest⟩ := hrel
        have d0 := (hkp.cell (a := ⟨p, 0, none⟩) LP.out (fun h => h)).trans C0.out
        have HKP := hid_of hkp
        have hY2 := HY.out.kept hkp
        have HY2 := hid_of hY2
        by_cases hin : i < s1.l.length
        · have hin' : (i : Int) < s1.l.length := by omega
          rcases vs_of hY2.rowL with ⟨_, h0⟩ | ⟨g, cap, hv⟩
          · rw [h0] at hin; simp at hin
          · have hval := hv.val
            rw [HVL.out] at hval
            injection hval with hal _ hcl2
            subst hal
            have q0 := hv.c0 i hin
            have q1 := hv.c1 i hin
            have q2 := hv.c2 i hin
            have q3 := hv.c3 i hin
            have HV := hid_of hv
            have HIN := hid_of hin
            obtain ⟨y, hy⟩ : ∃ y, s1.l[i]'hin = y := ⟨_, rfl⟩
            rw [hy] at q0 q1 q2 q3
            obtain ⟨kk, tt, gg, ss⟩ := y
            dsimp only at q0 q1 q2 q3
            have HE : Hid (∀ hi : i < s1.l.length, s1.l[i]'hi = ⟨kk, tt, gg, ss⟩) := fun _ => hy
            clear hy
            have HL1 : Hid (s1.l.length < 1000000) := by have := HL.out; have := HLE.out; show _ < _; omega
            clear hv hin hile hkp hY2 hcl2
            rcases hbest with ⟨rfl, hnone⟩ | ⟨b, rfl, hb⟩
            · have HNO := hid_of hnone
              clear hnone
              go_wp2_with (first
                | (go_at_call 162; refine y_may HY2.out HL1.out kk ss tt gg (fun ok w2 hok hk2 => ?_); have d02 := (hk2.cell (a := ⟨p, 0, none⟩) (World.block_lt_of_cell? _ _ d0) (fun h => h)).trans d0; have q02 := (hk2.cell (World.block_lt_of_cell? _ _ q0) (fun h => h)).trans q0; have q12 := (hk2.cell (World.block_lt_of_cell? _ _ q1) (fun h => h)).trans q1; have HOK := hid_of hok; have HK2 := hid_of hk2; clear hok hk2; cases ok)
                | fail)
              · go_quiet (fail)
                go_wp2_with fail
                go_roundw
                case rel => exact ⟨i + 1, by have := HIN.out; omega, by go_num, (HKP.out.trans HK2.out (fun _ _ h => h)).trans (Kp.drewN (fun _ => False) _ _) (fun _ _ h => h), Or.inl ⟨rfl, HNO.out.skip HIN.out (by rw [HE.out HIN.out]; exact fun h => by have := HOK.out.2 h; cases this)⟩⟩
                case measure => have := HIN.out; simp [intOf]; omega
              · go_quiet (fail)
                go_wp2_with fail
                go_roundw
                case rel => exact ⟨i + 1, by have := HIN.out; omega, by go_num, (HKP.out.trans HK2.out (fun _ _ h => h)).trans (Kp.drewN (fun _ => False) _ _) (fun _ _ h => h), Or.inr ⟨i, rfl, HNO.out.new HIN.out (by rw [HE.out HIN.out]; exact HOK.out.1 (by first | rfl | trivial))⟩⟩
                case measure => have := HIN.out; simp [intOf]; omega
            · have hblt := hb.lt
              have r0 := HV.out.c0 b hblt
              have r1 := HV.out.c1 b hblt
              have hb1 : (b : Int) < s1.l.length := by omega
              have hb0 : decide ((b : Int) < 0) = false := by simp
              have HBE := hid_of hb
              have HBL := hid_of hblt
              obtain ⟨yb, hyb⟩ : ∃ y, s1.l[b]'hblt = y := ⟨_, rfl⟩
              rw [hyb] at r0 r1
              obtain ⟨kb, tb, gb, sb⟩ := yb
              dsimp only at r0 r1
              have HBK : Hid (∀ hb : b < s1.l.length, s1.l[b]'hb = ⟨kb, tb, gb, sb⟩) := fun _ => hyb
              clear hyb
              have HLTV : Hid (∀ (hi : i < s1.l.length) (hb : b < s1.l.length), ltV (s1.l[i]'hi) (s1.l[b]'hb) ↔ (blt kk kb ∨ (kk = kb ∧ tt < tb))) := fun hi hb => by
                unfold ltV
                rw [HBK.out hb, HE.out hi]
              clear hb hblt
              cases hs : Op.bytesLess kk.toList kb.toList with
              | true =>
                have HS := hid_of ((ltB_blt kk kb).1 hs)
                go_wp2_with (first
                  | (go_at_call 162; refine y_may HY2.out HL1.out kk ss tt gg (fun ok w2 hok hk2 => ?_); have d02 := (hk2.cell (a := ⟨p, 0, none⟩) (World.block_lt_of_cell? _ _ d0) (fun h => h)).trans d0; have q02 := (hk2.cell (World.block_lt_of_cell? _ _ q0) (fun h => h)).trans q0; have q12 := (hk2.cell (World.block_lt_of_cell? _ _ q1) (fun h => h)).trans q1; have r02 := (hk2.cell (World.block_lt_of_cell? _ _ r0) (fun h => h)).trans r0; have r12 := (hk2.cell (World.block_lt_of_cell? _ _ r1) (fun h => h)).trans r1; have HOK := hid_of hok; have HK2 := hid_of hk2; clear hok hk2; cases ok)
                  | fail)
                · go_quiet (fail)
                  go_wp2_with fail
                  go_roundw
                  case rel => exact ⟨i + 1, by have := HIN.out; omega, by go_num, (HKP.out.trans HK2.out (fun _ _ h => h)).trans (Kp.drewN (fun _ => False) _ _) (fun _ _ h => h), Or.inr ⟨b, rfl, HBE.out.skip HIN.out (by rw [HE.out HIN.out]; exact fun h => by have := HOK.out.2 h; cases this)⟩⟩
                  case measure => have := HIN.out; simp [intOf]; omega
                · go_quiet (fail)
                  go_wp2_with fail
                  go_roundw
                  case rel => exact ⟨i + 1, by have := HIN.out; omega, by go_num, (HKP.out.trans HK2.out (fun _ _ h => h)).trans (Kp.drewN (fun _ => False) _ _) (fun _ _ h => h), Or.inr ⟨i, rfl, HBE.out.new HIN.out HBL.out (by rw [HE.out HIN.out]; exact HOK.out.1 (by first | rfl | trivial)) ((HLTV.out HIN.out HBL.out).2 (Or.inl HS.out))⟩⟩
                  case measure => have := HIN.out; simp [intOf]; omega
              | false =>
                have HS : Hid (¬ blt kk kb) := fun h => by
                  have := (ltB_blt kk kb).2 h
                  unfold ltB at this
                  rw [hs] at this; cases this
                cases he : (kk.toList == kb.toList) with
                | true =>
                  have HEK := hid_of (key_eq he)
                  by_cases h1 : tt < tb
                  · have e1 : decide (tt < tb) = true := decide_eq_true h1
                    have HT1 := hid_of h1
                    go_wp2_with (first
                      | (go_at_call 162; refine y_may HY2.out HL1.out kk ss tt gg (fun ok w2 hok hk2 => ?_); have d02 := (hk2.cell (a := ⟨p, 0, none⟩) (World.block_lt_of_cell? _ _ d0) (fun h => h)).trans d0; have q02 := (hk2.cell (World.block_lt_of_cell? _ _ q0) (fun h => h)).trans q0; have q12 := (hk2.cell (World.block_lt_of_cell? _ _ q1) (fun h => h)).trans q1; have r02 := (hk2.cell (World.block_lt_of_cell? _ _ r0) (fun h => h)).trans r0; have r12 := (hk2.cell (World.block_lt_of_cell? _ _ r1) (fun h => h)).trans r1; have HOK := hid_of hok; have HK2 := hid_of hk2; clear hok hk2; cases ok)
                      | fail)
                    · go_quiet (fail)
                      go_wp2_with fail
                      go_roundw
                      case rel => exact ⟨i + 1, by have := HIN.out; omega, by go_num, (HKP.out.trans HK2.out (fun _ _ h => h)).trans (Kp.drewN (fun _ => False) _ _) (fun _ _ h => h), Or.inr ⟨b, rfl, HBE.out.skip HIN.out (by rw [HE.out HIN.out]; exact fun h => by have := HOK.out.2 h; cases this)⟩⟩
                      case measure => have := HIN.out; simp [intOf]; omega
                    · go_quiet (fail)
                      go_wp2_with fail
                      go_roundw
                      case rel => exact ⟨i + 1, by have := HIN.out; omega, by go_num, (HKP.out.trans HK2.out (fun _ _ h => h)).trans (Kp.drewN (fun _ => False) _ _) (fun _ _ h => h), Or.inr ⟨i, rfl, HBE.out.new HIN.out HBL.out (by rw [HE.out HIN.out]; exact HOK.out.1 (by first | rfl | trivial)) ((HLTV.out HIN.out HBL.out).2 (Or.inr ⟨HEK.out, HT1.out⟩))⟩⟩
                      case measure => have := HIN.out; simp [intOf]; omega
                  · have e1 : decide (tt < tb) = false := decide_eq_false h1
                    have HT1 := hid_of h1
                    go_wp2_with (first
                      | (go_at_call 162; refine y_may HY2.out HL1.out kk ss tt gg (fun ok w2 hok hk2 => ?_); have d02 := (hk2.cell (a := ⟨p, 0, none⟩) (World.block_lt_of_cell? _ _ d0) (fun h => h)).trans d0; have q02 := (hk2.cell (World.block_lt_of_cell? _ _ q0) (fun h => h)).trans q0; have q12 := (hk2.cell (World.block_lt_of_cell? _ _ q1) (fun h => h)).trans q1; have r02 := (hk2.cell (World.block_lt_of_cell? _ _ r0) (fun h => h)).trans r0; have r12 := (hk2.cell (World.block_lt_of_cell? _ _ r1) (fun h => h)).trans r1; have HOK := hid_of hok; have HK2 := hid_of hk2; clear hok hk2; cases ok)
                      | fail)
                    · go_quiet (fail)
                      go_wp2_with fail
                      go_roundw
                      case rel => exact ⟨i + 1, by have := HIN.out; omega, by go_num, (HKP.out.trans HK2.out (fun _ _ h => h)).trans (Kp.drewN (fun _ => False) _ _) (fun _ _ h => h), Or.inr ⟨b, rfl, HBE.out.skip HIN.out (by rw [HE.out HIN.out]; exact fun h => by have := HOK.out.2 h; cases this)⟩⟩
                      case measure => have := HIN.out; simp [intOf]; omega
                    · go_quiet (fail)
                      go_wp2_with fail
                      go_roundw
                      case rel => exact ⟨i + 1, by have := HIN.out; omega, by go_num, (HKP.out.trans HK2.out (fun _ _ h => h)).trans (Kp.drewN (fun _ => False) _ _) (fun _ _ h => h), Or.inr ⟨b, rfl, HBE.out.keep HIN.out HBL.out (fun h => ((HLTV.out HIN.out HBL.out).1 h).elim HS.out (fun h => by have h2 := h.2; have h3 := HT1.out; omega))⟩⟩
                      case measure => have := HIN.out; simp [intOf]; omega
                | false =>
                  have HNE := hid_of (key_ne he)
                  go_wp2_with (first
                    | (go_at_call 162; refine y_may HY2.out HL1.out kk ss tt gg (fun ok w2 hok hk2 => ?_); have d02 := (hk2.cell (a := ⟨p, 0, none⟩) (World.block_lt_of_cell? _ _ d0) (fun h => h)).trans d0; have q02 := (hk2.cell (World.block_lt_of_cell? _ _ q0) (fun h => h)).trans q0; have q12 := (hk2.cell (World.block_lt_of_cell? _ _ q1) (fun h => h)).trans q1; have r02 := (hk2.cell (World.block_lt_of_cell? _ _ r0) (fun h => h)).trans r0; have r12 := (hk2.cell (World.block_lt_of_cell? _ _ r1) (fun h => h)).trans r1; have HOK := hid_of hok; have HK2 := hid_of hk2; clear hok hk2; cases ok)
                    | fail)
                  · go_quiet (fail)
                    go_wp2_with fail
                    go_roundw
                    case rel => exact ⟨i + 1, by have := HIN.out; omega, by go_num, (HKP.out.trans HK2.out (fun _ _ h => h)).trans (Kp.drewN (fun _ => False) _ _) (fun _ _ h => h), Or.inr ⟨b, rfl, HBE.out.skip HIN.out (by rw [HE.out HIN.out]; exact fun h => by have := HOK.out.2 h; cases this)⟩⟩
                    case measure => have := HIN.out; simp [intOf]; omega
                  · go_quiet (fail)
                    go_wp2_with fail
                    go_roundw
                    case rel => exact ⟨i + 1, by have := HIN.out; omega, by go_num, (HKP.out.trans HK2.out (fun _ _ h => h)).trans (Kp.drewN (fun _ => False) _ _) (fun _ _ h => h), Or.inr ⟨b, rfl, HBE.out.keep HIN.out HBL.out (fun h => ((HLTV.out HIN.out HBL.out).1 h).elim HS.out (fun h => HNE.out h.1))⟩⟩
                    case measure => have := HIN.out; simp [intOf]; omega
        · have hie : i = s1.l.length := by omega
          subst hie
          rcases hbest with ⟨rfl, hnone⟩ | ⟨b, rfl, hb⟩
          · have HF := hid_of (HR.out n wr own1 s1 vL1 HVA.out HNM.out (fun _ => hnone) (HKW.out.trans (kpF2 hkp) (fun _ _ h => h)) HAG.out hY2)
            clear hnone hkp hY2 hin hile
            go_wp2
            exact HF.out
          · have hblt := hb.lt
            rcases vs_of hY2.rowL with ⟨_, h0⟩ | ⟨g, cap, hv⟩
            · rw [h0] at hblt; simp at hblt
            · have hval := hv.val
              rw [HVL.out] at hval
              injection hval with hal _ hcl2
              subst hal
              subst hcl2
              have HBE := hid_of hb
              have HBL := hid_of hblt
              have hb1 : (b : Int) < s1.l.length := by omega
              have hb2 : (b : Int) + 1 ≤ s1.l.length := by omega
              have hb0 : decide ((b : Int) < 0) = false := by simp
              have hcap1 : (s1.l.length : Int) ≤ cl := by omega
              have hcap2 : (b : Int) ≤ cl := by omega
              have f0 : wr.frozen? ⟨p, 0, none⟩ = false := frozen_of hY2.store 0
              have HKP := hid_of hkp
              have HY2 := hid_of hY2
              have HRC := hid_of (hY2.rowL.cells (g := g) (by rw [HVL.out]; rfl))
              have HTL : Hid ((cellsV (s1.l.take b)).length = b * 4) := by show _ = _; rw [cellsV_len, List.length_take, Nat.min_eq_left (Nat.le_of_lt hblt)]
              have HTC := hid_of (take_cells (Nat.le_of_lt hblt) HRC.out)
              obtain ⟨ad, hif, hadc⟩ : ∃ ad : Addr, (if cl = b + 1 then some (⟨g, 0, none⟩ : Addr) else some ⟨g, (b + 1) * 4, none⟩) = some ad ∧ ∀ j u, (cellsV (s1.l.drop (b + 1)))[j]? = some u → wr.cell? (ad.add j) = some u := by
                by_cases hce : cl = b + 1
                · refine ⟨_, if_pos hce, fun j u hu => ?_⟩
                  rw [List.drop_eq_nil_of_le (by omega)] at hu
                  simp [cellsV] at hu
                · exact ⟨_, if_neg hce, drop_cells (b := b + 1) (by omega) HRC.out⟩
              have HDC := hid_of hadc
              clear hadc
              have HDL : Hid ((cellsV (s1.l.drop (b + 1))).length = (s1.l.length - (b + 1)) * 4) := by show _ = _; rw [cellsV_len, List.length_drop]
              have HB1 : Hid (0 + b ≤ maxLen) := by show _ ≤ _; unfold maxLen; omega
              have HB2 : Hid ((0 + b) * 48 ≤ 140737488355328) := by show _ ≤ _; omega
              have HB3 : Hid (b + (s1.l.length - (b + 1)) ≤ maxLen) := by show _ ≤ _; unfold maxLen; omega
              have HB4 : Hid ((b + (s1.l.length - (b + 1))) * 48 ≤ 140737488355328) := by show _ ≤ _; omega
              clear hv hb hblt hkp hY2 hin hile
              go_wp2_with (first
                | (at_builtin; refine wpList_append_own_at _ rfl _ _ 74 rfl wr.heap.size 193 iV (.agg #[.string ⟨#[]⟩, .int .i64 0, .bool false, .string ⟨#[]⟩]) 4 48 Tryz.underlying74 HIV.out.1 HIV.out.2.1 HIV.out.2.2.1 HIV.out.2.2.2 rfl (by decide) (.slice none 0 0) 0 [] rfl (World.ownsRow_nil _ _ _ _) ⟨g, 0, none⟩ b cl (cellsV (s1.l.take b)) rfl HTL.out HTC.out (cellsV_one _) HB1.out HB2.out (Nat.le_refl _) ?_; intro v2 w2 own2 grow2 nil2 loc2; have k2 := Kp.of_grown (S := fun _ => False) grow2 (fun _ h => by simp [Value.ownBlock] at h); have d2 := (k2.cell (a := ⟨p, 0, none⟩) (World.block_lt_of_cell? _ _ d0) (fun h => h)).trans d0; obtain ⟨a2, cap2, rfl, hcap2'⟩ := row_len own2; (rw [Nat.zero_add, List.nil_append] at own2); have HO2 := hid_of own2; have HK2 := hid_of k2; have HDC2 := hid_of (fun j u hu => (k2.cell (World.block_lt_of_cell? _ _ (HDC.out j u hu)) (fun h => h)).trans (HDC.out j u hu)); have f02 := (k2.frozen (a := ⟨p, 0, none⟩) (World.block_lt_of_cell? _ _ d0) (fun h => h)).trans f0; clear k2 own2 grow2 nil2 loc2)
                | (at_builtin; refine wpList_append_own_at _ rfl _ _ 74 rfl wr.heap.size 193 iV (.agg #[.string ⟨#[]⟩, .int .i64 0, .bool false, .string ⟨#[]⟩]) 4 48 Tryz.underlying74 HIV.out.1 HIV.out.2.1 HIV.out.2.2.1 HIV.out.2.2.2 rfl (by decide) _ b (cellsV (s1.l.take b)) rfl HO2.out ad (s1.l.length - (b + 1)) (cl - (b + 1)) (cellsV (s1.l.drop (b + 1))) rfl HDL.out HDC2.out (cellsV_one _) HB3.out HB4.out HK2.out.size ?_; intro v3 w3 own3 grow3 nil3 loc3; have hb3 := fun bb hbb => (HO2.out.lt bb hbb).1; have k3 := HK2.out.trans (Kp.of_grown (S := fun bb => Value.ownBlock _ = some bb) grow3 (fun _ h => h)) (fun bb hbb h => by have := hb3 bb h; omega); have d3 := (k3.cell (a := ⟨p, 0, none⟩) (World.block_lt_of_cell? _ _ d0) (fun h => h)).trans d0; have f3 := (k3.frozen (a := ⟨p, 0, none⟩) (World.block_lt_of_cell? _ _ d0) (fun h => h)).trans f0; obtain ⟨a3, cap3, rfl, hcap3⟩ := row_len own3; have HO3 := hid_of own3; have HK3 := hid_of k3; clear k3 own3 grow3 nil3 loc3 hb3)
                | fail)
              have e1 : s1.l.eraseIdx b = s1.l.take b ++ s1.l.drop (b + 1) := List.eraseIdx_eq_take_drop_succ _ _
              have e2 : (s1.l.eraseIdx b).length = b + (s1.l.length - (b + 1)) := by
                have := HBL.out
                rw [e1, List.length_append, List.length_take, List.length_drop]; omega
              have row : w3.ownsRow 0 193 4 (.slice a3 (b + (s1.l.length - (b + 1))) cap3) (s1.l.eraseIdx b).length (cellsV (s1.l.eraseIdx b)) := by
                rw [e2, e1, cellsV_app]
                exact ⟨HO3.out.1, HO3.out.2.imp id (fun ⟨g, cap, cur, x1, _, x3⟩ => ⟨g, cap, cur, x1, Nat.zero_le _, x3⟩)⟩
              have NV := hid_of (HY2.out.newVers HK3.out (s1.l.eraseIdx b) row (fun bb h => (HO3.out.lt bb h).1))
              have HEL : Hid ((s1.l.eraseIdx b).length ≤ s1.l.length) := by show _ ≤ _; rw [e2]; have := HBL.out; omega
              clear e1 e2 row
              go_wp2_with fail
              go_roundw
              case rel =>
                refine ⟨n + 1, by go_num, Or.inl (by have := HLT.out; omega), _, _, _, VacY.more HVA.out HBE.out, NV.out.1, ?_, fun b hb => ?_, Nat.le_trans HEL.out HLE.out⟩
                · exact ((HKW.out.trans (HKP.out.trans HK3.out (fun _ _ h => h)) (fun _ _ h => h.elim)).trans (Kp.setCell (S := fun b => b = p) w3 ⟨p, 0, none⟩ _ rfl) (fun b hb h => by show (own b).c = c; rw [h, H.out.ownP]))
                · have h1 := HKW.out.size
                  have h2 := HKP.out.size
                  exact (NV.out.2 b (by omega)).trans (HAG.out b hb)
              case measure => have := HLT.out; simp [intOf]; omega
    · have HF := hid_of (HR.out n wr own1 s1 vL1 HVA.out HNM.out (fun h => absurd h hlt) HKW.out HAG.out HY.out)
      clear hvac hkw hag hlen hY hnm
      go_wp2
      exact HF.out

end

end Go.Proofs.YthbdpfccfcceiaaGreatDoor
