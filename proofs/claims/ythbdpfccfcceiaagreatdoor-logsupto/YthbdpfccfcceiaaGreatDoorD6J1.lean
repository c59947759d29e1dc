/-
  A record more in the log: (*Journal).Add, where a file begins.
  A record more in the log of a store, told of its plain state.
-/
import Derived.Test.YthbdpfccfcceiaaGreatDoorD5S1S2S3
import Derived.Deep.DeepCutAuto
import Derived.Test.YthbdpfccfcceiaaGreatDoorB1B2O1C1
namespace Go.Proofs.YthbdpfccfcceiaaGreatDoor
open Go.RowKit Go.Lib

theorem ownsRow_slice {w : World} {base e size n : Nat} {v : Value} {xs : List Value} (h : w.ownsRow base e size v n xs) : ∃ pf cap, v = .slice pf n cap := by
  rcases h.2 with ⟨rfl, rfl⟩ | ⟨g, cap, cur, rfl, _⟩
  · exact ⟨none, 0, rfl⟩
  · exact ⟨_, cap, rfl⟩
theorem ownsRow_some {w : World} {base e size n : Nat} {v : Value} {xs : List Value} (h : w.ownsRow base e size v n xs) (hn : 0 < n) : ∃ g cap cur, v = .slice (some ⟨g, 0, none⟩) n cap ∧ w.heap[g]? = some (.cells cur e (0, 0)) ∧ cur.toList.take (n * size) = xs := by
  rcases h.2 with ⟨rfl, rfl⟩ | ⟨g, cap, cur, rfl, _, hg, _, _, _, ht⟩
  · omega
  · exact ⟨g, cap, cur, rfl, hg, ht⟩
theorem heap_set {w : World} {b i : Nat} {cs : Array Value} {e : TypeId} {fz : Nat × Nat} (h : w.heap[b]? = some (.cells cs e fz)) (v : Value) : (w.setCell ⟨b, i, none⟩ v).heap[b]? = some (.cells (cs.setIfInBounds i v) e fz) := by
  simp [World.setCell, Array.getElem?_modify, h]
theorem frozen_at {w : World} {b : Nat} {cs : Array Value} {e : TypeId} (h : w.heap[b]? = some (.cells cs e (0, 0))) (i : Nat) : w.frozen? ⟨b, i, none⟩ = false := by simp [World.frozen?, h]

/-- append of one element onto a row of rows, as one step of a region that draws. -/
theorem stepF_append {ops : Array Oper} {o : Oper} {a : Act} {w : World} {K : Act → World → Prop} {Q : Exit → Act → World → Prop} {E : Prop} (hg : o.guard = none) (s x : Operand)
    (hop : o.op = .call { callee := .builtin .append, args := #[s, x], argTypes := #[37, 37] })
    (v : Value) (n : Nat) (xs : List Value) (hs : a.eval s = v) (hown : w.ownsRow 0 48 1 v n xs) (g : Nat) (u : Value) (hx : a.eval x = .slice (some ⟨g, 0, none⟩) 1 1) (hu : w.cell? ⟨g, 0, none⟩ = some u) (h1 : u.oneCell' = true) (hl : n ≤ 1000000)
    (hK : ∀ v' w', w'.ownsRow 0 48 1 v' (n + 1) (xs ++ [u]) → Kp (fun b => v.ownBlock = some b) w w' → (v'.ownBlock = v.ownBlock ∨ v'.ownBlock = some w.heap.size) → K (a.put o.dst v') w') :
    if Region.wanted o (yielded ops a.tmps) = true then Oper.wp Tryz.prog o a w K Q else E := by
  obtain ⟨i0, hi, hz0, hz1, hz2⟩ := info_parts infoRow
  refine step_append_own hg s x 37 hop 0 48 i0 (.slice none 0 0) 1 24 Tryz.underlying37 hi hz0 hz1 hz2 rfl (by decide) v n xs hs hown ⟨g, 0, none⟩ 1 1 [u] hx rfl (fun j y hj => ?_) (by simpa using h1) (by unfold maxLen; omega) (by omega) (Nat.zero_le _) (fun v' w' r1 r2 r3 => hK v' w' r1 (Kp.of_grown r2 (fun _ e => e)) r3)
  match j, hj with
  | 0, hj => simp at hj; subst hj; rw [addr_add]; exact hu

theorem ne_type {w : World} {a b : Nat} {ca cb : Array Value} {ta tb : TypeId} {fa fb : Nat × Nat} (ha : w.heap[a]? = some (.cells ca ta fa)) (hb : w.heap[b]? = some (.cells cb tb fb)) (h : ta ≠ tb) : a ≠ b := fun e => by
  subst e; rw [ha] at hb; cases hb; exact h rfl
theorem BR.block {base : Nat} {w : World} {v : Value} {bs : List UInt8} (h : BR base w v bs) {b : Nat} (e : v.ownBlock = some b) : ∃ cur, w.heap[b]? = some (.cells cur 5 (0, 0)) := by
  rcases h.2 with ⟨rfl, _⟩ | ⟨g, cap, cur, rfl, _, hg, _⟩
  · simp [Value.ownBlock] at e
  · simp [Value.ownBlock] at e; subst e; exact ⟨cur, hg⟩
theorem ownsRow_block2 {w : World} {base e size n : Nat} {v : Value} {xs : List Value} (h : w.ownsRow base e size v n xs) {b : Nat} (hb : v.ownBlock = some b) : ∃ cur, w.heap[b]? = some (.cells cur e (0, 0)) := by
  rcases h.2 with ⟨rfl, _⟩ | ⟨g, cap, cur, rfl, _, hg, _⟩
  · simp [Value.ownBlock] at hb
  · simp [Value.ownBlock] at hb; subst hb; exact ⟨cur, hg⟩
theorem ownsRow_cell {w : World} {base e n : Nat} {g cap : Nat} {xs : List Value} (h : w.ownsRow base e 1 (.slice (some ⟨g, 0, none⟩) n cap) n xs) (i : Nat) (u : Value) (hu : xs[i]? = some u) : w.cell? ⟨g, i, none⟩ = some u := by
  have := h.cells (g := g) rfl i u hu
  rw [addr_add] at this
  simpa using this

/-- How a journal lies behind the 'if' of Add: the file that the record goes to is there. -/
structure MidA (p o : Nat) (T : TypeId) (box : Nat) (k t : Int) (rv : Value) (body : List UInt8) (R : Ending → World → Prop) (wx : World) (cs2 : Array Value) (g2 cap2 m : Nat) (lv2 : List Value) (v : Value) (f : List UInt8) (il2 : Nat) : Prop where
  hp : wx.heap[p]? = some (.cells cs2 T (0, 0))
  c0 : cs2[o]? = some (.slice (some ⟨g2, 0, none⟩) (m + 1) cap2)
  c1 : cs2[o + 1]? = some (.int .i64 (il2 : Nat))
  row : wx.ownsRow 0 48 1 (.slice (some ⟨g2, 0, none⟩) (m + 1) cap2) (m + 1) (lv2 ++ [v])
  br : BR 0 wx v f
  fl : f.length ≤ 100000000
  fne : f ≠ []
  m1 : m ≤ 1000001
  i1 : il2 ≤ 100
  tab : Tab wx
  rc : RecR wx (.agg #[.int .u8 k, .int .i64 t, rv]) body
  b0 : wx.cell? ⟨box, 0, none⟩ = some (.int .u8 k)
  b1 : wx.cell? ⟨box, 1, none⟩ = some (.int .i64 t)
  b2 : wx.cell? ⟨box, 2, none⟩ = some rv
  go : ∀ v' w', w'.heap[p]? = some (.cells (cs2.setIfInBounds (o + 1) (.int .i64 ((il2 + 1 : Nat) : Int))) T (0, 0)) → w'.ownsRow 0 48 1 (.slice (some ⟨g2, 0, none⟩) (m + 1) cap2) (m + 1) (lv2 ++ [v']) → BR 0 w' v' (f ++ frameB body) →
    (v'.ownBlock = v.ownBlock ∨ ∃ b, v'.ownBlock = some b ∧ wx.heap.size ≤ b) → Kp (fun b => b = p ∨ b = g2 ∨ v.ownBlock = some b) wx w' → R (.returned (.tuple #[])) w'

def MidR (p o : Nat) (T : TypeId) (box : Nat) (k t : Int) (rv : Value) (body : List UInt8) (R : Ending → World → Prop) (wx : World) : Prop := ∃ (cs2 : Array Value) (g2 cap2 m : Nat) (lv2 : List Value) (v : Value) (f : List UInt8) (il2 : Nat), MidA p o T box k t rv body R wx cs2 g2 cap2 m lv2 v f il2

section
variable {R : Ending → World → Prop}

theorem mid_new {p o nf cap il : Nat} {T : TypeId} {cs : Array Value} {pf : Option Addr} {k t : Int} {rv : Value} {body : List UInt8} {w A w1 w2 : World} {lv : List Value} {g1 cap1 g2 cap2 : Nat} {cur2 : Array Value} (hTu : T ≠ 5) (hTf : T ≠ 48) (hplt : p < w.heap.size) (hq : nf = 0 ∨ il = 4)
    (kA : Kp (fun _ => False) w A) (a0 : A.cell? ⟨w.heap.size, 0, none⟩ = some (.int .u8 k)) (a1 : A.cell? ⟨w.heap.size, 1, none⟩ = some (.int .i64 t)) (a2 : A.cell? ⟨w.heap.size, 2, none⟩ = some rv) (rowA : A.ownsRow 0 48 1 (.slice pf nf cap) nf lv) (tA : Tab A) (rA : RecR A (.agg #[.int .u8 k, .int .i64 t, rv]) body) (sA : A.heap.size = w.heap.size + 1)
    (_hnp : (Value.slice pf nf cap).ownBlock ≠ some p) (hlt : ∀ b, (Value.slice pf nf cap).ownBlock = some b → b < w.heap.size) (c0 : cs[o]? = some (.slice pf nf cap)) (c1 : cs[o + 1]? = some (.int .i64 (il : Nat))) (hnf : nf ≤ 1000000) (hrv : ∀ b, rv.ownBlock = some b → b ≠ p ∧ (Value.slice pf nf cap).ownBlock ≠ some b) (htb : ∀ b, (b = p ∨ (Value.slice pf nf cap).ownBlock = some b) → b ≠ 0 ∧ b ≠ 1)
    (hnew : nf = 0 ∨ il = 4 → ∀ lf' v' w', w'.heap[p]? = some (.cells ((cs.setIfInBounds o lf').setIfInBounds (o + 1) (.int .i64 1)) T (0, 0)) → w'.ownsRow 0 48 1 lf' (nf + 1) (lv ++ [v']) → BR 0 w' v' (openB nf ++ frameB body) →
      (∃ b, v'.ownBlock = some b ∧ w.heap.size ≤ b) → (lf'.ownBlock = (Value.slice pf nf cap).ownBlock ∨ ∃ b, lf'.ownBlock = some b ∧ w.heap.size ≤ b) → Kp (fun b => b = p ∨ (Value.slice pf nf cap).ownBlock = some b) w w' → R (.returned (.tuple #[])) w')
    (v1 : BR A.drew.heap.size w1 (.slice (some ⟨g1, 0, none⟩) (openB nf).length cap1) (openB nf)) (k1 : Kp (fun _ => False) A w1)
    (r2 : w2.ownsRow 0 48 1 (.slice (some ⟨g2, 0, none⟩) (nf + 1) cap2) (nf + 1) (lv ++ [.slice (some ⟨g1, 0, none⟩) (openB nf).length cap1])) {ob : Obj} (k2 : Kp (fun b => (Value.slice pf nf cap).ownBlock = some b) (w1.alloc ob) w2) (l2 : (Value.slice (some ⟨g2, 0, none⟩) (nf + 1) cap2).ownBlock = (Value.slice pf nf cap).ownBlock ∨ (Value.slice (some ⟨g2, 0, none⟩) (nf + 1) cap2).ownBlock = some (w1.alloc ob).heap.size)
    (p2 : w2.heap[p]? = some (.cells cs T (0, 0))) (hg2 : w2.heap[g2]? = some (.cells cur2 48 (0, 0))) :
    MidR p o T w.heap.size k t rv body R ((w2.setCell ⟨p, o, none⟩ (.slice (some ⟨g2, 0, none⟩) (nf + 1) cap2)).setCell ⟨p, o + 1, none⟩ (.int .i64 0)) := by
  have ho0 := (Array.getElem?_eq_some_iff.1 c0).1
  have ho1 := (Array.getElem?_eq_some_iff.1 c1).1
  have kk : Kp (fun b => b = p) w2 ((w2.setCell ⟨p, o, none⟩ (.slice (some ⟨g2, 0, none⟩) (nf + 1) cap2)).setCell ⟨p, o + 1, none⟩ (.int .i64 0)) := (Kp.setCell (S := fun b => b = p) _ _ _ rfl).trans (Kp.setCell (S := fun b => b = p) _ _ _ rfl) (fun _ _ h => h)
  have hgp : g2 ≠ p := ne_type hg2 p2 (Ne.symm hTf)
  have k12 : Kp (fun b => (Value.slice pf nf cap).ownBlock = some b) A w2 := (k1.mono (fun _ _ h => h.elim)).trans ((Kp.alloc (fun b => (Value.slice pf nf cap).ownBlock = some b) w1 ob).trans k2 (fun _ _ h => h)) (fun _ _ h => h)
  have k1a : Kp (fun b => (Value.slice pf nf cap).ownBlock = some b) w1 w2 := (Kp.alloc (fun b => (Value.slice pf nf cap).ownBlock = some b) w1 ob).trans k2 (fun _ _ h => h)
  obtain ⟨cur1, hcur1⟩ := v1.block (b := g1) rfl
  have hg1 : ∀ b, (Value.slice pf nf cap).ownBlock = some b → g1 ≠ b := fun b e => by
    obtain ⟨c, hc⟩ := ownsRow_block2 (ownsRow_kp rowA k1 (fun _ _ h => h)) e
    exact ne_type hcur1 hc (by decide)
  have v2 : BR A.drew.heap.size w2 (.slice (some ⟨g1, 0, none⟩) (openB nf).length cap1) (openB nf) := v1.kp k1a (fun b e => by
    simp only [Value.ownBlock, Option.some.injEq] at e
    subst e
    exact fun h => hg1 _ h rfl)
  obtain ⟨cur1', hcur1'⟩ := v2.block (b := g1) rfl
  have hg1p : g1 ≠ p := ne_type hcur1' p2 (Ne.symm hTu)
  have hg1l : w.heap.size ≤ g1 := by
    have := (v1.lt g1 rfl).1
    have h2 : A.drew.heap.size = A.heap.size := rfl
    omega
  have box : ∀ i x, A.cell? ⟨w.heap.size, i, none⟩ = some x → ((w2.setCell ⟨p, o, none⟩ (.slice (some ⟨g2, 0, none⟩) (nf + 1) cap2)).setCell ⟨p, o + 1, none⟩ (.int .i64 0)).cell? ⟨w.heap.size, i, none⟩ = some x := fun i x hx => by
    have h2 : w2.cell? ⟨w.heap.size, i, none⟩ = some x := (k12.cell (World.block_lt_of_cell? _ _ hx) (fun e => by have := hlt _ e; simp at this)).trans hx
    exact (kk.cell (World.block_lt_of_cell? _ _ h2) (fun e => by simp only at e; omega)).trans h2
  refine ⟨_, g2, cap2, nf, lv, .slice (some ⟨g1, 0, none⟩) (openB nf).length cap1, openB nf, 0, ⟨heap_set (heap_set p2 _) _, ?_, ?_, ?_, ?_, ?_, ?_, by omega, by omega, ?_, ?_, box 0 _ a0, box 1 _ a1, box 2 _ a2, fun v' w' h1 h2 h3 h4 h5 => ?_⟩⟩
  · rw [Array.getElem?_setIfInBounds_ne (by omega), Array.getElem?_setIfInBounds_self_of_lt ho0]
  · rw [Array.getElem?_setIfInBounds_self_of_lt (by simpa using ho1)]; rfl
  · exact ownsRow_kp r2 kk (fun b e h => by simp only [Value.ownBlock, Option.some.injEq] at e; omega)
  · exact BR.mono (v2.kp kk (fun b e h => by simp only [Value.ownBlock, Option.some.injEq] at e; omega)) (Nat.zero_le _)
  · rw [openB_length]; omega
  · simp [openB, sealB]
  · exact (tA.kp k12 (fun h => (htb 0 (Or.inr h)).1 rfl) (fun h => (htb 1 (Or.inr h)).2 rfl)).kp kk (fun h => (htb 0 (Or.inl h)).1 rfl) (fun h => (htb 1 (Or.inl h)).2 rfl)
  · exact (rA.kp k12 (fun b e h => (hrv b e).2 h)).kp kk (fun b e h => (hrv b e).1 h)
  · have hsz : (w1.alloc ob).heap.size = w1.heap.size + 1 := by simp
    have hs1 := k1.size
    have hs2 := k12.size
    refine hnew hq (.slice (some ⟨g2, 0, none⟩) (nf + 1) cap2) v' w' ?_ h2 h3 ?_ ?_ ?_
    · rw [Array.setIfInBounds_setIfInBounds] at h1; exact h1
    · rcases h4 with h4 | ⟨b, e, hb⟩
      · exact ⟨g1, h4, hg1l⟩
      · refine ⟨b, e, ?_⟩
        have := kk.size
        omega
    · rcases l2 with l2 | l2
      · exact Or.inl l2
      · exact Or.inr ⟨_, l2, by omega⟩
    · refine (((kA.mono (fun _ _ h => h.elim)).trans k12 (fun b _ h => Or.inr h)).trans kk (fun b _ h => Or.inl h)).trans h5 (fun b hb h => ?_)
      rcases h with h | h | h
      · exact Or.inl h
      · rcases l2 with l2 | l2
        · exact Or.inr (by rw [← l2, h]; rfl)
        · simp only [Value.ownBlock, Option.some.injEq] at l2
          omega
      · simp only [Value.ownBlock, Option.some.injEq] at h
        omega

theorem set_snoc {α : Type} (l : List α) (x y : α) (n : Nat) (hn : l.length = n) : (l ++ [x]).set n y = l ++ [y] := by
  subst hn; simp

set_option maxRecDepth 20000 in
set_option maxHeartbeats 4000000 in
theorem jadd_any (p o : Nat) (cs : Array Value) (T : TypeId) (pf : Option Addr) (nf cap : Nat) (il : Nat) (k t : Int) (rv : Value) (body : List UInt8) (w : World) (hTu : T ≠ 5) (hTf : T ≠ 48) (h1c : rv.oneCell' = true) (hb : body.length ≤ 60000) (hp : w.heap[p]? = some (.cells cs T (0, 0))) (hc0 : cs[o]? = some (.slice pf nf cap)) (hc1 : cs[o + 1]? = some (.int .i64 (il : Nat)))
    (lv : List Value) (fs : List (List UInt8)) (hT : Tab w) (hrow : w.ownsRow 0 48 1 (.slice pf nf cap) nf lv) (hfl : fs.length = nf) (hfs : ∀ f ∈ fs, f ≠ [] ∧ f.length ≤ 100000000) (hbr : ∀ (i : Nat) v f, lv[i]? = some v → fs[i]? = some f → BR 0 w v f) (hnf : nf ≤ 1000000) (hil : il ≤ 99)
    (hr : RecR w (.agg #[.int .u8 k, .int .i64 t, rv]) body) (hrv : ∀ b, rv.ownBlock = some b → b ≠ p ∧ (Value.slice pf nf cap).ownBlock ≠ some b) (htb : ∀ b, (b = p ∨ (Value.slice pf nf cap).ownBlock = some b) → b ≠ 0 ∧ b ≠ 1)
    (hnew : nf = 0 ∨ il = 4 → ∀ lf' v' w', w'.heap[p]? = some (.cells ((cs.setIfInBounds o lf').setIfInBounds (o + 1) (.int .i64 1)) T (0, 0)) → w'.ownsRow 0 48 1 lf' (nf + 1) (lv ++ [v']) → BR 0 w' v' (openB nf ++ frameB body) →
      (∃ b, v'.ownBlock = some b ∧ w.heap.size ≤ b) → (lf'.ownBlock = (Value.slice pf nf cap).ownBlock ∨ ∃ b, lf'.ownBlock = some b ∧ w.heap.size ≤ b) → Kp (fun b => b = p ∨ (Value.slice pf nf cap).ownBlock = some b) w w' → R (.returned (.tuple #[])) w')
    (hold : ¬ (nf = 0 ∨ il = 4) → ∀ lv2 v f v' w', lv = lv2 ++ [v] → fs[lv2.length]? = some f → w'.heap[p]? = some (.cells (cs.setIfInBounds (o + 1) (.int .i64 ((il + 1 : Nat) : Int))) T (0, 0)) → w'.ownsRow 0 48 1 (.slice pf nf cap) nf (lv2 ++ [v']) → BR 0 w' v' (f ++ frameB body) →
      (v'.ownBlock = v.ownBlock ∨ ∃ b, v'.ownBlock = some b ∧ w.heap.size ≤ b) → Kp (fun b => b = p ∨ (Value.slice pf nf cap).ownBlock = some b ∨ v.ownBlock = some b) w w' → R (.returned (.tuple #[])) w') :
    Calls Tryz.prog 78 #[.pointer (some ⟨p, o, none⟩), .agg #[.int .u8 k, .int .i64 t, rv]] w R := by
  have HB := hid_of hb
  have HTU := hid_of hTu
  have HTF := hid_of hTf
  have hplt := (Array.getElem?_eq_some_iff.1 hp).1
  have hpA : (w.alloc (.cells #[.int .u8 k, .int .i64 t, rv] 110)).heap[p]? = some (.cells cs T (0, 0)) := ((Kp.alloc (fun _ => False) w _).block p hplt (fun e => e)).trans hp
  have c0 : (w.alloc (.cells #[.int .u8 k, .int .i64 t, rv] 110)).cell? ⟨p, o, none⟩ = some (.slice pf nf cap) := by rw [cell_of hpA]; exact hc0
  have c1 : (w.alloc (.cells #[.int .u8 k, .int .i64 t, rv] 110)).cell? ⟨p, o + 1, none⟩ = some (.int .i64 il) := by rw [cell_of hpA]; exact hc1
  have HKA : Hid (Kp (fun _ => False) w (w.alloc (.cells #[.int .u8 k, .int .i64 t, rv] 110))) := Kp.alloc _ _ _
  have HCB0 : Hid ((w.alloc (.cells #[.int .u8 k, .int .i64 t, rv] 110)).cell? ⟨w.heap.size, 0, none⟩ = some (.int .u8 k)) := cell_of (heap_alloc_new w _) 0
  have HCB1 : Hid ((w.alloc (.cells #[.int .u8 k, .int .i64 t, rv] 110)).cell? ⟨w.heap.size, 1, none⟩ = some (.int .i64 t)) := cell_of (heap_alloc_new w _) 1
  have HCB2 : Hid ((w.alloc (.cells #[.int .u8 k, .int .i64 t, rv] 110)).cell? ⟨w.heap.size, 2, none⟩ = some rv) := cell_of (heap_alloc_new w _) 2
  have HROWA : Hid ((w.alloc (.cells #[.int .u8 k, .int .i64 t, rv] 110)).ownsRow 0 48 1 (.slice pf nf cap) nf lv) := hrow.alloc _
  have HTA := hid_of (hT.kept HKA.out)
  have HRCA := hid_of (hr.kept HKA.out)
  have HSZ : Hid ((w.alloc (.cells #[.int .u8 k, .int .i64 t, rv] 110)).heap.size = w.heap.size + 1) := by show _ = _; simp
  have HNP : Hid ((Value.slice pf nf cap).ownBlock ≠ some p) := fun e => by
    obtain ⟨cur, hcur⟩ := ownsRow_block2 hrow e
    exact ne_type hcur hp (Ne.symm hTf) rfl
  have HLT : Hid (∀ b, (Value.slice pf nf cap).ownBlock = some b → b < w.heap.size) := fun b e => (hrow.lt b e).2
  have HPA := hid_of hpA
  have HC0 := hid_of hc0
  have HC1 := hid_of hc1
  have HNF := hid_of hnf
  have HRV := hid_of hrv
  have HTB := hid_of htb
  have hnf' : (nf : Int) ≤ 1000000 := by omega
  have HIL := hid_of hil
  have HN := hid_of hnew
  have HO := hid_of hold
  have HOM : Hid (¬ (nf = 0 ∨ il = 4) → MidR p o T w.heap.size k t rv body R (w.alloc (.cells #[.int .u8 k, .int .i64 t, rv] 110))) := fun hq => by
    obtain ⟨m, hm⟩ : ∃ m, nf = m + 1 := ⟨nf - 1, by omega⟩
    subst hm
    have hlv : lv.length = m + 1 := by simpa using hrow.1
    have hne : lv ≠ [] := fun e => by rw [e] at hlv; simp at hlv
    obtain ⟨lv2, v, rfl⟩ : ∃ lv2 v, lv = lv2 ++ [v] := ⟨lv.dropLast, lv.getLast hne, (List.dropLast_concat_getLast hne).symm⟩
    have hl2 : lv2.length = m := by simpa using hlv
    obtain ⟨f, hf⟩ : ∃ f, fs[m]? = some f := ⟨fs[m], List.getElem?_eq_getElem (by omega)⟩
    obtain ⟨g2, cap2, cur2, e2, hg2, _⟩ := ownsRow_some hrow (by omega)
    injection e2 with e2 _ e3
    subst e2; subst e3
    have hff := hfs f (List.mem_of_getElem? hf)
    refine ⟨cs, g2, cap, m, lv2, v, f, il, ⟨HPA.out, HC0.out, HC1.out, HROWA.out, (hbr m v f (by rw [← hl2]; simp) hf).kept HKA.out, hff.2, hff.1, by have := HNF.out; omega, by have := HIL.out; omega, HTA.out, HRCA.out, HCB0.out, HCB1.out, HCB2.out, fun v' w' h1 h2 h3 h4 h5 => ?_⟩⟩
    refine HO.out hq lv2 v f v' w' rfl (by rw [hl2]; exact hf) h1 h2 h3 (h4.imp id (fun ⟨b, e, hb⟩ => ⟨b, e, by have := HSZ.out; omega⟩)) ((HKA.out.mono (fun _ _ h => h.elim)).trans h5 (fun b _ h => ?_))
    rcases h with h | h | h
    · exact Or.inl h
    · exact Or.inr (Or.inl (by rw [h]; rfl))
    · exact Or.inr (Or.inr h)
  clear hnew hold hp hpA hc0 hc1 hb hTu hTf hT hrow hfs hbr hr hrv hnf hil hfl HO htb
  go_enter Tryz.func78, Tryz.ntmps78
  go_upto_region 1 with fail
  go_cut [17] (fun s17 wx => s17 = .bool (decide (nf = 0 ∨ il = 4)) ∧ wx = w.alloc (.cells #[.int .u8 k, .int .i64 t, rv] 110))
  case first =>
    by_cases q1 : nf = 0
    · have hq : ((nf : Int) == 0) = true := by simp; omega
      go_wp2_with fail
      go_meet
      case rel => exact ⟨by simp [q1], rfl⟩
    · have hq : ((nf : Int) == 0) = false := by simp; omega
      by_cases q2 : il = 4
      · have hq2 : ((il : Int) == 4) = true := by simp; omega
        go_wp2_with fail
        go_meet
        case rel => exact ⟨by simp [q2], rfl⟩
      · have hq2 : ((il : Int) == 4) = false := by simp; omega
        go_wp2_with fail
        go_meet
        case rel => exact ⟨by simp [q1, q2], rfl⟩
  case rest =>
  obtain ⟨rfl, rfl⟩ := hcut
  go_upto_if 17 with fail
  go_cut [] (fun wx => MidR p o T w.heap.size k t rv body R wx)
  case first =>
    by_cases hq : nf = 0 ∨ il = 4
    · have hqb : decide (nf = 0 ∨ il = 4) = true := by simpa using hq
      have HQ := hid_of hq
      clear hq
      go_wp2_with fail
      clear HOM
      generalize w.alloc (.cells #[.int .u8 k, .int .i64 t, rv] 110) = A at HKA c0 c1 HCB0 HCB1 HCB2 HPA HTA HROWA HRCA HSZ ⊢
      go_region_law (first
        | (refine step_call rfl 131 _ _ _ rfl Tryz.func131 (by kernel_rfl) (by kernel_rfl) _ (by simp [Act.eval]; rfl) ?_; refine opening_any nf _ (HTA.out.kept (Kp.drew _ _)) (by have := HNF.out; omega) ?_; intro v1 w1 hv1 hk1; have HV1 := hid_of hv1; have HK1 : Hid (Kp (fun _ => False) A w1) := (Kp.drew (fun _ => False) A).trans hk1 (fun _ _ h => h); have d0 : w1.cell? ⟨p, o, none⟩ = some (.slice pf nf cap) := (HK1.out.cell (a := ⟨p, o, none⟩) (World.block_lt_of_cell? _ _ c0) (fun e => e)).trans c0; have d0a : ∀ ob, (w1.alloc ob).cell? ⟨p, o, none⟩ = some (.slice pf nf cap) := fun ob => cell_alloc d0 ob; obtain ⟨g1, cap1, rfl⟩ := hv1.form (by simp [openB, sealB]); clear hv1 hk1; refine ⟨_, rfl, ?_⟩)
        | (refine stepF_append rfl _ _ rfl (.slice pf nf cap) nf lv (by simp [Act.eval]) ((ownsRow_kp HROWA.out HK1.out (fun _ _ e => e)).alloc _) w1.heap.size (.slice (some ⟨g1, 0, none⟩) (openB nf).length cap1) (by simp [Act.eval]) (by go_simp) rfl HNF.out ?_; intro lf2 w2 hr2 hk2 hl2; have HR2 := hid_of hr2; have HK2 := hid_of hk2; have HL2 := hid_of hl2; have hp2 : w2.heap[p]? = some (.cells cs T (0, 0)) := (hk2.block p (World.block_lt_of_cell? _ _ (cell_alloc d0 _)) HNP.out).trans (((Kp.alloc (fun _ => False) _ _).block p (World.block_lt_of_cell? _ _ d0) (fun e => e)).trans ((HK1.out.block p (World.block_lt_of_cell? _ _ c0) (fun e => e)).trans HPA.out)); have HP2 := hid_of hp2; have d2 : w2.cell? ⟨p, o, none⟩ = some (.slice pf nf cap) := (cell_of hp2 _).trans HC0.out; have d3 : w2.cell? ⟨p, o + 1, none⟩ = some (.int .i64 il) := (cell_of hp2 _).trans HC1.out; have e2 : w2.frozen? ⟨p, o, none⟩ = false := frozen_at hp2 _; have e3 : w2.frozen? ⟨p, o + 1, none⟩ = false := frozen_at hp2 _; obtain ⟨g2, cap2, cur2, rfl, hg2, ht2⟩ := ownsRow_some hr2 (by omega); have HG2 := hid_of hg2; clear hp2 hg2 ht2 hr2 hk2 hl2))
      all_goals
        clear d0 c0 c1 d0a
        go_wp2_with fail
        go_meet
        case rel =>
          clear d2 d3 e2 e3
          exact mid_new HTU.out HTF.out hplt HQ.out HKA.out HCB0.out HCB1.out HCB2.out HROWA.out HTA.out HRCA.out HSZ.out HNP.out HLT.out HC0.out HC1.out HNF.out HRV.out HTB.out HN.out HV1.out HK1.out HR2.out HK2.out HL2.out HP2.out HG2.out
    · have hqb : decide (nf = 0 ∨ il = 4) = false := by simpa using hq
      have HQ := hid_of hq
      clear hq
      go_wp2_with fail
      go_meet
      case rel => exact HOM.out HQ.out
  case rest =>
    clear HOM
    obtain ⟨cs2, g2, cap2, m, lv2, v, f, il2, hM⟩ := hcut
    have HM := hid_of hM
    have d0 : wc.cell? ⟨p, o, none⟩ = some (.slice (some ⟨g2, 0, none⟩) (m + 1) cap2) := (cell_of hM.hp _).trans hM.c0
    have d1 : wc.cell? ⟨p, o + 1, none⟩ = some (.int .i64 il2) := (cell_of hM.hp _).trans hM.c1
    have hlen : lv2.length = m := by have := hM.row.1; simp at this; omega
    have HLEN := hid_of hlen
    have e0 : wc.cell? ⟨g2, m, none⟩ = some v := ownsRow_cell hM.row m v (by rw [← hlen]; simp)
    obtain ⟨cur2, hg2⟩ := ownsRow_block2 hM.row (b := g2) rfl
    obtain ⟨gv, capv, rfl⟩ := hM.br.form hM.fne
    obtain ⟨curv, hgv⟩ := hM.br.block (b := gv) rfl
    have HNV := hid_of (ne_type hgv hM.hp (Ne.symm HTU.out))
    have HNG := hid_of (ne_type hg2 hM.hp (Ne.symm HTF.out))
    have HNGV := hid_of (ne_type hgv hg2 (by decide))
    have HG2 := hid_of hg2
    have a0 := hM.b0
    have a1 := hM.b1
    have a2 := hM.b2
    have hm1 : (m : Int) ≤ 1000001 := by have := hM.m1; omega
    have hmm : (m : Int) < (m : Int) + 1 := by omega
    have hi1 : (il2 : Int) ≤ 100 := by have := hM.i1; omega
    clear hM hlen hg2 hgv c0 c1
    go_wp2_with fail
    go_region_law (refine step_call rfl 132 _ _ _ rfl Tryz.func132 (by kernel_rfl) (by kernel_rfl) _ (by simp [Act.eval]; rfl) ?_; refine appendRecord_any (.slice (some ⟨gv, 0, none⟩) f.length capv) f k t rv body _ (HM.out.tab.kept (Kp.drew _ _)) h1c (HM.out.rc.kept (Kp.drew _ _)) HB.out (HM.out.br.kept (Kp.drew _ _)) HM.out.fl ?_; intro v5 w5 hv5 hk5 hl5; have HV5 := hid_of hv5; have HK5 := hid_of hk5; have HL5 := hid_of hl5; have hp5 : w5.heap[p]? = some (.cells cs2 T (0, 0)) := (hk5.block p (Array.getElem?_eq_some_iff.1 HM.out.hp).1 (fun e => HNV.out (by simpa [Value.ownBlock] using e))).trans HM.out.hp; have hg5 : w5.heap[g2]? = some (.cells cur2 48 (0, 0)) := (hk5.block g2 (Array.getElem?_eq_some_iff.1 HG2.out).1 (fun e => HNGV.out (by simpa [Value.ownBlock] using e))).trans HG2.out; have HP5 := hid_of hp5; have HG5 := hid_of hg5; have x0 : w5.cell? ⟨g2, m, none⟩ = some (.slice (some ⟨gv, 0, none⟩) f.length capv) := ((cell_of hg5 m).trans ((cell_of HG2.out m).symm)).trans e0; have x1 : w5.frozen? ⟨g2, m, none⟩ = false := frozen_at hg5 _; have x2 : w5.cell? ⟨p, o + 1, none⟩ = some (.int .i64 il2) := (cell_of hp5 _).trans HM.out.c1; have x3 : w5.frozen? ⟨p, o + 1, none⟩ = false := frozen_at hp5 _; have x4 : w5.cell? ⟨p, o, none⟩ = some (.slice (some ⟨g2, 0, none⟩) (m + 1) cap2) := (cell_of hp5 _).trans HM.out.c0; have hne : g2 ≠ p := HNG.out; obtain ⟨g5, cap5, rfl⟩ := hv5.form (by simp [frameB, sealB]); clear hv5 hk5 hl5 hp5 hg5; refine ⟨_, rfl, ?_⟩)
    all_goals
      clear d0 d1 e0 a0 a1 a2
      go_wp2_with fail
      go_end0
      rw [← List.length_append]
      refine HM.out.go (.slice (some ⟨g5, 0, none⟩) (f ++ frameB body).length cap5) _ ?_ ?_ ?_ HL5.out ?_
      · rw [heap_set (i := o + 1) (cs := cs2) ((Below.heap_setCell w5 _ _ p (Ne.symm hne)).trans HP5.out)]; rfl
      · have h1 : w5.ownsRow 0 48 1 (.slice (some ⟨g2, 0, none⟩) (m + 1) cap2) (m + 1) (lv2 ++ [.slice (some ⟨gv, 0, none⟩) f.length capv]) := ownsRow_kp HM.out.row ((Kp.drew (fun b => gv = b) _).trans HK5.out (fun b _ e => by simpa [Value.ownBlock] using e)) (fun b e => by simp [Value.ownBlock] at e; subst e; exact HNGV.out)
        have h2 := ownsRow_set h1 m (.slice (some ⟨g5, 0, none⟩) (f ++ frameB body).length cap5)
        rw [set_snoc _ _ _ _ HLEN.out] at h2
        exact ownsRow_kp h2 (S := fun b => b = p) (Kp.setCell _ _ _ rfl) (fun b e => by simp [Value.ownBlock] at e; subst e; exact hne)
      · have hb5 : ∃ cur5, w5.heap[g5]? = some (.cells cur5 5 (0, 0)) := HV5.out.block rfl
        obtain ⟨cur5, hcur5⟩ := hb5
        refine BR.kp (S := fun b => b = g2 ∨ b = p) HV5.out ((Kp.setCell (S := fun b => b = g2 ∨ b = p) w5 _ _ (Or.inl rfl)).trans (Kp.setCell (S := fun b => b = g2 ∨ b = p) _ _ _ (Or.inr rfl)) (fun _ _ h => h)) (fun b e => ?_)
        simp [Value.ownBlock] at e
        subst e
        rintro (e | e)
        · exact ne_type hcur5 HG5.out (by decide) e
        · exact ne_type hcur5 HP5.out (Ne.symm HTU.out) e
      · refine (((Kp.drew (fun b => b = p ∨ b = g2 ∨ (Value.slice (some ⟨gv, 0, none⟩) f.length capv).ownBlock = some b) _).trans HK5.out (fun b _ e => Or.inr (Or.inr e))).trans (Kp.setCell (S := fun b => b = p ∨ b = g2 ∨ (Value.slice (some ⟨gv, 0, none⟩) f.length capv).ownBlock = some b) w5 _ _ (Or.inr (Or.inl rfl))) (fun _ _ h => h)).trans (Kp.setCell (S := fun b => b = p ∨ b = g2 ∨ (Value.slice (some ⟨gv, 0, none⟩) f.length capv).ownBlock = some b) _ _ _ (Or.inl rfl)) (fun _ _ h => h)

end

end Go.Proofs.YthbdpfccfcceiaaGreatDoor

namespace Go.Proofs.YthbdpfccfcceiaaGreatDoor
open Go.RowKit Go.Maps

theorem filesB_ok (lg : List (List UInt8)) (hl : lg.length ≤ 5000) (hb : ∀ b ∈ lg, b.length ≤ 400) : ∀ f ∈ filesB lg, f ≠ [] ∧ f.length ≤ 100000000 := by
  intro f hf
  refine ⟨?_, ?_⟩
  · have : ∀ (lg : List (List UInt8)) (f : List UInt8), f ∈ filesB lg → f ≠ [] := by
      intro lg
      induction lg using snoc_ind with
      | h0 => intro f hf; simp [filesB, filesN] at hf
      | h1 l x ih =>
        intro f hf
        rw [filesB_snoc] at hf
        unfold addF at hf
        split at hf
        · rcases List.mem_append.1 hf with h | h
          · exact ih f h
          · simp at h; subst h; simp [frameB, sealB]
        · rcases List.mem_append.1 hf with h | h
          · exact ih f (List.dropLast_subset _ h)
          · simp at h; subst h; simp [frameB, sealB]
    exact this lg f hf
  · have h1 := length_le_bytesOf hf
    have h2 := bytesOf_filesB_le lg 400 hb
    have h3 : lg.length * 417 ≤ 5000 * 417 := Nat.mul_le_mul_right _ hl
    omega

section
variable {own own' : Nat → Lab} {c : Nat} {w w' : World} {p : Nat} {s : XS} {mo ph mv mm : Nat} {pt mw : Int → Nat} {sl : ByteArray → Value}

theorem XR.relog (h : XR own c w p s mo ph mv mm pt mw sl) (l' : XL) (hb : ∀ b, b < w.heap.size → (own b).c = c → (own b).k ≠ 0 → (own b).k ≠ 8 → (own b).k ≠ 9 → w'.heap[b]? = w.heap[b]?) (ho : ∀ b, b < w.heap.size → own' b = own b)
    (hst : w'.heap[p]? = some (.cells #[.pointer (some ⟨ph, 0, none⟩), .int .i64 s.hor, .int .i64 s.now, l'.lf, .int .i64 (inLast l'.lg.length : Nat), .int .i64 (l'.sy : Nat), .int .i64 s.begun, .map (some mo), .int .i64 s.bk.taken, .map (some s.bk.mu)] 102 (0, 0)))
    (hl : LogR own' c w' l') : XR own' c w' p { s with log := l' } mo ph mv mm pt mw sl := by
  have lp := block_lt h.store; have lh := block_lt h.hist; have lo := h.opn.lt; have lv := h.vers.lt; have lm := h.moms.lt
  have b' : ∀ b k i x, b < w.heap.size → own b = ⟨c, k, i, x⟩ → k ≠ 0 → k ≠ 8 → k ≠ 9 → w'.heap[b]? = w.heap[b]? := fun b k i x hlt e h0 h8 h9 => hb b hlt (by rw [e]) (by rw [e]; exact h0) (by rw [e]; exact h8) (by rw [e]; exact h9)
  refine ⟨(ho p lp).trans h.ownP, (ho mo lo).trans h.ownO, (ho ph lh).trans h.ownH, (ho mv lv).trans h.ownV, (ho mm lm).trans h.ownM, hst, ?_, ?_, ?_, ?_, ?_, ?_, ?_, ?_, ?_, hl, h.bks.frame (fun b hlt hc hk => hb b hlt hc (by omega) (by omega) (by omega)) (fun b hlt _ _ => ho b hlt)⟩
  · exact (b' ph _ _ _ lh h.ownH (by decide) (by decide) (by decide)).trans h.hist
  · exact h.opn.of_block (b' mo _ _ _ lo h.ownO (by decide) (by decide) (by decide))
  · intro n t e
    exact ⟨(ho _ (block_lt (h.tx n t e))).trans (h.ownT n t e).1, (ho _ (h.wr n t e).lt).trans (h.ownT n t e).2⟩
  · intro n t e
    exact (b' _ _ _ _ (block_lt (h.tx n t e)) (h.ownT n t e).1 (by decide) (by decide) (by decide)).trans (h.tx n t e)
  · intro n t e
    exact (h.wr n t e).of_block (b' _ _ _ _ (h.wr n t e).lt (h.ownT n t e).2 (by decide) (by decide) (by decide))
  · exact h.vers.of_block (b' mv _ _ _ lv h.ownV (by decide) (by decide) (by decide))
  · exact h.moms.of_block (b' mm _ _ _ lm h.ownM (by decide) (by decide) (by decide))
  · intro k hk b e
    exact (ho b ((h.row k hk).lt b e).2).trans (h.ownR k hk b e)
  · intro k hk
    exact ownsRow_same (h.row k hk) (fun b e => b' b _ _ _ ((h.row k hk).lt b e).2 (h.ownR k hk b e) (by decide) (by decide) (by decide))

/-- The blocks of the tables are none of the store's. -/
def TabN (own : Nat → Lab) (c : Nat) : Prop := (own 0).c ≠ c ∧ (own 1).c ≠ c

variable {R : Ending → World → Prop}

theorem x_jadd (h : XR own c w p s mo ph mv mm pt mw sl) (hT : Tab w) (hN : TabN own c) (k t : Int) (rv : Value) (body : List UInt8) (hl : s.log.lg.length ≤ 4999) (hbs : ∀ b ∈ s.log.lg, b.length ≤ 400) (hb : body.length ≤ 400) (h1c : rv.oneCell' = true) (hr : RecR w (.agg #[.int .u8 k, .int .i64 t, rv]) body) (hrv : ∀ b, rv.ownBlock = some b → (own b).c ≠ c)
    (hR : ∀ w' own' l', Kp (fun b => (own b).c = c ∧ ((own b).k = 0 ∨ (own b).k = 8 ∨ (own b).k = 9)) w w' → (∀ b, b < w.heap.size → own' b = own b) → (∀ b, w.heap.size ≤ b → (own' b) ≠ own b → (own' b).c = c) → l'.lg = s.log.lg ++ [body] → l'.sy = s.log.sy →
      XR own' c w' p { s with log := l' } mo ph mv mm pt mw sl → R (.returned (.tuple #[])) w') :
    Calls Tryz.prog 78 #[.pointer (some ⟨p, 3, none⟩), .agg #[.int .u8 k, .int .i64 t, rv]] w R := by
  obtain ⟨pf, cap, elf⟩ := ownsRow_slice h.log.rowF
  have hst := h.store
  rw [elf] at hst
  have hrow := h.log.rowF
  rw [elf] at hrow
  have hfl := filesB_length s.log.lg
  have hlen := h.log.len
  have ownF : ∀ b, (Value.slice pf (filesB s.log.lg).length cap).ownBlock = some b → own b = ⟨c, 8, 0, eb⟩ := fun b e => h.log.ownF b (by rw [elf]; exact e)
  have hcond : ((filesB s.log.lg).length = 0 ∨ inLast s.log.lg.length = 4) ↔ s.log.lg.length % 4 = 0 := by
    rw [filesB_nil_iff, inLast_four]; omega
  refine jadd_any p 3 _ 102 pf (filesB s.log.lg).length cap (inLast s.log.lg.length) k t rv body w (by decide) (by decide) h1c (by omega) hst rfl rfl s.log.lv (filesB s.log.lg) hT hrow rfl (filesB_ok _ (by omega) hbs) h.log.rowB (by omega) (by have := inLast_le s.log.lg.length; omega) hr ?_ ?_ ?_ ?_
  · intro b e
    have hn := hrv b e
    exact ⟨fun e2 => hn (by rw [e2, h.ownP]), fun e2 => hn (by rw [ownF b e2])⟩
  · intro b e
    have hc : (own b).c = c := by
      rcases e with e | e
      · rw [e, h.ownP]
      · rw [ownF b e]
    exact ⟨fun e2 => hN.1 (by rw [← e2]; exact hc), fun e2 => hN.2 (by rw [← e2]; exact hc)⟩
  · intro hq lf' v' w' hp' hrow' hbr' ⟨bv, hbv, hbvl⟩ hlf' hk'
    have hmod := hcond.1 hq
    have hkk : Kp (fun b => (own b).c = c ∧ ((own b).k = 0 ∨ (own b).k = 8 ∨ (own b).k = 9)) w w' := hk'.mono (fun b _ e => by
      rcases e with e | e
      · rw [e, h.ownP]; simp
      · rw [ownF b e]; simp)
    have hfs : filesB (s.log.lg ++ [body]) = filesB s.log.lg ++ [openB (filesB s.log.lg).length ++ frameB body] := by rw [filesB_snoc]; simp [addF, hmod]
    have hne : lf'.ownBlock ≠ some bv := fun e => by
      obtain ⟨c1, h1⟩ := ownsRow_block2 hrow' e
      obtain ⟨c2, h2⟩ := hbr'.block hbv
      exact ne_type h1 h2 (by decide) rfl
    have hout : ∀ b, b < w.heap.size → (fun b => if lf'.ownBlock = some b then (⟨c, 8, 0, eb⟩ : Lab) else if bv = b then ⟨c, 9, ((filesB s.log.lg).length : Nat), eb⟩ else own b) b = own b := fun b hb => by
      have : bv ≠ b := by omega
      by_cases e : lf'.ownBlock = some b
      · simp only [e, if_true]
        rcases hlf' with h1 | ⟨b', h1, h2⟩
        · rw [h1] at e; exact (ownF b e).symm
        · rw [h1] at e; cases e; omega
      · simp [e, this]
    refine hR w' _ ⟨lf', s.log.lv ++ [v'], s.log.lg ++ [body], s.log.sy⟩ hkk hout (fun b _ e => ?_) rfl rfl (h.relog _ (fun b hb hc h0 h8 h9 => hkk.block b hb (fun e => by rcases e.2 with e | e | e <;> contradiction)) hout ?_ ?_)
    · by_cases e1 : lf'.ownBlock = some b
      · simp [e1]
      · by_cases e2 : bv = b
        · simp [e1, e2]
        · simp [e1, e2] at e
    · rw [hp']
      simp only [List.length_append, List.length_cons, List.length_nil, Nat.zero_add, inLast_succ_new _ hmod]
      rfl
    · refine ⟨fun b e => ?_, ?_, fun i v hv b e => ?_, fun i v f hv hf => ?_⟩
      · have e' : lf'.ownBlock = some b := e
        simp [e']
      · show w'.ownsRow 0 _ 1 lf' (filesB (s.log.lg ++ [body])).length (s.log.lv ++ [v'])
        rw [hfs]; simpa using hrow'
      · have hv' : (s.log.lv ++ [v'])[i]? = some v := hv
        rcases Nat.lt_trichotomy i s.log.lv.length with hi | hi | hi
        · rw [List.getElem?_append_left hi] at hv'
          have h1 := h.log.ownB i v hv' b e
          have hlt := ((h.log.rowB i v _ hv' (List.getElem?_eq_getElem (by omega))).lt b e).2
          exact (hout b hlt).trans h1
        · subst hi
          simp at hv'
          subst hv'
          rw [hbv] at e
          cases e
          simp [hne, hlen]
        · rw [List.getElem?_eq_none (by simp; omega)] at hv'; cases hv'
      · have hv' : (s.log.lv ++ [v'])[i]? = some v := hv
        have hf' : (filesB (s.log.lg ++ [body]))[i]? = some f := hf
        rw [hfs] at hf'
        rcases Nat.lt_trichotomy i s.log.lv.length with hi | hi | hi
        · rw [List.getElem?_append_left hi] at hv'
          rw [List.getElem?_append_left (by omega)] at hf'
          have h0 := h.log.rowB i v f hv' hf'
          refine ownsRow_same h0 (fun b e => hk'.block b (h0.lt b e).2 ?_)
          have h1 := h.log.ownB i v hv' b e
          rintro (e2 | e2)
          · rw [e2, h.ownP] at h1; simp at h1
          · rw [ownF b e2] at h1; simp at h1
        · subst hi
          simp at hv'
          rw [hlen] at hf'
          simp at hf'
          subst hv'; subst hf'
          exact hbr'
        · rw [List.getElem?_eq_none (by simp; omega)] at hv'; cases hv'
  · intro hq lv2 v f v' w' elv hf hp' hrow' hbr' hlv' hk'
    have hmod : s.log.lg.length % 4 ≠ 0 := fun e => hq (hcond.2 e)
    have hl2 : lv2.length + 1 = (filesB s.log.lg).length := by rw [← hlen, elv]; simp
    have hvat : s.log.lv[lv2.length]? = some v := by rw [elv]; simp
    have ownV : ∀ b, v.ownBlock = some b → own b = ⟨c, 9, (lv2.length : Nat), eb⟩ := fun b e => h.log.ownB lv2.length v hvat b e
    have hkk : Kp (fun b => (own b).c = c ∧ ((own b).k = 0 ∨ (own b).k = 8 ∨ (own b).k = 9)) w w' := hk'.mono (fun b _ e => by
      rcases e with e | e | e
      · rw [e, h.ownP]; simp
      · rw [ownF b e]; simp
      · rw [ownV b e]; simp)
    have hgl : (filesB s.log.lg).getLastD [] = f := by
      rw [List.getLastD_eq_getLast?, List.getLast?_eq_getElem?, show (filesB s.log.lg).length - 1 = lv2.length by omega, hf]; rfl
    have hfs : filesB (s.log.lg ++ [body]) = (filesB s.log.lg).dropLast ++ [f ++ frameB body] := by rw [filesB_snoc]; unfold addF; rw [if_neg hmod, hgl]
    have hdl : (filesB s.log.lg).dropLast.length = lv2.length := by simp; omega
    have hdr : ∀ i, i < lv2.length → (filesB s.log.lg).dropLast[i]? = (filesB s.log.lg)[i]? := fun i hi => by
      rw [List.getElem?_dropLast, if_pos (by omega)]
    have hout : ∀ b, b < w.heap.size → (fun b => if v'.ownBlock = some b then (⟨c, 9, (lv2.length : Nat), eb⟩ : Lab) else own b) b = own b := fun b hb => by
      by_cases e : v'.ownBlock = some b
      · simp only [e, if_true]
        rcases hlv' with h1 | ⟨b', h1, h2⟩
        · rw [h1] at e; exact (ownV b e).symm
        · rw [h1] at e; cases e; omega
      · simp [e]
    refine hR w' _ ⟨.slice pf (filesB s.log.lg).length cap, lv2 ++ [v'], s.log.lg ++ [body], s.log.sy⟩ hkk hout (fun b _ e => ?_) rfl rfl (h.relog _ (fun b hb hc h0 h8 h9 => hkk.block b hb (fun e => by rcases e.2 with e | e | e <;> contradiction)) hout ?_ ?_)
    · by_cases e1 : v'.ownBlock = some b
      · simp [e1]
      · simp [e1] at e
    · rw [hp']
      simp only [List.length_append, List.length_cons, List.length_nil, Nat.zero_add, inLast_succ _ hmod]
      rfl
    · refine ⟨fun b e => ?_, ?_, fun i u hu b e => ?_, fun i u g hu hg => ?_⟩
      · have e' : (Value.slice pf (filesB s.log.lg).length cap).ownBlock = some b := e
        exact (hout b (hrow.lt b e').2).trans (ownF b e')
      · show w'.ownsRow 0 _ 1 (.slice pf (filesB s.log.lg).length cap) (filesB (s.log.lg ++ [body])).length (lv2 ++ [v'])
        rw [hfs, List.length_append, hdl]
        simp only [List.length_cons, List.length_nil, Nat.zero_add]
        rw [hl2]
        exact hrow'
      · have hu' : (lv2 ++ [v'])[i]? = some u := hu
        rcases Nat.lt_trichotomy i lv2.length with hi | hi | hi
        · rw [List.getElem?_append_left hi] at hu'
          have hu2 : s.log.lv[i]? = some u := by rw [elv, List.getElem?_append_left hi]; exact hu'
          have h1 := h.log.ownB i u hu2 b e
          have hlt := ((h.log.rowB i u _ hu2 (List.getElem?_eq_getElem (by omega))).lt b e).2
          exact (hout b hlt).trans h1
        · subst hi
          simp at hu'
          subst hu'
          simp [e]
        · rw [List.getElem?_eq_none (by simp; omega)] at hu'; cases hu'
      · have hu' : (lv2 ++ [v'])[i]? = some u := hu
        have hg' : (filesB (s.log.lg ++ [body]))[i]? = some g := hg
        rw [hfs] at hg'
        rcases Nat.lt_trichotomy i lv2.length with hi | hi | hi
        · rw [List.getElem?_append_left hi] at hu'
          rw [List.getElem?_append_left (by omega), hdr i hi] at hg'
          have hu2 : s.log.lv[i]? = some u := by rw [elv, List.getElem?_append_left hi]; exact hu'
          have h0 := h.log.rowB i u g hu2 hg'
          refine ownsRow_same h0 (fun b e => hk'.block b (h0.lt b e).2 ?_)
          have h1 := h.log.ownB i u hu2 b e
          rintro (e2 | e2 | e2)
          · rw [e2, h.ownP] at h1; simp at h1
          · rw [ownF b e2] at h1; simp at h1
          · rw [ownV b e2] at h1; simp at h1; omega
        · subst hi
          rw [← hdl] at hg'
          simp at hu' hg'
          subst hu'; subst hg'
          exact hbr'
        · rw [List.getElem?_eq_none (by simp; omega)] at hu'; cases hu'

end

end Go.Proofs.YthbdpfccfcceiaaGreatDoor
