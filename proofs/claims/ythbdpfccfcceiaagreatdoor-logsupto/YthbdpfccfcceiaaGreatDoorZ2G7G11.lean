/-
  A new store.
  A new pair of stores.
  One step of the law's script of the kinds of stage 2, on whichever pair of stores: it makes the call that those kinds make.
-/
import Derived.Test.YthbdpfccfcceiaaGreatDoorC2L1L2Q1Q2
import Derived.Test.YthbdpfccfcceiaaGreatDoorT2G2Z1
import Derived.Test.YthbdpfccfcceiaaGreatDoorG4G5T4T5
import Derived.Test.YthbdpfccfcceiaaGreatDoorG6
namespace Go.Proofs.YthbdpfccfcceiaaGreatDoor
open Go.RowKit

section
variable {own : Nat → Lab} {c : Nat} {w w' : World}
variable {R : Ending → World → Prop}

/-- A store that New gave lies in its six blocks. -/
theorem x_new (s : Nat) (hm0 : w'.heap[s]? = some (.map #[] 0)) (hm1 : w'.heap[s + 1]? = some (.map #[] 0)) (hm2 : w'.heap[s + 3]? = some (.map #[] 0)) (hm3 : w'.heap[s + 4]? = some (.map #[] 0))
    (hh : w'.heap[s + 2]? = some (.cells #[.map (some s), .map (some (s + 1))] 209 (0, 0)))
    (hs : w'.heap[s + 5]? = some (.cells (newCells (s + 3) (s + 2) (s + 4)) 102 (0, 0)))
    (o0 : own s = ⟨c, 3, 0, eb⟩) (o1 : own (s + 1) = ⟨c, 4, 0, eb⟩) (o2 : own (s + 2) = ⟨c, 2, 0, eb⟩) (o3 : own (s + 3) = ⟨c, 1, 0, eb⟩) (o4 : own (s + 4) = ⟨c, 10, 0, eb⟩) (o5 : own (s + 5) = ⟨c, 0, 0, eb⟩) : XE own c w' (s + 5) (newXS (s + 4)) := by
  have f : ∀ (k : TypeId) (b : Nat), w'.heap[b]? = some (.map #[] 0) → fmap w' Tryz.prog k b 0 (fun _ => none) := fun k b hb => by
    have hlt := block_lt hb
    have hz : ({ w' with heap := w'.heap.extract 0 b } : World).heap.size = b := by simp; omega
    have h := fmap_made ({ w' with heap := w'.heap.extract 0 b } : World) Tryz.prog k
    have hn := heap_alloc_new ({ w' with heap := w'.heap.extract 0 b } : World) (.map #[] 0)
    rw [hz] at h hn
    exact h.of_block (hb.trans hn.symm)
  refine ⟨s + 3, s + 2, s, s + 1, fun _ => 0, fun _ => 0, fun _ => .slice none 0 0, o5, o3, o2, o0, o1, hs, hh, ?_, ?_, ?_, ?_, ?_, ?_, ?_, ?_, ⟨fun b e => by simp [newXS, Value.ownBlock] at e, World.ownsRow_nil _ _ _ _, fun i v hv => by simp [newXS] at hv, fun i v f hv => by simp [newXS] at hv⟩, ⟨o4, ?_, fun n b e => (by cases e), fun n b e => (by cases e)⟩⟩
  · refine (show (encI fun n => ((newXS (s + 4)).txs n).map fun _ => Value.pointer (some ⟨0, 0, none⟩)) = fun _ => none from ?_) ▸ f _ _ hm2
    funext v; unfold encI; split <;> rfl
  · intro n t e; cases e
  · intro n t e; cases e
  · intro n t e; cases e
  · refine (show (encP fun k m => ((newXS (s + 4)).ver k m).map encVer) = fun _ => none from ?_) ▸ f _ _ hm0
    funext v; unfold encP; split
    · split <;> rfl
    · rfl
  · refine (show (encS fun k => if (newXS (s + 4)).mom k = [] then none else some (Value.slice none 0 0)) = fun _ => none from ?_) ▸ f _ _ hm1
    funext v; cases v <;> rfl
  · intro k hk; exact absurd rfl hk
  · intro k hk; exact absurd rfl hk
  · refine (show (encI fun n => ((newXS (s + 4)).bk.un n).map fun b => Value.pointer (some ⟨b.pb, 0, none⟩)) = fun _ => none from ?_) ▸ f _ _ hm3
    funext v; unfold encI; split <;> rfl

theorem heap_push (w : World) (o : Obj) : (w.alloc o).heap = w.heap.push o := rfl

theorem new_any' (w : World) (s : Nat) (hs : w.heap.size = s)
    (hR : ∀ w3, Kp (fun _ => False) w w3 → w3.heap.size = s + 6 → w3.heap[s]? = some (.map #[] 0) → w3.heap[s + 1]? = some (.map #[] 0) → w3.heap[s + 3]? = some (.map #[] 0) → w3.heap[s + 4]? = some (.map #[] 0) →
      w3.heap[s + 2]? = some (.cells #[.map (some s), .map (some (s + 1))] 209 (0, 0)) →
      w3.heap[s + 5]? = some (.cells (newCells (s + 3) (s + 2) (s + 4)) 102 (0, 0)) → R (.returned (.pointer (some ⟨s + 5, 0, none⟩))) w3) :
    Calls Tryz.prog 33 #[] w R := by
  subst hs
  refine new_any w (hR _ ?_ (by simp) ?_ ?_ ?_ ?_ ?_ ?_)
  · exact (((((Kp.alloc _ _ _).trans (Kp.alloc (fun _ => False) _ _) (fun _ _ h => h)).trans (Kp.alloc (fun _ => False) _ _) (fun _ _ h => h)).trans (Kp.alloc (fun _ => False) _ _) (fun _ _ h => h)).trans (Kp.alloc (fun _ => False) _ _) (fun _ _ h => h)).trans (Kp.alloc (fun _ => False) _ _) (fun _ _ h => h)
  all_goals
    simp only [heap_push, Array.getElem?_push, Array.size_push]
    repeat (first | rw [if_pos (by omega)] | rw [if_neg (by omega)])
    exact if_pos trivial

/-- A new store, beside all that was there. -/
theorem e_new (w : World) (hT : Tab w) (hR : ∀ w' p, ∀ mu, St (fun b => b < w.heap.size) w' p (newXS mu) → Kp (fun _ => False) w w' → R (.returned (.pointer (some ⟨p, 0, none⟩))) w') :
    Calls Tryz.prog 33 #[] w R := by
  refine new_any' w _ rfl (fun w3 k3 s3 b0 b1 b2 b5 b3 b4 => hR w3 _ (w.heap.size + 4) ⟨fun b => if b = w.heap.size then ⟨2, 3, 0, eb⟩ else if b = w.heap.size + 1 then ⟨2, 4, 0, eb⟩ else if b = w.heap.size + 2 then ⟨2, 2, 0, eb⟩ else if b = w.heap.size + 3 then ⟨2, 1, 0, eb⟩ else if b = w.heap.size + 4 then ⟨2, 10, 0, eb⟩ else if b = w.heap.size + 5 then ⟨2, 0, 0, eb⟩ else ⟨0, 9, 0, eb⟩, x_new w.heap.size b0 b1 b2 b5 b3 b4 (by simp) (by simp) (by simp) (by simp) (by simp) (by simp), fun b hb => ⟨by omega, ?_⟩, hT.kept k3, ?_⟩ k3)
  · rw [if_neg (by omega), if_neg (by omega), if_neg (by omega), if_neg (by omega), if_neg (by omega), if_neg (by omega)]
    simp
  · have h0 := hT.lt
    unfold TabN
    simp only []
    rw [if_neg (by omega), if_neg (by omega), if_neg (by omega), if_neg (by omega), if_neg (by omega), if_neg (by omega), if_neg (by omega), if_neg (by omega), if_neg (by omega), if_neg (by omega), if_neg (by omega), if_neg (by omega)]
    simp

end

end Go.Proofs.YthbdpfccfcceiaaGreatDoor

namespace Go.Proofs.YthbdpfccfcceiaaGreatDoor
open Go.RowKit

section
variable {own own' : Nat → Lab} {c : Nat} {w w' : World} {p nt : Nat} {ds : List (Nat × Nat)} {vL vP vK : Value} {bk : BO}
variable {R : Ending → World → Prop}

theorem y_new (q : Nat) (hq : w'.heap[q]? = some (.cells #[.slice none 0 0, .int .i64 0, .int .i64 0, .slice none 0 0, .slice none 0 0, .int .i64 0, .slice none 0 0] 78 (0, 0))) (o : own q = ⟨c, 0, 0, eb⟩) : YE own c w' q newYS := by
  refine ⟨.slice none 0 0, .slice none 0 0, .slice none 0 0, [], [], ⟨o, hq, World.ownsRow_nil _ _ _ _, ?_, rfl, World.ownsRow_nil _ _ _ _, ?_, ?_, ?_, World.ownsRow_nil _ _ _ _, ?_⟩, by simp [newYS], rfl, fun i x b h => by simp at h⟩
  · intro b e; cases e
  · intro b e; cases e
  · intro i hi; exact absurd hi (by simp [newYS])
  · intro i hi; exact absurd hi (by simp)
  · intro b e; cases e

theorem infoDuo : (Tryz.prog.info? 81).map (fun i => (i.zero, i.size, i.bytes)) = some (some (.agg #[.pointer none, .pointer none]), 2, 16) := by kernel_rfl

theorem two_new' (w : World) (o : Obj) (x y : Value) (t : TypeId) : ∀ j u, [x, y][j]? = some u → ((w.alloc o).alloc (.cells #[x, y] t)).cell? ((⟨w.heap.size + 1, 0, none⟩ : Addr).add j) = some u := by
  have h := two_new (w.alloc o) x y t
  have e : (w.alloc o).heap.size = w.heap.size + 1 := by simp
  rw [e] at h
  exact h

theorem cellsD_snoc (l : List (Nat × Nat)) (q : Nat × Nat) : cellsD (l ++ [q]) = cellsD l ++ [.pointer (some ⟨q.1, 0, none⟩), .pointer (some ⟨q.2, 0, none⟩)] := by simp [cellsD]

def yStore : Obj := .cells #[.slice none 0 0, .int .i64 0, .int .i64 0, .slice none 0 0, .slice none 0 0, .int .i64 0, .slice none 0 0] 78

def newOwn (own : Nat → Lab) (n i : Nat) (b : Nat) : Lab :=
  if b < n then own b else if b = n + 1 then ⟨2 * i + 2, 3, 0, eb⟩ else if b = n + 2 then ⟨2 * i + 2, 4, 0, eb⟩ else if b = n + 3 then ⟨2 * i + 2, 2, 0, eb⟩ else if b = n + 4 then ⟨2 * i + 2, 1, 0, eb⟩ else if b = n + 5 then ⟨2 * i + 2, 10, 0, eb⟩ else if b = n + 6 then ⟨2 * i + 2, 0, 0, eb⟩
  else if b = n + 7 then ⟨2 * i + 3, 0, 0, eb⟩ else if b = n + 9 then ⟨0, 1, 0, eb⟩ else lab9

theorem newOwn_old (n i : Nat) {b : Nat} (h : b < n) : newOwn own n i b = own b := by simp [newOwn, h]

/-- The law's memory with a pair more. -/
theorem Inv.grown (h : Inv own w p ds vL vP vK bk nt) {w3 w4 : World} {v4 : Value} {o : Obj} (k3 : Kp (fun _ => False) w w3) (s3 : w3.heap.size = w.heap.size + 1 + 6)
    (b0 : w3.heap[w.heap.size + 1]? = some (.map #[] 0)) (b1 : w3.heap[w.heap.size + 1 + 1]? = some (.map #[] 0)) (b2 : w3.heap[w.heap.size + 1 + 3]? = some (.map #[] 0)) (b5 : w3.heap[w.heap.size + 1 + 4]? = some (.map #[] 0))
    (b3 : w3.heap[w.heap.size + 1 + 2]? = some (.cells #[.map (some (w.heap.size + 1)), .map (some (w.heap.size + 1 + 1))] 209 (0, 0)))
    (b4 : w3.heap[w.heap.size + 1 + 5]? = some (.cells (newCells (w.heap.size + 1 + 3) (w.heap.size + 1 + 2) (w.heap.size + 1 + 4)) 102 (0, 0)))
    (g4 : ((w3.alloc yStore).alloc o).grownBy w4 vL.ownBlock) (l4 : v4.ownBlock = vL.ownBlock ∨ v4.ownBlock = some ((w3.alloc yStore).alloc o).heap.size)
    (r4 : w4.ownsRow 0 81 2 v4 (ds.length + 1) (cellsD ds ++ [.pointer (some ⟨w.heap.size + 1 + 5, 0, none⟩), .pointer (some ⟨w3.heap.size, 0, none⟩)])) :
    Kp (fun b => own b ≠ lab9) w (w4.setCell ⟨p, 0, none⟩ v4) ∧ Inv (newOwn own w.heap.size ds.length) (w4.setCell ⟨p, 0, none⟩ v4) p (ds ++ [(w.heap.size + 1 + 5, w3.heap.size)]) v4 vP vK bk (nt + 1) := by
  have lp := block_lt h.book.world
  have lL : ∀ b, vL.ownBlock = some b → b < w.heap.size := fun b e => (h.rowL.lt b e).2
  have npL : vL.ownBlock ≠ some p := fun e => by
    have := h.ownL p e
    rw [h.book.ownP] at this; simp at this
  have k4 : Kp (fun b => vL.ownBlock = some b) w3 w4 := ((Kp.alloc _ _ _).trans (Kp.alloc (fun b => vL.ownBlock = some b) _ _) (fun _ _ h => h)).trans (Kp.of_grown (S := fun b => vL.ownBlock = some b) g4 (fun _ h => h)) (fun _ _ h => h)
  have k5 : Kp (fun b => b = p) w4 (w4.setCell ⟨p, 0, none⟩ v4) := Kp.setCell w4 _ _ rfl
  have kk : Kp (fun b => vL.ownBlock = some b ∨ b = p) w (w4.setCell ⟨p, 0, none⟩ v4) := ((kpF k3).trans (k4.mono (S' := fun b => vL.ownBlock = some b ∨ b = p) (fun _ _ h => Or.inl h)) (fun _ _ h => h)).trans (k5.mono (S' := fun b => vL.ownBlock = some b ∨ b = p) (fun _ _ h => Or.inr h)) (fun _ _ h => h)
  -- blocks since w
  have nw : ∀ b o, w.heap.size ≤ b → w3.heap[b]? = some o → (w4.setCell ⟨p, 0, none⟩ v4).heap[b]? = some o := fun b o hb e =>
    ((k5.block b (Nat.lt_of_lt_of_le (block_lt e) k4.size) (fun e => by omega)).trans (k4.block b (block_lt e) (fun e => by have := lL b e; omega))).trans e
  have by4 : w4.heap[w3.heap.size]? = some yStore := by
    rw [g4.block w3.heap.size (by simp; omega) (fun e => by have := lL _ e.symm; omega), Below.heap_alloc _ _ _ (by simp)]
    exact heap_alloc_new w3 _
  have by5 : (w4.setCell ⟨p, 0, none⟩ v4).heap[w3.heap.size]? = some yStore := (k5.block _ (block_lt by4) (fun e => by omega)).trans by4
  have T : ∀ b, b < w.heap.size → own b ≠ ⟨0, 0, 0, eb⟩ → own b ≠ ⟨0, 1, 0, eb⟩ → (w4.setCell ⟨p, 0, none⟩ v4).heap[b]? = w.heap[b]? := fun b hb n0 n1 => kk.block b hb (fun e => by
    rcases e with e | e
    · exact n1 (h.ownL b e)
    · exact n0 (by rw [e]; exact h.book.ownP))
  have A : ∀ b, b < w.heap.size → newOwn own w.heap.size ds.length b = own b := fun b hb => newOwn_old _ _ hb
  have hp4 : w4.heap[p]? = some (.cells (worldC vL vP vK bk) 68 (0, 0)) := (k4.block p (Nat.lt_of_lt_of_le lp k3.size) npL).trans ((k3.block p lp (fun e => e)).trans h.book.world)
  have B := h.book
  have hnd := h.nds
  have hnb := h.nbk
  refine ⟨kk.mono (fun b _ e => ?_), ⟨⟨(A p lp).trans B.ownP, ?_, ?_, ?_, ?_, ?_, B.four, ?_, ?_, B.num⟩, ?_, ?_, ?_, by simp; omega, by omega, h.tab.block (T 0 h.tab.lt.1 (by rw [h.tabO.1]; simp [lab9]) (by rw [h.tabO.1]; simp [lab9])) (T 1 h.tab.lt.2 (by rw [h.tabO.2]; simp [lab9]) (by rw [h.tabO.2]; simp [lab9])), ⟨(A 0 h.tab.lt.1).trans h.tabO.1, (A 1 h.tab.lt.2).trans h.tabO.2⟩, h.more.frame (fun b hb hl => T b hb (fun e => by rw [e] at hl; unfold BqL at hl; simp at hl) (fun e => by rw [e] at hl; unfold BqL at hl; simp at hl)) (fun b hb _ => A b hb)⟩⟩
  · rcases e with e | e
    · rw [h.ownL b e]; simp [lab9]
    · rw [e, B.ownP]; simp [lab9]
  · exact heap_setCell_at hp4 _
  · exact ownsRow_block B.rowP (fun b e => T b (B.rowP.lt b e).2 (by rw [B.ownQ b e]; simp) (by rw [B.ownQ b e]; simp))
  · exact fun b e => (A b (B.rowP.lt b e).2).trans (B.ownQ b e)
  · exact ownsRow_block B.rowK (fun b e => T b (B.rowK.lt b e).2 (by rw [B.ownK b e]; simp) (by rw [B.ownK b e]; simp))
  · exact fun b e => (A b (B.rowK.lt b e).2).trans (B.ownK b e)
  · exact fun q hq => ownsRow_block (B.lists q hq) (fun b e => T b ((B.lists q hq).lt b e).2 (fun e2 => by have := B.ownR q hq b e; rw [e2] at this; simp at this) (fun e2 => by have := B.ownR q hq b e; rw [e2] at this; simp at this))
  · exact fun q hq b e => by rw [A b ((B.lists q hq).lt b e).2]; exact B.ownR q hq b e
  · rw [List.length_append, cellsD_snoc]
    refine ownsRow_kp r4 k5 (fun b e e2 => ?_)
    rcases l4 with l4 | l4
    · exact npL (by rw [← l4, ← e2]; exact e)
    · rw [l4] at e
      injection e with e
      simp at e
      omega
  · intro b e
    rcases l4 with l4 | l4
    · rw [l4] at e
      exact (A b (lL b e)).trans (h.ownL b e)
    · rw [l4] at e
      injection e with e
      simp [s3] at e
      have : b = w.heap.size + 9 := by omega
      subst this
      unfold newOwn
      rw [if_neg (by omega), if_neg (by omega), if_neg (by omega), if_neg (by omega), if_neg (by omega), if_neg (by omega), if_neg (by omega), if_neg (by omega), if_pos (by omega)]
  · intro i hi
    by_cases hd : i < ds.length
    · rw [List.getElem_append_left hd]
      refine ((h.duos i hd).frame (fun b hb hc => ?_) (fun b hb _ => A b hb)).mono (by omega)
      have nz : ∀ l : Lab, l.c ≤ 1 → l ≠ lab9 → own b ≠ l := fun l hl h9 e => by
        rcases hc with hc | hc
        · unfold Cap at hc
          rw [e] at hc
          rcases hc with hc | hc <;> omega
        · exact h9 (e.symm.trans hc)
      exact T b hb (nz _ (by simp) (by simp [lab9])) (nz _ (by simp) (by simp [lab9]))
    · have hi' : i = ds.length := by simp at hi; omega
      subst hi'
      simp only [List.getElem_append_right (Nat.le_refl _), Nat.sub_self, List.getElem_cons_zero]
      refine ⟨newXS (w.heap.size + 1 + 4), newYS, ?_, ?_, tied_new _, yi_new, by simp [newYS]⟩
      · exact x_new (w.heap.size + 1) (nw _ _ (by omega) b0) (nw _ _ (by omega) b1) (nw _ _ (by omega) b2) (nw _ _ (by omega) b5) (nw _ _ (by omega) b3) (nw _ _ (by omega) b4) (by unfold newOwn; rw [if_neg (by omega), if_pos (by omega)]) (by unfold newOwn; rw [if_neg (by omega), if_neg (by omega), if_pos (by omega)]) (by unfold newOwn; rw [if_neg (by omega), if_neg (by omega), if_neg (by omega), if_pos (by omega)]) (by unfold newOwn; rw [if_neg (by omega), if_neg (by omega), if_neg (by omega), if_neg (by omega), if_pos (by omega)]) (by unfold newOwn; rw [if_neg (by omega), if_neg (by omega), if_neg (by omega), if_neg (by omega), if_neg (by omega), if_pos (by omega)]) (by unfold newOwn; rw [if_neg (by omega), if_neg (by omega), if_neg (by omega), if_neg (by omega), if_neg (by omega), if_neg (by omega), if_pos (by omega)])
      · exact y_new w3.heap.size by5 (by unfold newOwn; rw [if_neg (by omega), if_neg (by omega), if_neg (by omega), if_neg (by omega), if_neg (by omega), if_neg (by omega), if_neg (by omega), if_pos (by omega)])

set_option maxRecDepth 20000 in
set_option maxHeartbeats 2000000 in
theorem step_new (h : Inv own w p ds vL vP vK bk nt) (hnt : nt < 1000000) (e a b : Int) (st tt : ByteArray) (vl vm : Value)
    (hK : ∀ w' own' vL' q, Kp (fun b => own b ≠ lab9) w w' → (∀ b, b < w.heap.size → own' b = own b) → Inv own' w' p (ds ++ [q]) vL' vP vK bk (nt + 1) → R (.returned (.bool true)) w') :
    Calls Tryz.prog 31 #[.pointer (some ⟨p, 0, none⟩), .agg #[.int .i64 1, .int .i64 e, .int .i64 a, .int .i64 b, .string st, .string tt, vl, vm]] w R := by
  have H := hid_of h
  have HK := hid_of hK
  have HNT := hid_of hnt
  obtain ⟨i0, hi⟩ := info_parts infoDuo
  have HI := hid_of hi
  have lp : p < w.heap.size := block_lt h.book.world
  have c0 : w.cell? ⟨p, 0, none⟩ = some vL := cell_of h.book.world 0
  have C0 := hid_of c0
  have HL := hid_of h.rowL
  have LP := hid_of lp
  have HW := hid_of h.book.world
  have NPL : Hid (vL.ownBlock ≠ some p) := fun e => by
    have := h.ownL p e
    rw [h.book.ownP] at this; simp at this
  have HND : Hid (ds.length ≤ nt) := h.nds
  clear h hK hnt hi lp c0
  go_enter Tryz.func31, Tryz.ntmps31
  go_wp2_with (first
    | (go_at_call 33; refine new_any' _ (w.heap.size + 1) ?_ (fun w3 k3 s3 b0 b1 b2 b5 b3 b4 => ?_); (simp); have k3' := (Kp.alloc (fun _ => False) w (.cells #[.int .i64 1, .int .i64 e, .int .i64 a, .int .i64 b, .string st, .string tt, vl, vm] 71)).trans k3 (fun _ _ h => h); have d0 := (k3'.cell (a := ⟨p, 0, none⟩) LP.out (fun h => h)).trans C0.out; have K3 := hid_of k3'; have S3 := hid_of s3; have B0 := hid_of b0; have B1 := hid_of b1; have B2 := hid_of b2; have B5 := hid_of b5; have B3 := hid_of b3; have B4 := hid_of b4; clear k3 k3' s3 b0 b1 b2 b5 b3 b4)
    | (at_builtin; refine wpL_append_keep rfl _ _ 62 rfl 0 81 i0 (.agg #[.pointer none, .pointer none]) 2 16 Tryz.underlying62 HI.out.1 HI.out.2.1 HI.out.2.2.1 HI.out.2.2.2 rfl (by decide) _ _ _ rfl (((ownsRow_kp HL.out K3.out (fun _ _ h => h)).alloc _).alloc _) ⟨w3.heap.size + 1, 0, none⟩ 1 1 [.pointer (some ⟨w.heap.size + 1 + 5, 0, none⟩), .pointer (some ⟨w3.heap.size, 0, none⟩)] rfl rfl (two_new' w3 _ _ _ _) (by simp [Value.oneCell']) (by have := HNT.out; have := HND.out; unfold maxLen; omega) (by have := HNT.out; have := HND.out; omega) (Nat.zero_le _) (by decide) ?_; intro v4 w4 own4 grow4 loc4 keep4; have hk4 := ((Kp.alloc (fun b => vL.ownBlock = some b) w3 yStore).trans (Kp.alloc (fun b => vL.ownBlock = some b) _ _) (fun _ _ h => h)).trans (Kp.of_grown (S := fun b => vL.ownBlock = some b) grow4 (fun _ h => h)) (fun _ _ h => h); have hp4 := mbs hk4 ((K3.out.block p LP.out (fun h => h)).trans HW.out) NPL.out; have y0 : w4.cell? ⟨p, 0, none⟩ = some vL := cell_of hp4 0; have yf := frozen_of hp4 0; obtain ⟨a4, cap4, rfl, _⟩ := row_len own4; have HF := hid_of (H.out.grown K3.out S3.out B0.out B1.out B2.out B5.out B3.out B4.out grow4 loc4 own4); clear hk4 hp4 own4 grow4 loc4 keep4)
    | fail)
  exact HK.out _ _ _ _ HF.out.1 (fun _ hb => newOwn_old _ _ hb) HF.out.2

end

end Go.Proofs.YthbdpfccfcceiaaGreatDoor

namespace Go.Proofs.YthbdpfccfcceiaaGreatDoor
open Go.RowKit

section
variable {own : Nat → Lab} {w : World} {p nt : Nat} {ds : List (Nat × Nat)} {vL vP vK : Value} {bk : BO}
variable {R : Ending → World → Prop}

set_option maxRecDepth 20000 in
set_option maxHeartbeats 2000000 in
theorem step_10 (h : Inv own w p ds vL vP vK bk nt) (h0 : 0 < ds.length) (hnt : nt < 1000000) (e a b : Int) (he : -9223372036854775808 ≤ e ∧ e ≤ 9223372036854775807) (st tt : ByteArray) (vl vm : Value)
    (hC : ∀ w2 (i : Nat) (hi : i < ds.length), Kp (fun _ => False) w w2 → Calls Tryz.prog 62 #[.pointer (some ⟨p, 0, none⟩), .agg #[.pointer (some ⟨(ds[i]).1, 0, none⟩), .pointer (some ⟨(ds[i]).2, 0, none⟩)], .agg #[.int .i64 10, .int .i64 e, .int .i64 a, .int .i64 b, .string st, .string tt, vl, vm]] w2 (fun r w' => r = .returned (.bool true) ∧ R (.returned (.bool true)) w')) :
    Calls Tryz.prog 31 #[.pointer (some ⟨p, 0, none⟩), .agg #[.int .i64 10, .int .i64 e, .int .i64 a, .int .i64 b, .string st, .string tt, vl, vm]] w R := by
  obtain ⟨g, cap, hvL, hcap, hgl, hcells⟩ := duos_row h.rowL h0
  have hk1 : Kp (fun _ => False) w (w.alloc (.cells #[.int .i64 10, .int .i64 e, .int .i64 a, .int .i64 b, .string st, .string tt, vl, vm] 71)) := Kp.alloc _ _ _
  have lp : p < w.heap.size := block_lt h.book.world
  have c0 : w.cell? ⟨p, 0, none⟩ = some vL := cell_of h.book.world 0
  rw [hvL] at c0
  have d0 := (hk1.cell (a := ⟨p, 0, none⟩) lp (fun h => h)).trans c0
  have hil := pickN_lt e ds.length h0
  have e0 := (hk1.cell (a := ⟨g, pickN e ds.length * 2, none⟩) hgl (fun h => h)).trans (hcells _ hil).1
  have e1 := (hk1.cell (a := ⟨g, pickN e ds.length * 2 + 1, none⟩) hgl (fun h => h)).trans (hcells _ hil).2
  have z1 : (w.alloc (.cells #[.int .i64 10, .int .i64 e, .int .i64 a, .int .i64 b, .string st, .string tt, vl, vm] 71)).cell? ⟨w.heap.size, 1, none⟩ = some (.int .i64 e) := cell_of (heap_alloc_new w _) 1
  have hil' : (pickN e ds.length : Int) < ds.length := by omega
  have ng1 : g ≠ w.heap.size + 1 := by omega
  have np1 : p ≠ w.heap.size + 1 := by omega
  have hn1 := h.nds
  have hdl : (ds.length : Int) < 1000000 := by omega
  have HCALL := hid_of (fun w2 (k : Kp (fun _ => False) w w2) => hC w2 _ hil k)
  have HE := hid_of he
  have H0 := hid_of h0
  have HLT : Hid (ds.length < 1000000000) := by show _ < _; omega
  generalize hds : ds[pickN e ds.length] = d at *
  clear hds hil
  generalize hpi : pickN e ds.length = i at *
  clear h hC hcells hvL hk1 he hnt hn1 h0 c0 lp hgl
  go_enter Tryz.func31, Tryz.ntmps31
  go_wp2
  go_region_held3 (fun w' => w'.cell? ⟨p, 0, none⟩ = some (.slice (some ⟨g, 0, none⟩) ds.length cap) ∧ w'.cell? ⟨w.heap.size, 1, none⟩ = some (.int .i64 e) ∧ w'.cell? ⟨g, i * 2, none⟩ = some (.pointer (some ⟨d.1, 0, none⟩)) ∧ w'.cell? ⟨g, i * 2 + 1, none⟩ = some (.pointer (some ⟨d.2, 0, none⟩))) (go_keep) ((go_at_call 60; refine pick_any e ds.length _ HE.out H0.out HLT.out ?_; rw [hpi]))
  all_goals
    go_wp2_with (first
      | (go_at_call 62; refine (HCALL.out _ ?_).mono ?_; (exact ((Kp.alloc _ _ _).trans (Kp.alloc (fun _ => False) _ _) (fun _ _ h => h)).trans (Kp.drew (fun _ => False) _) (fun _ _ h => h)); rintro r w'' ⟨rfl, hr⟩)
      | fail)
    exact hr

set_option maxRecDepth 20000 in
set_option maxHeartbeats 2000000 in
theorem step_11 (h : Inv own w p ds vL vP vK bk nt) (h0 : 0 < ds.length) (hnt : nt < 1000000) (e a b : Int) (he : -9223372036854775808 ≤ e ∧ e ≤ 9223372036854775807) (st tt : ByteArray) (vl vm : Value)
    (hC : ∀ w2 (i : Nat) (hi : i < ds.length), Kp (fun _ => False) w w2 → Calls Tryz.prog 62 #[.pointer (some ⟨p, 0, none⟩), .agg #[.pointer (some ⟨(ds[i]).1, 0, none⟩), .pointer (some ⟨(ds[i]).2, 0, none⟩)], .agg #[.int .i64 11, .int .i64 e, .int .i64 a, .int .i64 b, .string st, .string tt, vl, vm]] w2 (fun r w' => r = .returned (.bool true) ∧ R (.returned (.bool true)) w')) :
    Calls Tryz.prog 31 #[.pointer (some ⟨p, 0, none⟩), .agg #[.int .i64 11, .int .i64 e, .int .i64 a, .int .i64 b, .string st, .string tt, vl, vm]] w R := by
  obtain ⟨g, cap, hvL, hcap, hgl, hcells⟩ := duos_row h.rowL h0
  have hk1 : Kp (fun _ => False) w (w.alloc (.cells #[.int .i64 11, .int .i64 e, .int .i64 a, .int .i64 b, .string st, .string tt, vl, vm] 71)) := Kp.alloc _ _ _
  have lp : p < w.heap.size := block_lt h.book.world
  have c0 : w.cell? ⟨p, 0, none⟩ = some vL := cell_of h.book.world 0
  rw [hvL] at c0
  have d0 := (hk1.cell (a := ⟨p, 0, none⟩) lp (fun h => h)).trans c0
  have hil := pickN_lt e ds.length h0
  have e0 := (hk1.cell (a := ⟨g, pickN e ds.length * 2, none⟩) hgl (fun h => h)).trans (hcells _ hil).1
  have e1 := (hk1.cell (a := ⟨g, pickN e ds.length * 2 + 1, none⟩) hgl (fun h => h)).trans (hcells _ hil).2
  have z1 : (w.alloc (.cells #[.int .i64 11, .int .i64 e, .int .i64 a, .int .i64 b, .string st, .string tt, vl, vm] 71)).cell? ⟨w.heap.size, 1, none⟩ = some (.int .i64 e) := cell_of (heap_alloc_new w _) 1
  have hil' : (pickN e ds.length : Int) < ds.length := by omega
  have ng1 : g ≠ w.heap.size + 1 := by omega
  have np1 : p ≠ w.heap.size + 1 := by omega
  have hn1 := h.nds
  have hdl : (ds.length : Int) < 1000000 := by omega
  have HCALL := hid_of (fun w2 (k : Kp (fun _ => False) w w2) => hC w2 _ hil k)
  have HE := hid_of he
  have H0 := hid_of h0
  have HLT : Hid (ds.length < 1000000000) := by show _ < _; omega
  generalize hds : ds[pickN e ds.length] = d at *
  clear hds hil
  generalize hpi : pickN e ds.length = i at *
  clear h hC hcells hvL hk1 he hnt hn1 h0 c0 lp hgl
  go_enter Tryz.func31, Tryz.ntmps31
  go_wp2
  go_region_held3 (fun w' => w'.cell? ⟨p, 0, none⟩ = some (.slice (some ⟨g, 0, none⟩) ds.length cap) ∧ w'.cell? ⟨w.heap.size, 1, none⟩ = some (.int .i64 e) ∧ w'.cell? ⟨g, i * 2, none⟩ = some (.pointer (some ⟨d.1, 0, none⟩)) ∧ w'.cell? ⟨g, i * 2 + 1, none⟩ = some (.pointer (some ⟨d.2, 0, none⟩))) (go_keep) ((go_at_call 60; refine pick_any e ds.length _ HE.out H0.out HLT.out ?_; rw [hpi]))
  all_goals
    go_wp2_with (first
      | (go_at_call 62; refine (HCALL.out _ ?_).mono ?_; (exact ((Kp.alloc _ _ _).trans (Kp.alloc (fun _ => False) _ _) (fun _ _ h => h)).trans (Kp.drew (fun _ => False) _) (fun _ _ h => h)); rintro r w'' ⟨rfl, hr⟩)
      | fail)
    exact hr

set_option maxRecDepth 20000 in
set_option maxHeartbeats 2000000 in
theorem step_12 (h : Inv own w p ds vL vP vK bk nt) (h0 : 0 < ds.length) (hnt : nt < 1000000) (e a b : Int) (he : -9223372036854775808 ≤ e ∧ e ≤ 9223372036854775807) (st tt : ByteArray) (vl vm : Value)
    (hC : ∀ w2 (i : Nat) (hi : i < ds.length), Kp (fun _ => False) w w2 → Calls Tryz.prog 62 #[.pointer (some ⟨p, 0, none⟩), .agg #[.pointer (some ⟨(ds[i]).1, 0, none⟩), .pointer (some ⟨(ds[i]).2, 0, none⟩)], .agg #[.int .i64 12, .int .i64 e, .int .i64 a, .int .i64 b, .string st, .string tt, vl, vm]] w2 (fun r w' => r = .returned (.bool true) ∧ R (.returned (.bool true)) w')) :
    Calls Tryz.prog 31 #[.pointer (some ⟨p, 0, none⟩), .agg #[.int .i64 12, .int .i64 e, .int .i64 a, .int .i64 b, .string st, .string tt, vl, vm]] w R := by
  obtain ⟨g, cap, hvL, hcap, hgl, hcells⟩ := duos_row h.rowL h0
  have hk1 : Kp (fun _ => False) w (w.alloc (.cells #[.int .i64 12, .int .i64 e, .int .i64 a, .int .i64 b, .string st, .string tt, vl, vm] 71)) := Kp.alloc _ _ _
  have lp : p < w.heap.size := block_lt h.book.world
  have c0 : w.cell? ⟨p, 0, none⟩ = some vL := cell_of h.book.world 0
  rw [hvL] at c0
  have d0 := (hk1.cell (a := ⟨p, 0, none⟩) lp (fun h => h)).trans c0
  have hil := pickN_lt e ds.length h0
  have e0 := (hk1.cell (a := ⟨g, pickN e ds.length * 2, none⟩) hgl (fun h => h)).trans (hcells _ hil).1
  have e1 := (hk1.cell (a := ⟨g, pickN e ds.length * 2 + 1, none⟩) hgl (fun h => h)).trans (hcells _ hil).2
  have z1 : (w.alloc (.cells #[.int .i64 12, .int .i64 e, .int .i64 a, .int .i64 b, .string st, .string tt, vl, vm] 71)).cell? ⟨w.heap.size, 1, none⟩ = some (.int .i64 e) := cell_of (heap_alloc_new w _) 1
  have hil' : (pickN e ds.length : Int) < ds.length := by omega
  have ng1 : g ≠ w.heap.size + 1 := by omega
  have np1 : p ≠ w.heap.size + 1 := by omega
  have hn1 := h.nds
  have hdl : (ds.length : Int) < 1000000 := by omega
  have HCALL := hid_of (fun w2 (k : Kp (fun _ => False) w w2) => hC w2 _ hil k)
  have HE := hid_of he
  have H0 := hid_of h0
  have HLT : Hid (ds.length < 1000000000) := by show _ < _; omega
  generalize hds : ds[pickN e ds.length] = d at *
  clear hds hil
  generalize hpi : pickN e ds.length = i at *
  clear h hC hcells hvL hk1 he hnt hn1 h0 c0 lp hgl
  go_enter Tryz.func31, Tryz.ntmps31
  go_wp2
  go_region_held3 (fun w' => w'.cell? ⟨p, 0, none⟩ = some (.slice (some ⟨g, 0, none⟩) ds.length cap) ∧ w'.cell? ⟨w.heap.size, 1, none⟩ = some (.int .i64 e) ∧ w'.cell? ⟨g, i * 2, none⟩ = some (.pointer (some ⟨d.1, 0, none⟩)) ∧ w'.cell? ⟨g, i * 2 + 1, none⟩ = some (.pointer (some ⟨d.2, 0, none⟩))) (go_keep) ((go_at_call 60; refine pick_any e ds.length _ HE.out H0.out HLT.out ?_; rw [hpi]))
  all_goals
    go_wp2_with (first
      | (go_at_call 62; refine (HCALL.out _ ?_).mono ?_; (exact ((Kp.alloc _ _ _).trans (Kp.alloc (fun _ => False) _ _) (fun _ _ h => h)).trans (Kp.drew (fun _ => False) _) (fun _ _ h => h)); rintro r w'' ⟨rfl, hr⟩)
      | fail)
    exact hr

set_option maxRecDepth 20000 in
set_option maxHeartbeats 2000000 in
theorem step_13 (h : Inv own w p ds vL vP vK bk nt) (h0 : 0 < ds.length) (hnt : nt < 1000000) (e a b : Int) (he : -9223372036854775808 ≤ e ∧ e ≤ 9223372036854775807) (st tt : ByteArray) (vl vm : Value)
    (hC : ∀ w2 (i : Nat) (hi : i < ds.length), Kp (fun _ => False) w w2 → Calls Tryz.prog 62 #[.pointer (some ⟨p, 0, none⟩), .agg #[.pointer (some ⟨(ds[i]).1, 0, none⟩), .pointer (some ⟨(ds[i]).2, 0, none⟩)], .agg #[.int .i64 13, .int .i64 e, .int .i64 a, .int .i64 b, .string st, .string tt, vl, vm]] w2 (fun r w' => r = .returned (.bool true) ∧ R (.returned (.bool true)) w')) :
    Calls Tryz.prog 31 #[.pointer (some ⟨p, 0, none⟩), .agg #[.int .i64 13, .int .i64 e, .int .i64 a, .int .i64 b, .string st, .string tt, vl, vm]] w R := by
  obtain ⟨g, cap, hvL, hcap, hgl, hcells⟩ := duos_row h.rowL h0
  have hk1 : Kp (fun _ => False) w (w.alloc (.cells #[.int .i64 13, .int .i64 e, .int .i64 a, .int .i64 b, .string st, .string tt, vl, vm] 71)) := Kp.alloc _ _ _
  have lp : p < w.heap.size := block_lt h.book.world
  have c0 : w.cell? ⟨p, 0, none⟩ = some vL := cell_of h.book.world 0
  rw [hvL] at c0
  have d0 := (hk1.cell (a := ⟨p, 0, none⟩) lp (fun h => h)).trans c0
  have hil := pickN_lt e ds.length h0
  have e0 := (hk1.cell (a := ⟨g, pickN e ds.length * 2, none⟩) hgl (fun h => h)).trans (hcells _ hil).1
  have e1 := (hk1.cell (a := ⟨g, pickN e ds.length * 2 + 1, none⟩) hgl (fun h => h)).trans (hcells _ hil).2
  have z1 : (w.alloc (.cells #[.int .i64 13, .int .i64 e, .int .i64 a, .int .i64 b, .string st, .string tt, vl, vm] 71)).cell? ⟨w.heap.size, 1, none⟩ = some (.int .i64 e) := cell_of (heap_alloc_new w _) 1
  have hil' : (pickN e ds.length : Int) < ds.length := by omega
  have ng1 : g ≠ w.heap.size + 1 := by omega
  have np1 : p ≠ w.heap.size + 1 := by omega
  have hn1 := h.nds
  have hdl : (ds.length : Int) < 1000000 := by omega
  have HCALL := hid_of (fun w2 (k : Kp (fun _ => False) w w2) => hC w2 _ hil k)
  have HE := hid_of he
  have H0 := hid_of h0
  have HLT : Hid (ds.length < 1000000000) := by show _ < _; omega
  generalize hds : ds[pickN e ds.length] = d at *
  clear hds hil
  generalize hpi : pickN e ds.length = i at *
  clear h hC hcells hvL hk1 he hnt hn1 h0 c0 lp hgl
  go_enter Tryz.func31, Tryz.ntmps31
  go_wp2
  go_region_held3 (fun w' => w'.cell? ⟨p, 0, none⟩ = some (.slice (some ⟨g, 0, none⟩) ds.length cap) ∧ w'.cell? ⟨w.heap.size, 1, none⟩ = some (.int .i64 e) ∧ w'.cell? ⟨g, i * 2, none⟩ = some (.pointer (some ⟨d.1, 0, none⟩)) ∧ w'.cell? ⟨g, i * 2 + 1, none⟩ = some (.pointer (some ⟨d.2, 0, none⟩))) (go_keep) ((go_at_call 60; refine pick_any e ds.length _ HE.out H0.out HLT.out ?_; rw [hpi]))
  all_goals
    go_wp2_with (first
      | (go_at_call 62; refine (HCALL.out _ ?_).mono ?_; (exact ((Kp.alloc _ _ _).trans (Kp.alloc (fun _ => False) _ _) (fun _ _ h => h)).trans (Kp.drew (fun _ => False) _) (fun _ _ h => h)); rintro r w'' ⟨rfl, hr⟩)
      | fail)
    exact hr

set_option maxRecDepth 20000 in
set_option maxHeartbeats 2000000 in
theorem step_14 (h : Inv own w p ds vL vP vK bk nt) (h0 : 0 < ds.length) (hnt : nt < 1000000) (e a b : Int) (he : -9223372036854775808 ≤ e ∧ e ≤ 9223372036854775807) (st tt : ByteArray) (vl vm : Value)
    (hC : ∀ w2 (i : Nat) (hi : i < ds.length), Kp (fun _ => False) w w2 → Calls Tryz.prog 62 #[.pointer (some ⟨p, 0, none⟩), .agg #[.pointer (some ⟨(ds[i]).1, 0, none⟩), .pointer (some ⟨(ds[i]).2, 0, none⟩)], .agg #[.int .i64 14, .int .i64 e, .int .i64 a, .int .i64 b, .string st, .string tt, vl, vm]] w2 (fun r w' => r = .returned (.bool true) ∧ R (.returned (.bool true)) w')) :
    Calls Tryz.prog 31 #[.pointer (some ⟨p, 0, none⟩), .agg #[.int .i64 14, .int .i64 e, .int .i64 a, .int .i64 b, .string st, .string tt, vl, vm]] w R := by
  obtain ⟨g, cap, hvL, hcap, hgl, hcells⟩ := duos_row h.rowL h0
  have hk1 : Kp (fun _ => False) w (w.alloc (.cells #[.int .i64 14, .int .i64 e, .int .i64 a, .int .i64 b, .string st, .string tt, vl, vm] 71)) := Kp.alloc _ _ _
  have lp : p < w.heap.size := block_lt h.book.world
  have c0 : w.cell? ⟨p, 0, none⟩ = some vL := cell_of h.book.world 0
  rw [hvL] at c0
  have d0 := (hk1.cell (a := ⟨p, 0, none⟩) lp (fun h => h)).trans c0
  have hil := pickN_lt e ds.length h0
  have e0 := (hk1.cell (a := ⟨g, pickN e ds.length * 2, none⟩) hgl (fun h => h)).trans (hcells _ hil).1
  have e1 := (hk1.cell (a := ⟨g, pickN e ds.length * 2 + 1, none⟩) hgl (fun h => h)).trans (hcells _ hil).2
  have z1 : (w.alloc (.cells #[.int .i64 14, .int .i64 e, .int .i64 a, .int .i64 b, .string st, .string tt, vl, vm] 71)).cell? ⟨w.heap.size, 1, none⟩ = some (.int .i64 e) := cell_of (heap_alloc_new w _) 1
  have hil' : (pickN e ds.length : Int) < ds.length := by omega
  have ng1 : g ≠ w.heap.size + 1 := by omega
  have np1 : p ≠ w.heap.size + 1 := by omega
  have hn1 := h.nds
  have hdl : (ds.length : Int) < 1000000 := by omega
  have HCALL := hid_of (fun w2 (k : Kp (fun _ => False) w w2) => hC w2 _ hil k)
  have HE := hid_of he
  have H0 := hid_of h0
  have HLT : Hid (ds.length < 1000000000) := by show _ < _; omega
  generalize hds : ds[pickN e ds.length] = d at *
  clear hds hil
  generalize hpi : pickN e ds.length = i at *
  clear h hC hcells hvL hk1 he hnt hn1 h0 c0 lp hgl
  go_enter Tryz.func31, Tryz.ntmps31
  go_wp2
  go_region_held3 (fun w' => w'.cell? ⟨p, 0, none⟩ = some (.slice (some ⟨g, 0, none⟩) ds.length cap) ∧ w'.cell? ⟨w.heap.size, 1, none⟩ = some (.int .i64 e) ∧ w'.cell? ⟨g, i * 2, none⟩ = some (.pointer (some ⟨d.1, 0, none⟩)) ∧ w'.cell? ⟨g, i * 2 + 1, none⟩ = some (.pointer (some ⟨d.2, 0, none⟩))) (go_keep) ((go_at_call 60; refine pick_any e ds.length _ HE.out H0.out HLT.out ?_; rw [hpi]))
  all_goals
    go_wp2_with (first
      | (go_at_call 62; refine (HCALL.out _ ?_).mono ?_; (exact ((Kp.alloc _ _ _).trans (Kp.alloc (fun _ => False) _ _) (fun _ _ h => h)).trans (Kp.drew (fun _ => False) _) (fun _ _ h => h)); rintro r w'' ⟨rfl, hr⟩)
      | fail)
    exact hr

end

end Go.Proofs.YthbdpfccfcceiaaGreatDoor
