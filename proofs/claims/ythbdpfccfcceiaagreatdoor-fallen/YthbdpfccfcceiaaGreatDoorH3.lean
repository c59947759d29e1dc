/-
  What the history's Add does: a version more, and a moment more behind its key's moments.
-/
import Derived.Test.YthbdpfccfcceiaaGreatDoorH1H2
import Derived.Deep.RegionLaw
import Derived.Maps.AppendAt
namespace Go.Proofs.YthbdpfccfcceiaaGreatDoor
open Go.RowKit Go.Maps

theorem fmap.store_all {P : Program} {k : TypeId} {w : World} {b n : Nat} {f : Value → Option Value} {t e : TypeId} (h : fmap w P k b n f) (K : Keyed P k) (ht : P.underlying t = some (.map k e)) (hn : n < maxLen) {key : Value} {kl : Lit} (hk : keyOf P k key = some kl) (val : Value) :
    ∃ w', (Instr.mapUpdate t (.map (some b)) key val).run P w = .ok () w' ∧ (∀ f', IsPut f key val f' → fmap w' P k b (if (f key).isSome then n else n + 1) f') ∧ w.mapTurned w' b := by
  classical
  have hp0 : IsPut f key val (fun x => if x = key then some val else f x) := ⟨by simp, fun x hx => by simp [hx]⟩
  obtain ⟨w', h1, h2, h3⟩ := h.store K ht hn hk val hp0
  refine ⟨w', h1, fun f' hp => ?_, h3⟩
  have : f' = fun x => if x = key then some val else f x := by
    funext x
    by_cases hx : x = key
    · subst hx; simp [hp.same]
    · simp [hx, hp.other x hx]
  rw [this]; exact h2

/-- append onto a row of the store's own, as one step of a region that draws. -/
theorem step_append_own {P : Program} {ops : Array Oper} {o : Oper} {a : Act} {w : World} {K : Act → World → Prop} {Q : Exit → Act → World → Prop} {E : Prop}
    (hg : o.guard = none) (s x : Operand) (t : TypeId) (hop : o.op = Op.call { callee := Callee.builtin Builtin.append, args := #[s, x], argTypes := #[t, t] })
    (base : Nat) (e : TypeId) (i : TypeInfo) (z : Value) (size bytes : Nat) (h1 : P.underlying t = some (.slice e)) (h2 : P.info? e = some i) (h3 : i.zero = some z) (h4 : i.size = size) (h5 : i.bytes = bytes) (h6 : z.cells.size = size) (h7 : 0 < size)
    (v : Value) (n : Nat) (xs : List Value) (hs : a.eval s = v) (hown : w.ownsRow base e size v n xs)
    (ad : Addr) (m c : Nat) (news : List Value) (hx : a.eval x = .slice (some ad) m c) (hn : news.length = m * size) (hc : ∀ j u, news[j]? = some u → w.cell? (ad.add j) = some u) (h1c : ∀ u ∈ news, u.oneCell' = true)
    (b1 : n + m ≤ maxLen) (b2 : (n + m) * bytes ≤ 140737488355328) (hbase : base ≤ w.heap.size)
    (hK : ∀ v' w', w'.ownsRow base e size v' (n + m) (xs ++ news) → w.grownBy w' v.ownBlock → (v'.ownBlock = v.ownBlock ∨ v'.ownBlock = some w.heap.size) → K (a.put o.dst v') w') :
    if Region.wanted o (yielded ops a.tmps) = true then Oper.wp P o a w K Q else E := by
  have hw : Region.wanted o (yielded ops a.tmps) = true := by simp [Region.wanted, hg]
  rw [if_pos hw]
  obtain ⟨v', w', hrun, r1, r2, _, r4⟩ := run_append_own_at (P := P) w base t o.type e i z size bytes h1 h2 h3 h4 h5 h6 h7 v n xs hown ad m c news hn hc h1c b1 b2 hbase
  unfold Oper.wp
  simp [execOp, hop, resolve, invoke, builtin, hs, hx, hrun, Result.andThen]
  exact hK v' w' r1 r2 r4

theorem infoInt : (Tryz.prog.info? 3).map (fun i => (i.zero, i.size, i.bytes)) = some (some (.int .i64 0), 1, 8) := by kernel_rfl

theorem fmap.ne_cells {P : Program} {k : TypeId} {w : World} {b n : Nat} {f : Value → Option Value} (h : fmap w P k b n f) {g : Nat} {cur : Array Value} {e : TypeId} {fz : Nat × Nat} (hg : w.heap[g]? = some (.cells cur e fz)) : g ≠ b := by
  intro he; subst he
  obtain ⟨D, ⟨es, clock, hb, _⟩, _⟩ := h
  rw [hb] at hg; cases hg

theorem ownsRow_ne {P : Program} {k : TypeId} {w : World} {b n : Nat} {f : Value → Option Value} (h : fmap w P k b n f) {base e size m : Nat} {v : Value} {xs : List Value} (hr : w.ownsRow base e size v m xs) : v.ownBlock ≠ some b := by
  rcases hr.2 with ⟨rfl, _⟩ | ⟨g, cap, cur, rfl, _, hg, _⟩
  · simp [Value.ownBlock]
  · simp only [Value.ownBlock, ne_eq, Option.some.injEq]; exact h.ne_cells hg

theorem ownsRow_kp {S : Nat → Prop} {w w' : World} {base e size m : Nat} {v : Value} {xs : List Value} (hr : w.ownsRow base e size v m xs) (hk : Kp S w w') (hs : ∀ b, v.ownBlock = some b → ¬ S b) : w'.ownsRow base e size v m xs := by
  refine ⟨hr.1, ?_⟩
  rcases hr.2 with h | ⟨g, cap, cur, rfl, hb, hg, r⟩
  · exact Or.inl h
  · exact Or.inr ⟨g, cap, cur, rfl, hb, (hk.block g (Array.getElem?_eq_some_iff.1 hg).1 (hs g rfl)).trans hg, r⟩

section
variable {R : Ending → World → Prop}

set_option maxRecDepth 20000 in
set_option maxHeartbeats 2000000 in
theorem add_any (ph mv mm n nv : Nat) (f fv : Value → Option Value) (key val : ByteArray) (gone : Bool) (t : Int) (w : World) (c0 : w.cell? ⟨ph, 0, none⟩ = some (.map (some mv))) (c1 : w.cell? ⟨ph, 1, none⟩ = some (.map (some mm)))
    (hown : fmap w Tryz.prog 9 mm n f) (hver : fmap w Tryz.prog 225 mv nv fv) (hne : mv ≠ mm) (hn : n < 1000000) (hnv : nv < 1000000)
    (hlen : key.size ≤ 8) (hwt : (Lit.int .i64 t).wf = true) (v : Value) (xs : List Int) (hf : (f (.string key)).getD (.slice none 0 0) = v) (hrow : w.ownsRow 0 3 1 v xs.length (xs.map (Value.int .i64))) (hl : xs.length < 1000000)
    (hvp : v.ownBlock ≠ some ph) {fv' : Value → Option Value} (hp : IsPut fv (.agg #[.string key, .int .i64 t]) (.agg #[.string val, .bool gone]) fv')
    (hR : ∀ w' v', Kp (fun b => b = mv ∨ b = mm ∨ v.ownBlock = some b) w w' → fmap w' Tryz.prog 225 mv (if (fv (.agg #[.string key, .int .i64 t])).isSome then nv else nv + 1) fv' →
      (∀ f', IsPut f (.string key) v' f' → fmap w' Tryz.prog 9 mm (if (f (.string key)).isSome then n else n + 1) f') → w'.ownsRow 0 3 1 v' (xs.length + 1) (xs.map (Value.int .i64) ++ [.int .i64 t]) →
      (v'.ownBlock = v.ownBlock ∨ ∃ b, v'.ownBlock = some b ∧ w.heap.size ≤ b) → R (.returned (.tuple #[])) w') :
    Calls Tryz.prog 79 #[.pointer (some ⟨ph, 0, none⟩), .string key, .int .i64 t, .agg #[.string val, .bool gone]] w R := by
  have hkey : Hid _ := WideMaps.keyOf_string_mk Tryz.underlying9 (show key.size ≤ maxLen by unfold maxLen; omega)
  obtain ⟨kl, hkl⟩ := keyPlace key t (by unfold maxLen; omega) hwt
  have HR : Hid _ := hR
  have hph : ph < w.heap.size := World.block_lt_of_cell? w _ c0
  have hmv := hver.lt
  have hmm := hown.lt
  have q1 : ph ≠ mv := fun e => by subst e; rw [hver.noCell] at c0; cases c0
  have q2 : ph ≠ mm := fun e => by subst e; rw [hown.noCell] at c0; cases c0
  -- the box
  have x0 : (w.alloc (.cells #[.string val, .bool gone] 138)).cell? ⟨ph, 0, none⟩ = some (.map (some mv)) := by go_simp
  have x1 : (w.alloc (.cells #[.string val, .bool gone] 138)).cell? ⟨ph, 1, none⟩ = some (.map (some mm)) := by go_simp
  have x2 : (w.alloc (.cells #[.string val, .bool gone] 138)).cell? ⟨w.heap.size, 0, none⟩ = some (.string val) := by go_simp
  have x3 : (w.alloc (.cells #[.string val, .bool gone] 138)).cell? ⟨w.heap.size, 1, none⟩ = some (.bool gone) := by go_simp
  have k0 : Kp (fun b => b = mv ∨ b = mm ∨ v.ownBlock = some b) w (w.alloc (.cells #[.string val, .bool gone] 138)).drew := (Kp.alloc _ _ _).trans (Kp.drew (fun b => b = mv ∨ b = mm ∨ v.ownBlock = some b) _) (fun _ _ h => h)
  have hown0 := (hown.alloc (.cells #[.string val, .bool gone] 138)).drew
  have hrow0 : (w.alloc (.cells #[.string val, .bool gone] 138)).drew.ownsRow 0 3 1 v xs.length (xs.map (Value.int .i64)) := ownsRow_kp hrow (S := fun _ => False) ((Kp.alloc _ _ _).trans (Kp.drew (fun _ => False) _) (fun _ _ h => h)) (fun _ _ h => h)
  obtain ⟨w1, hrun1, hver1, hturn1⟩ := ((hver.alloc (.cells #[.string val, .bool gone] 138)).drew).store kPlace Tryz.underlying206 (by unfold maxLen; omega) hkl (.agg #[.string val, .bool gone]) hp
  have hrow1 : w1.ownsRow 0 3 1 v xs.length (xs.map (Value.int .i64)) := ownsRow_kp hrow0 (S := fun b => b = mv) (Kp.of_turned hturn1 rfl) (fun b hb e => ownsRow_ne hver hrow (by rw [hb, e]))
  have hown1 : fmap w1 Tryz.prog 9 mm n f := hown0.of_block (mapTurned_block hturn1 mm (Ne.symm hne))
  have c1' : w1.cell? ⟨ph, 1, none⟩ = some (.map (some mm)) := by
    rw [World.cell?_of_block (w := (w.alloc (.cells #[.string val, .bool gone] 138)).drew) (mapTurned_block hturn1 ph q1)]; exact x1
  have k1 := k0.trans (Kp.of_turned (S := fun b => b = mv) hturn1 rfl) (fun _ _ h => Or.inl h)
  have hlk : Hid (∀ W : World, W.heap[mm]? = w1.heap[mm]? → (Instr.lookup 207 (.map (some mm)) (.string key) false).run Tryz.prog W = .ok v W) := fun W hW => by
    have := (hown1.of_block hW).look false kStr Tryz.underlying207 (zInts W) hkey.out
    rw [hf] at this
    simpa using this
  clear hR hown hver hown0 hrow0 hrow k0 hf hwt hkl hp c0 c1 hlen
  go_enter Tryz.func79, Tryz.ntmps79
  go_wp2_with fail
  go_region
  clear hrun1 x0 x1 x2 x3
  go_wp2_with fail
  have l1 := hlk.out w1.drew rfl
  have l2 : ∀ o, (Instr.lookup 207 (.map (some mm)) (.string key) false).run Tryz.prog (w1.alloc o).drew = .ok v (w1.alloc o).drew := fun o => hlk.out (w1.alloc o).drew (Below.heap_alloc _ _ _ hown1.lt)
  have hp1 : ph < w1.heap.size := World.block_lt_of_cell? w1 _ c1'
  obtain ⟨i0, hi, hz0, hz1, hz2⟩ := info_parts infoInt
  have B1 : Hid (xs.length < 1000000) := hl
  have B2 : Hid (n < 1000000) := hn
  have hrow2 : (w1.alloc (.cells #[.int .i64 t] 3)).drew.ownsRow 0 3 1 v xs.length (xs.map (Value.int .i64)) := ownsRow_kp hrow1 (S := fun _ => False) ((Kp.alloc _ _ _).trans (Kp.drew (fun _ => False) _) (fun _ _ h => h)) (fun _ _ h => h)
  have hown2 := (hown1.alloc (.cells #[.int .i64 t] 3)).drew
  have c2' : (w1.alloc (.cells #[.int .i64 t] 3)).drew.cell? ⟨ph, 1, none⟩ = some (.map (some mm)) := by go_simp
  have hs2 : (w1.alloc (.cells #[.int .i64 t] 3)).drew.heap.size = w1.heap.size + 1 := by simp
  have kw : w.heap.size ≤ w1.heap.size := k1.size
  clear hlk hl hn hnv hmv hmm hph q1
  have HNE : Hid (mv ≠ mm) := hne
  have HV1 : Hid (fmap (w1.alloc (.cells #[.int .i64 t] 3)).drew Tryz.prog 225 mv (if (fv (.agg #[.string key, .int .i64 t])).isSome then nv else nv + 1) fv') := (hver1.alloc (.cells #[.int .i64 t] 3)).drew
  clear hne hver1
  go_region_law (refine step_append_own rfl (.tmp 26) (.tmp 28) 26 rfl 0 3 i0 (.int .i64 0) 1 8 Tryz.underlying26 hi hz0 hz1 hz2 rfl (by decide) v xs.length (xs.map (Value.int .i64)) (by simp [Act.eval]) hrow2 ⟨w1.heap.size, 0, none⟩ 1 1 [.int .i64 t] (by simp [Act.eval]) rfl (cell_one_new _ _ _) (by simp [Value.oneCell']) (by have := B1.out; unfold maxLen; omega) (by have := B1.out; omega) (Nat.zero_le _) ?_; intro v' w3 hown' hgrow hloc; have k3 := (World.cell?_of_block (w := (w1.alloc (.cells #[.int .i64 t] 3)).drew) (a := ⟨ph, 1, none⟩) (hgrow.block ph (by rw [hs2]; omega) (fun e => hvp e.symm))).trans c2'; obtain ⟨w4, hrun4, hown4, hturn4⟩ := (hown2.of_block (hgrow.block mm hown2.lt (fun e => ownsRow_ne hown2 hrow2 e.symm))).store_all kStr Tryz.underlying207 (by have := B2.out; unfold maxLen; omega) hkey.out v'; replace HR := HR.out w4 v' (((k1.trans ((Kp.alloc (fun b => b = mv ∨ b = mm ∨ v.ownBlock = some b) _ _).trans (Kp.drew (fun b => b = mv ∨ b = mm ∨ v.ownBlock = some b) _) (fun _ _ h => h)) (fun _ _ h => h)).trans (Kp.of_grown (S := fun b => v.ownBlock = some b) hgrow (fun _ h => h)) (fun _ _ h => Or.inr (Or.inr h))).trans (Kp.of_turned (S := fun b => b = mm) hturn4 rfl) (fun _ _ h => Or.inr (Or.inl h))) (((HV1.out.of_block (hgrow.block mv HV1.out.lt (fun e => ownsRow_ne HV1.out hrow2 e.symm))).of_block (mapTurned_block hturn4 mv HNE.out))) hown4 (ownsRow_kp hown' (S := fun b => b = mm) (Kp.of_turned hturn4 rfl) (fun b hb e => ownsRow_ne (hown2.of_block (hgrow.block mm hown2.lt (fun e => ownsRow_ne hown2 hrow2 e.symm))) hown' (by rw [hb, e]))) (hloc.imp id (fun h => ⟨_, h, by rw [hs2]; omega⟩)); clear hown4 hturn4)
  all_goals
    clear hrun4 k3 l1 l2 c2' c1' hown' hgrow hloc hrow2 hown2 hrow1 hown1 k1 hturn1 HV1 hkey
    go_end0
    exact HR

end

end Go.Proofs.YthbdpfccfcceiaaGreatDoor
