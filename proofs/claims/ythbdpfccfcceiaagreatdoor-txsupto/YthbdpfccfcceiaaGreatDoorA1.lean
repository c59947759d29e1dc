/-
  append onto a row: what else lay in that row, and is a beginning of the new one, reads as it did.
-/
import Derived.Test.YthbdpfccfcceiaaGreatDoorS2S3
import Derived.Maps.AppendAt
namespace Go.Proofs.YthbdpfccfcceiaaGreatDoor
open Go.RowKit

section
variable {P : Program} {w w' : World}

theorem row_prefix {base e size : Nat} {u : Value} {k : Nat} {ys zs : List Value} (hu : w.ownsRow base e size u k ys) (hz : ys <+: zs) {g : Nat} {cur : Array Value} {rest : List Value} (hc : w.heap[g]? = some (.cells cur e (0, 0)))
    (hw : w'.heap[g]? = some (.cells (zs ++ rest).toArray e (0, 0))) (hsz : (zs ++ rest).length = cur.size) (hb : ∀ b, b < w.heap.size → b ≠ g → w'.heap[b]? = w.heap[b]?) : w'.ownsRow base e size u k ys := by
  refine ⟨hu.1, ?_⟩
  rcases hu.2 with h | ⟨b, cap, cu, rfl, hb0, hg, h1, h2, h3, h4⟩
  · exact Or.inl h
  · by_cases hbg : b = g
    · subst hbg
      rw [hg] at hc
      injection hc with hc
      injection hc with hc1 hc2 hc3
      refine Or.inr ⟨b, cap, _, rfl, hb0, hw, h1, h2, ?_, ?_⟩
      · rw [List.size_toArray, hsz, ← hc1, h3]
      · obtain ⟨t, rfl⟩ := hz
        rw [← hu.1]
        simp
    · exact Or.inr ⟨b, cap, cu, rfl, hb0, (hb b (block_lt hg) hbg).trans hg, h1, h2, h3, h4⟩

theorem append_keep (base : Nat) (t ty e : TypeId) (i : TypeInfo) (z : Value) (size bytes : Nat) (ht : P.underlying t = some (.slice e)) (hi : P.info? e = some i) (hz : i.zero = some z)
    (hsize : i.size = size) (hby : i.bytes = bytes)
    (v : Value) (n : Nat) (xs : List Value) (hown : w.ownsRow base e size v n xs)
    (a : Addr) (m c : Nat) (news : List Value) (hl : news.length = m * size) (hnews : ∀ j u, news[j]? = some u → w.cell? (a.add j) = some u) (h1 : ∀ u ∈ news, u.oneCell' = true)
    (h63 : n + m ≤ maxLen) (hbytes : (n + m) * bytes ≤ 140737488355328) (hm : 0 < m) {v' : Value}
    (hrun : (Builtin.append_ #[t, t] ty #[v, .slice (some a) m c]).run P w = .ok v' w') (u : Value) (k : Nat) (ys : List Value) (hu : w.ownsRow base e size u k ys) (hp : ys <+: xs ++ news) : w'.ownsRow base e size u k ys := by
  subst hsize
  subst hby
  have hsmall : n + m ≤ 9223372036854775807 := by simp only [maxLen] at h63; omega
  rcases hown.2 with ⟨rfl, rfl⟩ | ⟨g, cap, cur, rfl, hbg, hg, hnc, hcm, hcs, htake⟩
  · have hr := run_append_nil (P := P) w t ty e i z ht hi hz a m c news hl hnews hm (by omega) (by have hb := hbytes; simp only [Nat.zero_add] at hb; omega)
    rw [hr] at hrun
    injection hrun with _ hrun
    subst hrun
    exact ownsRow_kp hu ((Kp.drew (fun _ => False) w).trans (Kp.alloc (fun _ => False) _ _) (fun _ _ h => h)) (fun _ _ h => h)
  · by_cases hroom : n + m ≤ cap
    · have hfit : n * i.size + news.length ≤ cur.size := by rw [hl, hcs, ← Nat.add_mul]; exact Nat.mul_le_mul_right _ hroom
      have hr := run_append_room (P := P) w t ty e i ht hi g n cap cur hg a m c news hl hnews h1 hroom hfit
      rw [hr] at hrun
      injection hrun with _ hrun
      subst hrun
      have hs := setRow_heap w g cur (cur.toList.take (n * i.size) ++ news ++ cur.toList.drop (n * i.size + news.length)).toArray e (0, 0) hg
      rw [htake] at hs ⊢
      refine row_prefix hu hp (g := g) (rest := cur.toList.drop (n * i.size + news.length)) hg hs ?_ (fun b _ hb => setRow_other w g b _ hb)
      simp only [List.length_append, List.length_drop, Array.length_toList, hown.1]
      omega
    · have holds : ∀ j u, xs[j]? = some u → w.cell? ((⟨g, 0, none⟩ : Addr).add j) = some u := hown.cells (g := g) rfl
      have hr := run_append_grow (P := P) w t ty e i z ht hi hz ⟨g, 0, none⟩ n cap xs hown.1 holds a m c news hl hnews (by omega) (by omega) (growslice_fits (by omega) hbytes)
      rw [hr] at hrun
      injection hrun with _ hrun
      subst hrun
      exact ownsRow_kp hu ((Kp.drew (fun _ => False) w).trans (Kp.alloc (fun _ => False) _ _) (fun _ _ h => h)) (fun _ _ h => h)

/-- append onto a row, and what else lies there, as one step of a region that draws. -/
theorem step_append_keep {ops : Array Oper} {o : Oper} {a : Act} {K : Act → World → Prop} {Q : Exit → Act → World → Prop} {E : Prop}
    (hg : o.guard = none) (s x : Operand) (t : TypeId) (hop : o.op = Op.call { callee := Callee.builtin Builtin.append, args := #[s, x], argTypes := #[t, t] })
    (base : Nat) (e : TypeId) (i : TypeInfo) (z : Value) (size bytes : Nat) (h1 : P.underlying t = some (.slice e)) (h2 : P.info? e = some i) (h3 : i.zero = some z) (h4 : i.size = size) (h5 : i.bytes = bytes) (h6 : z.cells.size = size) (h7 : 0 < size)
    (v : Value) (n : Nat) (xs : List Value) (hs : a.eval s = v) (hown : w.ownsRow base e size v n xs)
    (ad : Addr) (m c : Nat) (news : List Value) (hx : a.eval x = .slice (some ad) m c) (hn : news.length = m * size) (hc : ∀ j u, news[j]? = some u → w.cell? (ad.add j) = some u) (h1c : ∀ u ∈ news, u.oneCell' = true)
    (b1 : n + m ≤ maxLen) (b2 : (n + m) * bytes ≤ 140737488355328) (hbase : base ≤ w.heap.size) (hm : 0 < m)
    (hK : ∀ v' w', w'.ownsRow base e size v' (n + m) (xs ++ news) → w.grownBy w' v.ownBlock → (v'.ownBlock = v.ownBlock ∨ v'.ownBlock = some w.heap.size) → (∀ u k ys, w.ownsRow base e size u k ys → ys <+: xs ++ news → w'.ownsRow base e size u k ys) → K (a.put o.dst v') w') :
    if Region.wanted o (yielded ops a.tmps) = true then Oper.wp P o a w K Q else E := by
  have hw : Region.wanted o (yielded ops a.tmps) = true := by simp [Region.wanted, hg]
  rw [if_pos hw]
  obtain ⟨v', w', hrun, r1, r2, _, r4⟩ := run_append_own_at (P := P) w base t o.type e i z size bytes h1 h2 h3 h4 h5 h6 h7 v n xs hown ad m c news hn hc h1c b1 b2 hbase
  have hkeep := append_keep base t o.type e i z size bytes h1 h2 h3 h4 h5 v n xs hown ad m c news hn hc h1c b1 b2 hm hrun
  unfold Oper.wp
  simp [execOp, hop, resolve, invoke, builtin, hs, hx, hrun, Result.andThen]
  exact hK v' w' r1 r2 r4 hkeep

/-- The same, where a region takes its operations in the text's order. -/
theorem wpL_append_keep {ops : Array Oper} {rest : List Oper} {o : Oper} {a : Act} {Q : Exit → Act → World → Prop} (hgd : o.guard = none) (s x : Operand) (t : TypeId)
    (hop : o.op = Op.call { callee := Callee.builtin Builtin.append, args := #[s, x], argTypes := #[t, t] })
    (base : Nat) (e : TypeId) (i : TypeInfo) (z : Value) (size bytes : Nat) (h1 : P.underlying t = some (.slice e)) (h2 : P.info? e = some i) (h3 : i.zero = some z) (h4 : i.size = size) (h5 : i.bytes = bytes) (h6 : z.cells.size = size) (h7 : 0 < size)
    (v : Value) (n : Nat) (xs : List Value) (hs : a.eval s = v) (hown : w.ownsRow base e size v n xs)
    (ad : Addr) (m c : Nat) (news : List Value) (hx : a.eval x = .slice (some ad) m c) (hn : news.length = m * size) (hc : ∀ j u, news[j]? = some u → w.cell? (ad.add j) = some u) (h1c : ∀ u ∈ news, u.oneCell' = true)
    (b1 : n + m ≤ maxLen) (b2 : (n + m) * bytes ≤ 140737488355328) (hbase : base ≤ w.heap.size) (hm : 0 < m)
    (hK : ∀ v' w', w'.ownsRow base e size v' (n + m) (xs ++ news) → w.grownBy w' v.ownBlock → (v'.ownBlock = v.ownBlock ∨ v'.ownBlock = some w.heap.size) → (∀ u k ys, w.ownsRow base e size u k ys → ys <+: xs ++ news → w'.ownsRow base e size u k ys) → wpList P ops Q rest (a.put o.dst v') w') :
    wpList P ops Q (o :: rest) a w := by
  obtain ⟨v', w', hrun, r1, r2, _, r4⟩ := run_append_own_at (P := P) w base t o.type e i z size bytes h1 h2 h3 h4 h5 h6 h7 v n xs hown ad m c news hn hc h1c b1 b2 hbase
  have hkeep := append_keep base t o.type e i z size bytes h1 h2 h3 h4 h5 v n xs hown ad m c news hn hc h1c b1 b2 hm hrun
  refine wpList_plain hgd fun _ hKK => ?_
  unfold Oper.wp execOp
  simp only [hop, resolve, invoke, builtin, Sem.run_bind, Sem.run_pure, Result.andThen_ok, List.map_toArray, List.map_cons, List.map_nil, hs, hx, hrun]
  exact hKK _ _ (hK v' w' r1 r2 r4 hkeep)

end

end Go.Proofs.YthbdpfccfcceiaaGreatDoor
