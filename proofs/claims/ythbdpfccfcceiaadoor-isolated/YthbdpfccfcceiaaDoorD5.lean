/-
  A record more in the log: opening, (*Journal).Add.
-/
import Derived.Test.YthbdpfccfcceiaaDoorD4
import Derived.Test.YthbdpfccfcceiaaDoorH3
import Derived.Lib.SlBytesConst
namespace Go.Proofs.YthbdpfccfcceiaaDoor
open Go.RowKit Go.Lib

theorem cell_of {w : World} {b : Nat} {cs : Array Value} {e : TypeId} {fz : Nat × Nat} (h : w.heap[b]? = some (.cells cs e fz)) (i : Nat) : w.cell? ⟨b, i, none⟩ = cs[i]? := by simp [World.cell?, h]

theorem infoRow : (Tryd.prog.info? 122).map (fun i => (i.zero, i.size, i.bytes)) = some (some (.slice none 0 0), 1, 24) := by kernel_rfl

/-- append of bytes onto a row that has no more room, of which nothing else is known: a row of its own. -/
theorem wpB_grow {ops : Array Oper} {rest : List Oper} {o : Oper} {a : Act} {Q : Exit → Act → World → Prop} (w : World) (hgd : o.guard = none) (s x : Operand)
    (ho : o.op = .call { callee := .builtin .append, args := #[s, x], argTypes := #[122, 122] })
    (g : Nat) (bs : List UInt8) (hs : a.eval s = .slice (some ⟨g, 0, none⟩) bs.length bs.length) (hc : ∀ j u, (bs.map b8)[j]? = some u → w.cell? ((⟨g, 0, none⟩ : Addr).add j) = some u) (xv : Value) (news : List UInt8) (hx : a.eval x = xv) (hr : RdB w xv news) (hne : news ≠ [])
    (hl : bs.length + news.length ≤ 1000000000)
    (h : ∀ v' w', BR w.heap.size w' v' (bs ++ news) → Kp (fun _ => False) w w' → wpList Tryd.prog ops Q rest (a.put o.dst v') w') :
    wpList Tryd.prog ops Q (o :: rest) a w := by
  obtain ⟨i0, hi, hz0, hz1, hz2⟩ := info_parts infoU8
  obtain ⟨g2, of, cap, rfl, hc2⟩ := hr.form hne
  have hpos := List.length_pos_iff.2 hne
  have hrun := run_append_grow (P := Tryd.prog) w 122 o.type 5 i0 (.int .u8 0) Tryd.underlying122 hi hz0 ⟨g, 0, none⟩ bs.length bs.length (bs.map b8) (by rw [hz1]; simp) hc ⟨g2, of, none⟩ news.length cap (news.map b8) (by rw [hz1]; simp) hc2 (by omega) (by omega) (by rw [hz2]; exact growslice_fits (by omega) (by omega))
  refine wpList_plain hgd fun K hK => ?_
  unfold Oper.wp execOp
  simp only [ho, resolve, invoke, builtin, Sem.run_bind, Sem.run_pure, Result.andThen_ok, List.map_toArray, List.map_cons, List.map_nil, hs, hx, hrun]
  refine hK _ _ (h _ _ ?_ ?_)
  · have hge := grownCap_ge w (bs.length + news.length) bs.length 5
    have hcm : grownCap w (bs.length + news.length) bs.length 5 ≤ maxLen := grownCap_le_maxLen w _ _ _ (by unfold maxLen; omega)
    unfold BR
    rw [List.length_append, List.map_append]
    refine ⟨by simp, Or.inr ⟨w.heap.size, _, _, rfl, Nat.le_refl _, heap_alloc_new w.drew _, hge, hcm, ?_, ?_⟩⟩
    · have hz3 : (Value.int IntKind.u8 0).cells.size = 1 := rfl
      simp only [Array.size_append, List.size_toArray, size_zeroCells, hz3, List.length_map]
      omega
    · simp only [Array.toList_append]
      rw [List.take_append_of_le_length (by simp), List.take_of_length_le (by simp)]
  · exact (Kp.drew (fun _ => False) w).trans (Kp.alloc (fun _ => False) _ _) (fun _ _ h => h)

section
variable {R : Ending → World → Prop}

set_option maxRecDepth 20000 in
set_option maxHeartbeats 1000000 in
theorem appendFour_full (g : Nat) (bs : List UInt8) (n : Nat) (w : World) (hc : ∀ j u, (bs.map b8)[j]? = some u → w.cell? ((⟨g, 0, none⟩ : Addr).add j) = some u) (hn : n < 4294967296) (hl : bs.length ≤ 100000000)
    (hR : ∀ v' w', BR w.heap.size w' v' (bs ++ fourB n) → Kp (fun _ => False) w w' → R (.returned v') w') :
    Calls Tryd.prog 79 #[.slice (some ⟨g, 0, none⟩) bs.length bs.length, .int .u32 n] w R := by
  have HR := hid_of hR
  have HC := hid_of hc
  have HL := hid_of hl
  clear hR hc hl
  go_enter Tryd.func79, Tryd.ntmps79
  go_wp2_with (first
    | (at_builtin; refine wpB_grow _ rfl _ _ rfl g bs rfl (fun j u hj => cell_alloc (HC.out j u hj) _) _ (fourB n) rfl (BR.rd (br_new w _ (fourB n) (by rw [fourB_b8, show ((n : Int) / 16777216 % 256) = (n : Int) / 16777216 by omega]) (by rw [fourB_length]; omega))) (by simp [fourB]) (by rw [fourB_length]; have := HL.out; omega) ?_; intro v' w' hv' hk')
    | go_in)
  exact HR.out v' w' (BR.mono hv' (by simp)) ((Kp.alloc _ _ _).trans hk' (fun _ _ h => h))

set_option maxRecDepth 20000 in
set_option maxHeartbeats 1000000 in
theorem opening_any (n : Nat) (w : World) (hT : Tab w) (hn : n < 4294967296)
    (hR : ∀ v' w', BR w.heap.size w' v' (openB n) → Kp (fun _ => False) w w' → R (.returned v') w') :
    Calls Tryd.prog 61 #[.int .i64 n] w R := by
  have HR := hid_of hR
  have HT := hid_of hT
  have hcv := run_convert_bytes_const (P := Tryd.prog) w 122 5 #[.int .u8 80, .int .u8 76, .int .u8 49] 3 3 Tryd.underlying122 Tryd.underlying5
  have HC : Hid (∀ j u, (([80, 76, 49] : List UInt8).map b8)[j]? = some u → (w.alloc (.cells #[.int .u8 80, .int .u8 76, .int .u8 49] 5 (3, 4))).cell? ((⟨w.heap.size, 0, none⟩ : Addr).add j) = some u) := fun j u hj => by
    rw [addr_add, Nat.zero_add]
    rw [cell_of (heap_alloc_new w _)]
    simpa [b8] using hj
  clear hR hT
  go_enter Tryd.func61, Tryd.ntmps61
  go_wp2_with (first
    | (go_at_call 79; refine appendFour_full w.heap.size [80, 76, 49] n _ HC.out hn (by simp) ?_; intro v1 w1 hv1 hk1; have HV1 : Hid (BR w.heap.size w1 v1 ([80, 76, 49] ++ fourB n)) := BR.mono hv1 (by simp); have HK1 : Hid (Kp (fun _ => False) w w1) := (Kp.alloc (fun _ => False) _ _).trans hk1 (fun _ _ h => h); clear hv1 hk1)
    | (go_at_call 78; refine seal_any w.heap.size v1 _ _ (HT.out.kept HK1.out) HV1.out (by simp [fourB_length]) HK1.out.size ?_; intro v2 w2 hv2 hk2)
    | go_in)
  exact HR.out v2 w2 hv2 (HK1.out.trans hk2 (fun b hb e => by have := (HV1.out.lt b e).1; omega))

/-- An element of a row, another. -/
theorem ownsRow_set {w : World} {e : TypeId} {g n cap : Nat} {xs : List Value} (h : w.ownsRow 0 e 1 (.slice (some ⟨g, 0, none⟩) n cap) n xs) (i : Nat) (v : Value) : (w.setCell ⟨g, i, none⟩ v).ownsRow 0 e 1 (.slice (some ⟨g, 0, none⟩) n cap) n (xs.set i v) := by
  refine ⟨by simpa using h.1, Or.inr ?_⟩
  rcases h.2 with ⟨h0, _⟩ | ⟨g', cap', cur, e1, h2, hg, h4, h5, h6, h7⟩
  · cases h0
  · injection e1 with e1 _ e3
    injection e1 with e1
    injection e1 with e1
    subst e1; subst e3
    refine ⟨g, cap, cur.setIfInBounds i v, rfl, h2, ?_, h4, h5, by simpa using h6, ?_⟩
    · simp [World.setCell, Array.getElem?_modify, hg]
    · rw [← h7]
      simp [List.take_set]

end

end Go.Proofs.YthbdpfccfcceiaaDoor
