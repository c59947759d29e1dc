/-
  What is written behind a row of bytes: numbers, sums, texts, versions.
-/
import Derived.Test.YthbdpfccfcceiaaGreatDoorD2
import Derived.Maps.AppendAt
import Derived.Lib.AppendStr
import Derived.Laws.AppendOwn
import Derived.Deep.RegionLaw
import Derived.Conc.Own4
namespace Go.Proofs.YthbdpfccfcceiaaGreatDoor
open Go.RowKit Go.Lib

theorem infoU8 : (Tryz.prog.info? 5).map (fun i => (i.zero, i.size, i.bytes)) = some (some (.int .u8 0), 1, 1) := by kernel_rfl
theorem b8_one (bs : List UInt8) : ∀ u ∈ bs.map b8, u.oneCell' = true := fun u hu => by
  obtain ⟨x, _, rfl⟩ := List.mem_map.1 hu; rfl
theorem strCells_b8 (s : ByteArray) : strCells s = s.data.toList.map b8 := by simp [strCells, b8]
theorem addr_add (g o j : Nat) : (⟨g, o, none⟩ : Addr).add j = ⟨g, o + j, none⟩ := by unfold Addr.add; split <;> simp_all

theorem BR.lt {base : Nat} {w : World} {v : Value} {bs : List UInt8} (h : BR base w v bs) : ∀ b, v.ownBlock = some b → base ≤ b ∧ b < w.heap.size := World.ownsRow.lt h
theorem BR.kp {S : Nat → Prop} {base : Nat} {w w' : World} {v : Value} {bs : List UInt8} (h : BR base w v bs) (hk : Kp S w w') (hs : ∀ b, v.ownBlock = some b → ¬ S b) : BR base w' v bs := by
  refine ⟨h.1, ?_⟩
  rcases h.2 with h0 | ⟨g, cap, cur, rfl, hb, hg, r⟩
  · exact Or.inl h0
  · exact Or.inr ⟨g, cap, cur, rfl, hb, (hk.block g (Array.getElem?_eq_some_iff.1 hg).1 (hs g rfl)).trans hg, r⟩
theorem BR.kept {base : Nat} {w w' : World} {v : Value} {bs : List UInt8} (h : BR base w v bs) (hk : Kp (fun _ => False) w w') : BR base w' v bs := h.kp hk (fun _ _ e => e)
theorem BR.mono {base base' : Nat} {w : World} {v : Value} {bs : List UInt8} (h : BR base w v bs) (hb : base' ≤ base) : BR base' w v bs :=
  ⟨h.1, h.2.imp id (fun ⟨g, cap, cur, e1, e2, e3⟩ => ⟨g, cap, cur, e1, Nat.le_trans hb e2, e3⟩)⟩
theorem RdB.kp {S : Nat → Prop} {w w' : World} {v : Value} {bs : List UInt8} (h : RdB w v bs) (hk : Kp S w w') (hs : ∀ b, v.ownBlock = some b → ¬ S b) : RdB w' v bs := by
  obtain ⟨p, cap, rfl, h1⟩ := h
  refine ⟨p, cap, rfl, fun hb => ?_⟩
  obtain ⟨g, o, rfl, hc⟩ := h1 hb
  exact ⟨g, o, rfl, fun j hj => (hk.cell (a := ⟨g, o + j, none⟩) (World.block_lt_of_cell? w _ (hc j hj)) (hs g rfl)).trans (hc j hj)⟩
theorem RdB.kept {w w' : World} {v : Value} {bs : List UInt8} (h : RdB w v bs) (hk : Kp (fun _ => False) w w') : RdB w' v bs := h.kp hk (fun _ _ e => e)
/-- A row of bytes that is not empty, plainly. -/
theorem RdB.form {w : World} {v : Value} {bs : List UInt8} (h : RdB w v bs) (hb : bs ≠ []) : ∃ g o cap, v = .slice (some ⟨g, o, none⟩) bs.length cap ∧ ∀ j u, (bs.map b8)[j]? = some u → w.cell? ((⟨g, o, none⟩ : Addr).add j) = some u := by
  obtain ⟨p, cap, rfl, h1⟩ := h
  obtain ⟨g, o, rfl, hc⟩ := h1 hb
  refine ⟨g, o, cap, rfl, fun j u hu => ?_⟩
  rw [List.getElem?_map] at hu
  have hj : j < bs.length := by
    rcases Nat.lt_or_ge j bs.length with h | h
    · exact h
    · rw [List.getElem?_eq_none h] at hu; cases hu
  rw [List.getElem?_eq_getElem hj] at hu
  rw [addr_add, hc j hj]
  simp only [List.getD, List.getElem?_eq_getElem hj]
  simpa using hu

/-- append of bytes onto a row of bytes. -/
theorem wpB_append {ops : Array Oper} {rest : List Oper} {o : Oper} {a : Act} {Q : Exit → Act → World → Prop} (w : World) (hgd : o.guard = none) (s x : Operand)
    (ho : o.op = .call { callee := .builtin .append, args := #[s, x], argTypes := #[48, 48] })
    (base : Nat) (v : Value) (bs : List UInt8) (hs : a.eval s = v) (hown : BR base w v bs) (xv : Value) (news : List UInt8) (hx : a.eval x = xv) (hr : RdB w xv news) (hne : news ≠ [])
    (hl : bs.length + news.length ≤ 1000000000) (hbase : base ≤ w.heap.size)
    (h : ∀ v' w', BR base w' v' (bs ++ news) → Kp (fun b => v.ownBlock = some b) w w' → (v'.ownBlock = v.ownBlock ∨ v'.ownBlock = some w.heap.size) → wpList Tryz.prog ops Q rest (a.put o.dst v') w') :
    wpList Tryz.prog ops Q (o :: rest) a w := by
  obtain ⟨i0, hi, hz0, hz1, hz2⟩ := info_parts infoU8
  obtain ⟨g, of, cap, rfl, hc⟩ := hr.form hne
  refine wpList_append_own_at _ hgd s x 48 ho base 5 i0 (.int .u8 0) 1 1 Tryz.underlying48 hi hz0 hz1 hz2 rfl (by decide) v bs.length (bs.map b8) hs hown ⟨g, of, none⟩ news.length cap (news.map b8) hx (by simp) hc (b8_one _) (by unfold maxLen; omega) (by omega) hbase (fun v' w' h1 h2 _ h4 => ?_)
  refine h v' w' ?_ (Kp.of_grown h2 (fun _ e => e)) h4
  unfold BR
  rw [List.length_append, List.map_append]
  exact h1

theorem Kp.cellv {w0 w1 : World} {v x : Value} {a : Addr} {n : Nat} (hk : Kp (fun b => v.ownBlock = some b) w0 w1) (hne : ∀ b, v.ownBlock = some b → b < n) (hn : n ≤ a.block) (h : w0.cell? a = some x) : w1.cell? a = some x :=
  (hk.cell (World.block_lt_of_cell? w0 _ h) (fun e => by have := hne _ e; omega)).trans h

/-- A call by its contract, as one step of a region that draws. -/
theorem step_call {P : Program} {ops : Array Oper} {o : Oper} {a : Act} {w : World} {K : Act → World → Prop} {Q : Exit → Act → World → Prop} {E : Prop}
    (hg : o.guard = none) (f : FuncId) (fn : Func) (args : Array Operand) (ats : Array TypeId) (hop : o.op = .call { callee := .value (.func f), args, argTypes := ats }) (hf : P.funcs[f]? = some fn) (hname : (fn.name == "runtime.NumGoroutine") = false) (hb : fn.body.isNone = false)
    (vs : Array Value) (hvs : args.map a.eval = vs) (hc : Calls P f vs w (fun e w' => ∃ v, e = .returned v ∧ K (a.put o.dst v) w')) :
    if Region.wanted o (yielded ops a.tmps) = true then Oper.wp P o a w K Q else E := by
  have hw : Region.wanted o (yielded ops a.tmps) = true := by simp [Region.wanted, hg]
  rw [if_pos hw]
  subst hvs
  unfold Oper.wp
  rw [Conc.run_call_body hop hf hname hb, Oper.upon_enter]
  refine hc.mono fun e w' hh => ?_
  obtain ⟨v, rfl, h⟩ := hh
  exact h

/-- append of bytes onto a row of bytes, as one step of a region that draws. -/
theorem stepB_append {ops : Array Oper} {o : Oper} {a : Act} {w : World} {K : Act → World → Prop} {Q : Exit → Act → World → Prop} {E : Prop} (hg : o.guard = none) (s x : Operand)
    (hop : o.op = .call { callee := .builtin .append, args := #[s, x], argTypes := #[48, 48] })
    (base : Nat) (v : Value) (bs : List UInt8) (hs : a.eval s = v) (hown : BR base w v bs) (xv : Value) (news : List UInt8) (hx : a.eval x = xv) (hr : RdB w xv news) (hne : news ≠ [])
    (hl : bs.length + news.length ≤ 1000000000) (hbase : base ≤ w.heap.size)
    (hK : ∀ v' w', BR base w' v' (bs ++ news) → Kp (fun b => v.ownBlock = some b) w w' → (v'.ownBlock = v.ownBlock ∨ v'.ownBlock = some w.heap.size) → K (a.put o.dst v') w') :
    if Region.wanted o (yielded ops a.tmps) = true then Oper.wp Tryz.prog o a w K Q else E := by
  have hw : Region.wanted o (yielded ops a.tmps) = true := by simp [Region.wanted, hg]
  rw [if_pos hw]
  obtain ⟨i0, hi, hz0, hz1, hz2⟩ := info_parts infoU8
  obtain ⟨g, of, cap, rfl, hc⟩ := hr.form hne
  obtain ⟨v', w', hrun, r1, r2, _, r4⟩ := run_append_own_at (P := Tryz.prog) w base 48 o.type 5 i0 (.int .u8 0) 1 1 Tryz.underlying48 hi hz0 hz1 hz2 rfl (by decide) v bs.length (bs.map b8) hown ⟨g, of, none⟩ news.length cap (news.map b8) (by simp) hc (b8_one _) (by unfold maxLen; omega) (by omega) hbase
  unfold Oper.wp
  simp [execOp, hop, resolve, invoke, builtin, hs, hx, hrun, Result.andThen]
  refine hK v' w' ?_ (Kp.of_grown r2 (fun _ e => e)) r4
  unfold BR
  rw [List.length_append, List.map_append]
  exact r1

/-- append of a text onto a row of bytes. -/
theorem wpB_text {ops : Array Oper} {rest : List Oper} {o : Oper} {a : Act} {Q : Exit → Act → World → Prop} (w : World) (hgd : o.guard = none) (s x : Operand)
    (ho : o.op = .call { callee := .builtin .append, args := #[s, x], argTypes := #[48, 9] })
    (base : Nat) (v : Value) (bs : List UInt8) (hs : a.eval s = v) (hown : BR base w v bs) (t : ByteArray) (hx : a.eval x = .string t)
    (hl : bs.length + t.size ≤ 1000000000) (hbase : base ≤ w.heap.size)
    (h : ∀ v' w', BR base w' v' (bs ++ t.data.toList) → Kp (fun b => v.ownBlock = some b) w w' → wpList Tryz.prog ops Q rest (a.put o.dst v') w') :
    wpList Tryz.prog ops Q (o :: rest) a w := by
  obtain ⟨i0, hi, hz0, hz1, hz2⟩ := info_parts infoU8
  refine wpList_append_own_string _ hgd s x 48 9 ho base 5 i0 Tryz.underlying48 Tryz.underlying9 hi hz0 hz1 hz2 v bs.length (bs.map b8) hs hown t hx (by unfold maxLen; omega) (by omega) hbase (fun v' w' h1 h2 _ => ?_)
  refine h v' w' ?_ (Kp.of_grown h2 (fun _ e => e))
  unfold BR
  rw [strCells_b8] at h1
  rw [List.length_append, List.map_append, show t.data.toList.length = t.size by simp]
  exact h1

/-- A row that was laid anew. -/
theorem br_new (w : World) (cs : Array Value) (bs : List UInt8) (hc : cs.toList = bs.map b8) (hl : bs.length ≤ 1000000) : BR w.heap.size (w.alloc (.cells cs 5)) (.slice (some ⟨w.heap.size, 0, none⟩) bs.length bs.length) bs := by
  have hs : cs.size = bs.length := by rw [← Array.length_toList, hc]; simp
  exact ⟨by simp, Or.inr ⟨w.heap.size, bs.length, cs, rfl, Nat.le_refl _, heap_alloc_new w _, Nat.le_refl _, by unfold maxLen; omega, by omega, by rw [hc, Nat.mul_one, List.take_of_length_le (by simp)]⟩⟩

theorem br_at (w : World) (n : Nat) (hn : w.heap.size = n) (cs : Array Value) (bs : List UInt8) (hc : cs.toList = bs.map b8) (hl : bs.length ≤ 1000000) : BR n (w.alloc (.cells cs 5)) (.slice (some ⟨n, 0, none⟩) bs.length bs.length) bs := by
  subst hn; exact br_new w cs bs hc hl

section
variable {R : Ending → World → Prop}

theorem fourB_b8 (n : Nat) : (fourB n).map b8 = [.int .u8 ((n : Int) % 256), .int .u8 ((n : Int) / 256 % 256), .int .u8 ((n : Int) / 65536 % 256), .int .u8 ((n : Int) / 16777216 % 256)] := by
  simp only [fourB, List.map_cons, List.map_nil, b8, u8_toNat]
  simp

set_option maxRecDepth 20000 in
set_option maxHeartbeats 1000000 in
theorem appendFour_any (base : Nat) (v : Value) (bs : List UInt8) (n : Nat) (w : World) (hv : BR base w v bs) (hn : n < 4294967296) (hl : bs.length ≤ 100000000) (hbase : base ≤ w.heap.size)
    (hR : ∀ v' w', BR base w' v' (bs ++ fourB n) → Kp (fun b => v.ownBlock = some b) w w' → R (.returned v') w') :
    Calls Tryz.prog 140 #[v, .int .u32 n] w R := by
  have HR := hid_of hR
  have HV := hid_of hv
  have HL := hid_of hl
  have HB := hid_of hbase
  clear hR hv hl hbase
  go_enter Tryz.func140, Tryz.ntmps140
  go_wp2_with (first
    | (at_builtin; refine wpB_append _ rfl _ _ rfl base v bs rfl (HV.out.kept (Kp.alloc _ _ _)) _ (fourB n) rfl (BR.rd (br_new w _ (fourB n) (by rw [fourB_b8, show ((n : Int) / 16777216 % 256) = (n : Int) / 16777216 by omega]) (by rw [fourB_length]; omega))) (by simp [fourB]) (by rw [fourB_length]; have := HL.out; omega) (by have := HB.out; simp; omega) ?_; intro v' w' hv' hk' hloc)
    | go_in)
  exact HR.out v' w' hv' ((Kp.alloc _ _ _).trans hk' (fun b hb e => e))

set_option maxRecDepth 20000 in
set_option maxHeartbeats 1000000 in
theorem seal_any (base : Nat) (v : Value) (bs : List UInt8) (w : World) (hT : Tab w) (hv : BR base w v bs) (hl : bs.length ≤ 100000000) (hbase : base ≤ w.heap.size)
    (hR : ∀ v' w', BR base w' v' (sealB bs) → Kp (fun b => v.ownBlock = some b) w w' → R (.returned v') w') :
    Calls Tryz.prog 176 #[v] w R := by
  have HR := hid_of hR
  have HV := hid_of hv
  have HL := hid_of hl
  have HB := hid_of hbase
  have HT := hid_of hT
  clear hR hv hl hbase hT
  go_enter Tryz.func176, Tryz.ntmps176
  go_wp2_with (first
    | (go_at_call 204; refine (of_any v bs _ HT.out (by have := HL.out; omega) HV.out.rd).mono ?_; rintro e w' ⟨rfl, rfl⟩)
    | (go_at_call 140; refine appendFour_any base v bs (sumB bs) _ HV.out (sumB_lt bs) HL.out HB.out ?_; intro v1 w1 hv1 hk1)
    | go_in)
  exact HR.out v1 w1 hv1 hk1

theorem own_old {v v1 : Value} {n b : Nat} (h : v1.ownBlock = v.ownBlock ∨ v1.ownBlock = some n) (e : v1.ownBlock = some b) (hb : b < n) : v.ownBlock = some b := by
  rcases h with h | h
  · rw [← h]; exact e
  · rw [h] at e; cases e; omega
theorem below_base {base : Nat} {w w1 w2 : World} (h1 : Kp (fun b => base ≤ b) w w1) (h2 : Kp (fun b => base ≤ b) w1 w2) : Kp (fun b => base ≤ b) w w2 := h1.trans h2 (fun _ _ h => h)
theorem Kp.own_base {base : Nat} {w w1 : World} {v : Value} {bs : List UInt8} (h : Kp (fun b => v.ownBlock = some b) w w1) (hv : BR base w v bs) : Kp (fun b => base ≤ b) w w1 := h.mono (fun b _ e => (hv.lt b e).1)

set_option maxRecDepth 20000 in
set_option maxHeartbeats 1000000 in
theorem appendText_any (base : Nat) (v : Value) (bs : List UInt8) (t : ByteArray) (w : World) (hv : BR base w v bs) (ht : t.size ≤ 255) (hl : bs.length ≤ 100000000) (hbase : base ≤ w.heap.size)
    (hR : ∀ v' w', BR base w' v' (bs ++ textB t) → Kp (fun b => v.ownBlock = some b) w w' → R (.returned v') w') :
    Calls Tryz.prog 210 #[v, .string t] w R := by
  have HR := hid_of hR
  have HV := hid_of hv
  have HL := hid_of hl
  have HB := hid_of hbase
  have HS := hid_of ht
  have ht' : (t.size : Int) ≤ 255 := by omega
  clear hR hv hl hbase ht
  go_enter Tryz.func210, Tryz.ntmps210
  go_wp2_with (first
    | (at_builtin; refine wpB_append _ rfl _ _ rfl base v bs rfl (HV.out.kept (Kp.alloc _ _ _)) _ [u8 t.size] rfl (BR.rd (br_new w _ [u8 t.size] (by have := HS.out; simp [b8, u8_toNat]; omega) (by simp))) (by simp) (by have := HL.out; simp; omega) (by have := HB.out; simp; omega) ?_; intro v1 w1 hv1 hk1 hloc1; have HV1 := hid_of hv1; have HK1 := hid_of hk1; have HL1 := hid_of hloc1; clear hv1 hk1 hloc1)
    | (at_builtin; refine wpB_text _ rfl _ _ rfl base v1 _ rfl HV1.out t rfl (by have := HL.out; have := HS.out; simp; omega) (by have := HB.out; have := HK1.out.size; simp at this; omega) ?_; intro v2 w2 hv2 hk2)
    | go_in)
  refine HR.out v2 w2 ?_ (((Kp.alloc _ _ _).trans HK1.out (fun b hb e => e)).trans hk2 (fun b hb e => own_old HL1.out e (by simp; omega)))
  rw [List.append_assoc] at hv2
  exact hv2

set_option maxRecDepth 20000 in
set_option maxHeartbeats 1000000 in
theorem appendVersion_any (base : Nat) (v : Value) (bs : List UInt8) (val : ByteArray) (g : Bool) (w : World) (hv : BR base w v bs) (ht : val.size ≤ 255) (hl : bs.length ≤ 10000000) (hbase : base ≤ w.heap.size)
    (hR : ∀ v' w', BR base w' v' (bs ++ verB (val, g)) → Kp (fun b => v.ownBlock = some b) w w' → R (.returned v') w') :
    Calls Tryz.prog 209 #[v, .agg #[.string val, .bool g]] w R := by
  have HR := hid_of hR
  have HL := hid_of hl
  have HS := hid_of ht
  have HV : Hid (BR base (w.alloc (.cells #[.string val, .bool g] 138)) v bs) := hv.kept (Kp.alloc _ _ _)
  have HB : Hid (base ≤ (w.alloc (.cells #[.string val, .bool g] 138)).heap.size) := by show base ≤ _; simp; omega
  have HK : Hid (Kp (fun b => v.ownBlock = some b) w (w.alloc (.cells #[.string val, .bool g] 138))) := Kp.alloc _ _ _
  have HV0 : Hid (∀ b, v.ownBlock = some b → b < w.heap.size) := fun b e => (hv.lt b e).2
  clear hR hv hl hbase ht
  cases g
  · have c0 : (w.alloc (.cells #[.string val, .bool false] 138)).cell? ⟨w.heap.size, 0, none⟩ = some (.string val) := by go_simp
    have hsz : (w.alloc (.cells #[.string val, .bool false] 138)).heap.size = w.heap.size + 1 := by simp
    go_enter Tryz.func209, Tryz.ntmps209
    go_wp2_with fail
    generalize w.alloc (.cells #[.string val, .bool false] 138) = W at *
    go_region_law (first
      | (refine stepB_append rfl _ _ rfl base v bs (by simp [Act.eval]) (HV.out.kept ((Kp.drew _ _).trans (Kp.alloc _ _ _) (fun _ _ h => h))) (.slice (some ⟨w.heap.size + 1, 0, none⟩) 1 1) [0] (by simp [Act.eval]) (BR.rd (br_at W.drew (w.heap.size + 1) (by simp [hsz]) #[.int .u8 0] [0] rfl (by simp))) (by simp) (by have := HL.out; simp; omega) (by have := HB.out; simp; omega) ?_; intro v1 w1 hv1 hk1 hloc1; have HV1 := hid_of hv1; have HK1 := hid_of hk1; have c1 : w1.cell? ⟨w.heap.size, 0, none⟩ = some (.string val) := hk1.cellv HV0.out (Nat.le_refl _) (by go_simp); have HL1 := hid_of hloc1; clear hv1 hk1 hloc1)
      | (refine step_call rfl 210 _ _ _ rfl Tryz.func210 (by kernel_rfl) (by kernel_rfl) _ (by simp [Act.eval]; rfl) ?_; refine appendText_any base v1 _ val _ HV1.out HS.out (by have := HL.out; simp; omega) (by have := HB.out; have := HK1.out.size; simp at *; omega) ?_; intro v2 w2 hv2 hk2; refine ⟨_, rfl, ?_⟩))
    all_goals
      clear c1
      go_wp2
      go_ret
      refine HR.out v2 w2 ?_ ((HK.out.trans (((Kp.drew (fun b => v.ownBlock = some b) _).trans (Kp.alloc (fun b => v.ownBlock = some b) _ _) (fun _ _ h => h)).trans HK1.out (fun b hb e => e)) (fun _ _ h => h)).trans hk2 (fun b hb e => own_old HL1.out e (by simp [hsz]; omega)))
      rw [List.append_assoc] at hv2
      exact hv2
  · go_enter Tryz.func209, Tryz.ntmps209
    go_wp2_with (first
      | (at_builtin; refine wpB_append _ rfl _ _ rfl base v bs rfl (HV.out.kept (Kp.alloc _ _ _)) _ [1] rfl (BR.rd (br_at _ _ (by simp) _ [1] rfl (by simp))) (by simp) (by have := HL.out; simp; omega) (by have := HB.out; simp at this ⊢; omega) ?_; intro v1 w1 hv1 hk1 hloc1; have HV1 := hid_of hv1; have HK1 := hid_of hk1; clear hv1 hk1 hloc1)
      | go_in)
    exact HR.out v1 w1 HV1.out (HK.out.trans ((Kp.alloc (fun b => v.ownBlock = some b) _ _).trans HK1.out (fun b hb e => e)) (fun _ _ h => h))

end

end Go.Proofs.YthbdpfccfcceiaaGreatDoor
