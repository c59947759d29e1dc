/-
  A record more in the log: opening, (*Journal).Add.
  How a store of the program lies in memory: its plain state, and the blocks that bear it, each with a label of its own.
-/
import Derived.Test.YthbdpfccfcceiaaGreatDoorD4
import Derived.Test.YthbdpfccfcceiaaGreatDoorH3
import Derived.Lib.SlBytesConst
import Derived.Test.YthbdpfccfcceiaaGreatDoorX2X3
import Derived.Test.YthbdpfccfcceiaaGreatDoorH1H2
namespace Go.Proofs.YthbdpfccfcceiaaGreatDoor
open Go.RowKit Go.Lib

theorem cell_of {w : World} {b : Nat} {cs : Array Value} {e : TypeId} {fz : Nat × Nat} (h : w.heap[b]? = some (.cells cs e fz)) (i : Nat) : w.cell? ⟨b, i, none⟩ = cs[i]? := by simp [World.cell?, h]

theorem infoRow : (Tryz.prog.info? 48).map (fun i => (i.zero, i.size, i.bytes)) = some (some (.slice none 0 0), 1, 24) := by kernel_rfl

/-- append of bytes onto a row that has no more room, of which nothing else is known: a row of its own. -/
theorem wpB_grow {ops : Array Oper} {rest : List Oper} {o : Oper} {a : Act} {Q : Exit → Act → World → Prop} (w : World) (hgd : o.guard = none) (s x : Operand)
    (ho : o.op = .call { callee := .builtin .append, args := #[s, x], argTypes := #[48, 48] })
    (g : Nat) (bs : List UInt8) (hs : a.eval s = .slice (some ⟨g, 0, none⟩) bs.length bs.length) (hc : ∀ j u, (bs.map b8)[j]? = some u → w.cell? ((⟨g, 0, none⟩ : Addr).add j) = some u) (xv : Value) (news : List UInt8) (hx : a.eval x = xv) (hr : RdB w xv news) (hne : news ≠ [])
    (hl : bs.length + news.length ≤ 1000000000)
    (h : ∀ v' w', BR w.heap.size w' v' (bs ++ news) → Kp (fun _ => False) w w' → wpList Tryz.prog ops Q rest (a.put o.dst v') w') :
    wpList Tryz.prog ops Q (o :: rest) a w := by
  obtain ⟨i0, hi, hz0, hz1, hz2⟩ := info_parts infoU8
  obtain ⟨g2, of, cap, rfl, hc2⟩ := hr.form hne
  have hpos := List.length_pos_iff.2 hne
  have hrun := run_append_grow (P := Tryz.prog) w 48 o.type 5 i0 (.int .u8 0) Tryz.underlying48 hi hz0 ⟨g, 0, none⟩ bs.length bs.length (bs.map b8) (by rw [hz1]; simp) hc ⟨g2, of, none⟩ news.length cap (news.map b8) (by rw [hz1]; simp) hc2 (by omega) (by omega) (by rw [hz2]; exact growslice_fits (by omega) (by omega))
  refine wpList_plain hgd fun K hK => ?_
  unfold Oper.wp execOp
  simp only [ho, resolve, invoke, builtin, Sem.run_bind, Sem.run_pure, Result.andThen_ok, List.map_toArray, List.map_cons, List.map_nil, hs, hx, hrun]
  refine hK _ _ (h _ _ ?_ ?_)
  · have hge := grownCap_ge w (bs.length + news.length) bs.length 5
    have hcm : grownCap w (bs.length + news.length) bs.length 5 ≤ maxLen := grownCap_le_maxLen w _ _ _ (by unfold maxLen; omega)
    unfold BR
    rw [List.length_append, List.map_append]
    refine ⟨by simp, Or.inr ⟨w.heap.size, _, _, rfl, Nat.le_refl _, heap_alloc_new w.drew _, hge, hcm, ?_, ?_⟩⟩
    · have hz3 : (Value.int IntKind.u8 0).cells.size = 1 := rfl
      simp only [Array.size_append, List.size_toArray, size_zeroCells, hz3, List.length_map]
      omega
    · simp only [Array.toList_append]
      rw [List.take_append_of_le_length (by simp), List.take_of_length_le (by simp)]
  · exact (Kp.drew (fun _ => False) w).trans (Kp.alloc (fun _ => False) _ _) (fun _ _ h => h)

section
variable {R : Ending → World → Prop}

set_option maxRecDepth 20000 in
set_option maxHeartbeats 1000000 in
theorem appendFour_full (g : Nat) (bs : List UInt8) (n : Nat) (w : World) (hc : ∀ j u, (bs.map b8)[j]? = some u → w.cell? ((⟨g, 0, none⟩ : Addr).add j) = some u) (hn : n < 4294967296) (hl : bs.length ≤ 100000000)
    (hR : ∀ v' w', BR w.heap.size w' v' (bs ++ fourB n) → Kp (fun _ => False) w w' → R (.returned v') w') :
    Calls Tryz.prog 140 #[.slice (some ⟨g, 0, none⟩) bs.length bs.length, .int .u32 n] w R := by
  have HR := hid_of hR
  have HC := hid_of hc
  have HL := hid_of hl
  clear hR hc hl
  go_enter Tryz.func140, Tryz.ntmps140
  go_wp2_with (first
    | (at_builtin; refine wpB_grow _ rfl _ _ rfl g bs rfl (fun j u hj => cell_alloc (HC.out j u hj) _) _ (fourB n) rfl (BR.rd (br_new w _ (fourB n) (by rw [fourB_b8, show ((n : Int) / 16777216 % 256) = (n : Int) / 16777216 by omega]) (by rw [fourB_length]; omega))) (by simp [fourB]) (by rw [fourB_length]; have := HL.out; omega) ?_; intro v' w' hv' hk')
    | go_in)
  exact HR.out v' w' (BR.mono hv' (by simp)) ((Kp.alloc _ _ _).trans hk' (fun _ _ h => h))

set_option maxRecDepth 20000 in
set_option maxHeartbeats 1000000 in
theorem opening_any (n : Nat) (w : World) (hT : Tab w) (hn : n < 4294967296)
    (hR : ∀ v' w', BR w.heap.size w' v' (openB n) → Kp (fun _ => False) w w' → R (.returned v') w') :
    Calls Tryz.prog 131 #[.int .i64 n] w R := by
  have HR := hid_of hR
  have HT := hid_of hT
  have hcv := run_convert_bytes_const (P := Tryz.prog) w 48 5 #[.int .u8 80, .int .u8 76, .int .u8 49] 3 3 Tryz.underlying48 Tryz.underlying5
  have HC : Hid (∀ j u, (([80, 76, 49] : List UInt8).map b8)[j]? = some u → (w.alloc (.cells #[.int .u8 80, .int .u8 76, .int .u8 49] 5 (3, 4))).cell? ((⟨w.heap.size, 0, none⟩ : Addr).add j) = some u) := fun j u hj => by
    rw [addr_add, Nat.zero_add]
    rw [cell_of (heap_alloc_new w _)]
    simpa [b8] using hj
  clear hR hT
  go_enter Tryz.func131, Tryz.ntmps131
  go_wp2_with (first
    | (go_at_call 140; refine appendFour_full w.heap.size [80, 76, 49] n _ HC.out hn (by simp) ?_; intro v1 w1 hv1 hk1; have HV1 : Hid (BR w.heap.size w1 v1 ([80, 76, 49] ++ fourB n)) := BR.mono hv1 (by simp); have HK1 : Hid (Kp (fun _ => False) w w1) := (Kp.alloc (fun _ => False) _ _).trans hk1 (fun _ _ h => h); clear hv1 hk1)
    | (go_at_call 176; refine seal_any w.heap.size v1 _ _ (HT.out.kept HK1.out) HV1.out (by simp [fourB_length]) HK1.out.size ?_; intro v2 w2 hv2 hk2)
    | go_in)
  exact HR.out v2 w2 hv2 (HK1.out.trans hk2 (fun b hb e => by have := (HV1.out.lt b e).1; omega))

/-- An element of a row, another. -/
theorem ownsRow_set {w : World} {e : TypeId} {g n cap : Nat} {xs : List Value} (h : w.ownsRow 0 e 1 (.slice (some ⟨g, 0, none⟩) n cap) n xs) (i : Nat) (v : Value) : (w.setCell ⟨g, i, none⟩ v).ownsRow 0 e 1 (.slice (some ⟨g, 0, none⟩) n cap) n (xs.set i v) := by
  refine ⟨by simpa using h.1, Or.inr ?_⟩
  rcases h.2 with ⟨h0, _⟩ | ⟨g', cap', cur, e1, h2, hg, h4, h5, h6, h7⟩
  · cases h0
  · injection e1 with e1 _ e3
    injection e1 with e1
    injection e1 with e1
    subst e1; subst e3
    refine ⟨g, cap, cur.setIfInBounds i v, rfl, h2, ?_, h4, h5, by simpa using h6, ?_⟩
    · simp [World.setCell, Array.getElem?_modify, hg]
    · rw [← h7]
      simp [List.take_set]

end

end Go.Proofs.YthbdpfccfcceiaaGreatDoor

namespace Go.Proofs.YthbdpfccfcceiaaGreatDoor
open Go.RowKit Go.Maps

def encVer (v : ByteArray × Bool) : Value := .agg #[.string v.1, .bool v.2]
def encS (g : ByteArray → Option Value) (v : Value) : Option Value := match v with | .string s => g s | _ => none
def encI (g : Int → Option Value) (v : Value) : Option Value := match v with | .int .i64 n => g n | _ => none
def encP (g : ByteArray → Int → Option Value) (v : Value) : Option Value := match v with | .agg cs => (match cs.toList with | [.string s, .int .i64 n] => g s n | _ => none) | _ => none

def updS {α : Type} (g : ByteArray → α) (k : ByteArray) (v : α) : ByteArray → α := fun s => if s = k then v else g s
def updI {α : Type} (g : Int → α) (k : Int) (v : α) : Int → α := fun s => if s = k then v else g s
def updP {α : Type} (g : ByteArray → Int → α) (k : ByteArray) (m : Int) (v : α) : ByteArray → Int → α := fun s t => if s = k ∧ t = m then v else g s t

theorem updS_same {α : Type} (g : ByteArray → α) (k : ByteArray) (v : α) : updS g k v k = v := by simp [updS]
theorem updS_other {α : Type} (g : ByteArray → α) {k s : ByteArray} (h : s ≠ k) (v : α) : updS g k v s = g s := by simp [updS, h]
theorem updI_same {α : Type} (g : Int → α) (k : Int) (v : α) : updI g k v k = v := by simp [updI]
theorem updI_other {α : Type} (g : Int → α) {k s : Int} (h : s ≠ k) (v : α) : updI g k v s = g s := by simp [updI, h]

theorem put_encS (g : ByteArray → Option Value) (k : ByteArray) (v : Value) : IsPut (encS g) (.string k) v (encS (updS g k (some v))) := by
  refine ⟨by simp [encS, updS], fun x hx => ?_⟩
  cases x <;> simp [encS]
  rename_i s
  have : s ≠ k := fun e => hx (by rw [e])
  simp [updS, this]
theorem put_encI (g : Int → Option Value) (k : Int) (v : Value) : IsPut (encI g) (.int .i64 k) v (encI (updI g k (some v))) := by
  refine ⟨by simp [encI, updI], fun x hx => ?_⟩
  unfold encI
  split
  · rename_i n
    have : n ≠ k := fun e => hx (by rw [e])
    simp [updI, this]
  · rfl
theorem del_encI (g : Int → Option Value) (k : Int) : IsDel (encI g) (.int .i64 k) (encI (updI g k none)) := by
  refine ⟨by simp [encI, updI], fun x hx => ?_⟩
  unfold encI
  split
  · rename_i n
    have : n ≠ k := fun e => hx (by rw [e])
    simp [updI, this]
  · rfl
theorem put_encP (g : ByteArray → Int → Option Value) (k : ByteArray) (m : Int) (v : Value) : IsPut (encP g) (.agg #[.string k, .int .i64 m]) v (encP (updP g k m (some v))) := by
  refine ⟨by simp [encP, updP], fun x hx => ?_⟩
  unfold encP
  split
  · rename_i cs
    split
    · rename_i s n hcs
      have : ¬ (s = k ∧ n = m) := fun ⟨e1, e2⟩ => hx (by
        subst e1; subst e2
        have : cs = #[.string s, .int .i64 n] := by apply Array.toList_inj.1; simpa using hcs
        rw [this])
      simp [updP, this]
    · rfl
  · rfl

structure Lab where
  c : Nat
  k : Nat
  i : Int
  s : ByteArray

structure XT where
  sees : Int
  wr : ByteArray → Option (ByteArray × Bool)
  nw : Nat

/-- A log: the bodies of its records, how many bytes are synced; and where its files lie: the slice of slices, and its elements. -/
structure XL where
  lf : Value
  lv : List Value
  lg : List (List UInt8)
  sy : Nat

/-- A backup that is not done: the moment that it needs, its block, and that of what it tells. -/
structure XB where
  needs : Int
  pb : Nat
  pt : Nat

/-- The backups: how many there ever were, those that are not done, and the map that holds them. -/
structure XK where
  mu : Nat
  taken : Int
  un : Int → Option XB
  nb : Nat

structure XS where
  now : Int
  hor : Int
  begun : Int
  txs : Int → Option XT
  nopen : Nat
  mom : ByteArray → List Int
  ver : ByteArray → Int → Option (ByteArray × Bool)
  nv : Nat
  nm : Nat
  log : XL
  bk : XK

def eb : ByteArray := ⟨#[]⟩

structure LogR (own : Nat → Lab) (c : Nat) (w : World) (l : XL) : Prop where
  ownF : ∀ b, l.lf.ownBlock = some b → own b = ⟨c, 8, 0, eb⟩
  rowF : w.ownsRow 0 48 1 l.lf (filesB l.lg).length l.lv
  ownB : ∀ (i : Nat) v, l.lv[i]? = some v → ∀ b, v.ownBlock = some b → own b = ⟨c, 9, (i : Int), eb⟩
  rowB : ∀ (i : Nat) v f, l.lv[i]? = some v → (filesB l.lg)[i]? = some f → BR 0 w v f

structure BkR (own : Nat → Lab) (c : Nat) (w : World) (k : XK) : Prop where
  ownU : own k.mu = ⟨c, 10, 0, eb⟩
  und : fmap w Tryz.prog 3 k.mu k.nb (encI fun n => (k.un n).map fun b => .pointer (some ⟨b.pb, 0, none⟩))
  ownB : ∀ n b, k.un n = some b → own b.pb = ⟨c, 11, n, eb⟩
  blk : ∀ n b, k.un n = some b → w.heap[b.pb]? = some (.cells #[.int .i64 b.needs, .pointer (some ⟨b.pt, 0, none⟩)] 151 (0, 0))

structure XR (own : Nat → Lab) (c : Nat) (w : World) (p : Nat) (s : XS) (mo ph mv mm : Nat) (pt mw : Int → Nat) (sl : ByteArray → Value) : Prop where
  ownP : own p = ⟨c, 0, 0, eb⟩
  ownO : own mo = ⟨c, 1, 0, eb⟩
  ownH : own ph = ⟨c, 2, 0, eb⟩
  ownV : own mv = ⟨c, 3, 0, eb⟩
  ownM : own mm = ⟨c, 4, 0, eb⟩
  store : w.heap[p]? = some (.cells #[.pointer (some ⟨ph, 0, none⟩), .int .i64 s.hor, .int .i64 s.now, s.log.lf, .int .i64 (inLast s.log.lg.length : Nat), .int .i64 (s.log.sy : Nat), .int .i64 s.begun, .map (some mo), .int .i64 s.bk.taken, .map (some s.bk.mu)] 102 (0, 0))
  hist : w.heap[ph]? = some (.cells #[.map (some mv), .map (some mm)] 209 (0, 0))
  opn : fmap w Tryz.prog 3 mo s.nopen (encI fun n => (s.txs n).map fun _ => .pointer (some ⟨pt n, 0, none⟩))
  ownT : ∀ n t, s.txs n = some t → own (pt n) = ⟨c, 5, n, eb⟩ ∧ own (mw n) = ⟨c, 6, n, eb⟩
  tx : ∀ n t, s.txs n = some t → w.heap[pt n]? = some (.cells #[.int .i64 t.sees, .map (some (mw n))] 132 (0, 0))
  wr : ∀ n t, s.txs n = some t → fmap w Tryz.prog 9 (mw n) t.nw (encS fun k => (t.wr k).map encVer)
  vers : fmap w Tryz.prog 225 mv s.nv (encP fun k m => (s.ver k m).map encVer)
  moms : fmap w Tryz.prog 9 mm s.nm (encS fun k => if s.mom k = [] then none else some (sl k))
  ownR : ∀ k, s.mom k ≠ [] → ∀ b, (sl k).ownBlock = some b → own b = ⟨c, 7, 0, k⟩
  row : ∀ k, s.mom k ≠ [] → w.ownsRow 0 3 1 (sl k) (s.mom k).length ((s.mom k).map (Value.int .i64))
  log : LogR own c w s.log
  bks : BkR own c w s.bk

theorem block_lt {w : World} {b : Nat} {o : Obj} (h : w.heap[b]? = some o) : b < w.heap.size := (Array.getElem?_eq_some_iff.1 h).1
theorem frozen_of {w : World} {b : Nat} {cs : Array Value} {e : TypeId} (h : w.heap[b]? = some (.cells cs e (0, 0))) (i : Nat) : w.frozen? ⟨b, i, none⟩ = false := by simp [World.frozen?, h]

section
variable {own own' : Nat → Lab} {c : Nat} {w w' : World} {p : Nat} {s : XS} {mo ph mv mm : Nat} {pt mw : Int → Nat} {sl : ByteArray → Value}

theorem LogR.len {l : XL} (h : LogR own c w l) : l.lv.length = (filesB l.lg).length := by simpa using h.rowF.1

theorem ownsRow_same {base e size m : Nat} {v : Value} {xs : List Value} (hr : w.ownsRow base e size v m xs) (hs : ∀ b, v.ownBlock = some b → w'.heap[b]? = w.heap[b]?) : w'.ownsRow base e size v m xs := by
  refine ⟨hr.1, ?_⟩
  rcases hr.2 with h | ⟨g, cap, cur, rfl, hb, hg, r⟩
  · exact Or.inl h
  · exact Or.inr ⟨g, cap, cur, rfl, hb, (hs g rfl).trans hg, r⟩

theorem LogR.frame {l : XL} (h : LogR own c w l) (hb : ∀ b, b < w.heap.size → (own b).c = c → ((own b).k = 8 ∨ (own b).k = 9) → w'.heap[b]? = w.heap[b]?) (ho : ∀ b, b < w.heap.size → (own b).c = c → ((own b).k = 8 ∨ (own b).k = 9) → own' b = own b) : LogR own' c w' l := by
  refine ⟨fun b e => ?_, ?_, fun i v hv b e => ?_, fun i v f hv hf => ?_⟩
  · have h1 := h.ownF b e
    rw [ho b (h.rowF.lt b e).2 (by rw [h1]) (by rw [h1]; simp)]; exact h1
  · exact ownsRow_same h.rowF (fun b e => hb b (h.rowF.lt b e).2 (by rw [h.ownF b e]) (by rw [h.ownF b e]; simp))
  · have h1 := h.ownB i v hv b e
    have hi : i < (filesB l.lg).length := by rw [← h.len]; exact (List.getElem?_eq_some_iff.1 hv).1
    rw [ho b ((h.rowB i v _ hv (List.getElem?_eq_getElem hi)).lt b e).2 (by rw [h1]) (by rw [h1]; simp)]; exact h1
  · have h0 := h.rowB i v f hv hf
    exact ownsRow_same h0 (fun b e => hb b (h0.lt b e).2 (by rw [h.ownB i v hv b e]) (by rw [h.ownB i v hv b e]; simp))

/-- A block of the log is none of the others. -/
theorem lab_k {a b : Nat} {k : Nat} {i : Int} {s : ByteArray} (h : own b = ⟨c, k, i, s⟩) (ha : (own a).k = 8 ∨ (own a).k = 9) (hk : k < 8) : a ≠ b := fun e => by
  subst e; rw [h] at ha; simp at ha; omega

/-- A block of the backups is none of the others. -/
theorem lab_u {a b : Nat} {k : Nat} {i : Int} {s : ByteArray} (h : own b = ⟨c, k, i, s⟩) (ha : 10 ≤ (own a).k) (hk : k < 10) : a ≠ b := fun e => by
  subst e; rw [h] at ha; simp at ha; omega

theorem BkR.frame {k : XK} (h : BkR own c w k) (hb : ∀ b, b < w.heap.size → (own b).c = c → 10 ≤ (own b).k → w'.heap[b]? = w.heap[b]?) (ho : ∀ b, b < w.heap.size → (own b).c = c → 10 ≤ (own b).k → own' b = own b) : BkR own' c w' k := by
  have lu := h.und.lt
  refine ⟨?_, ?_, fun n b e => ?_, fun n b e => ?_⟩
  · rw [ho k.mu lu (by rw [h.ownU]) (by rw [h.ownU]; simp)]; exact h.ownU
  · exact h.und.of_block (hb k.mu lu (by rw [h.ownU]) (by rw [h.ownU]; simp))
  · have h1 := h.ownB n b e
    rw [ho b.pb (block_lt (h.blk n b e)) (by rw [h1]) (by rw [h1]; simp)]; exact h1
  · have h1 := h.ownB n b e
    rw [hb b.pb (block_lt (h.blk n b e)) (by rw [h1]) (by rw [h1]; simp)]; exact h.blk n b e

/-- The store lies as it lay where its own blocks stay. -/
theorem XR.frame (h : XR own c w p s mo ph mv mm pt mw sl) (hb : ∀ b, b < w.heap.size → (own b).c = c → w'.heap[b]? = w.heap[b]?) (ho : ∀ b, b < w.heap.size → (own b).c = c → own' b = own b) : XR own' c w' p s mo ph mv mm pt mw sl := by
  have lp := block_lt h.store; have lh := block_lt h.hist; have lo := h.opn.lt; have lv := h.vers.lt; have lm := h.moms.lt
  refine ⟨?_, ?_, ?_, ?_, ?_, ?_, ?_, ?_, ?_, ?_, ?_, ?_, ?_, ?_, ?_, h.log.frame (fun b hl hc _ => hb b hl hc) (fun b hl hc _ => ho b hl hc), h.bks.frame (fun b hl hc _ => hb b hl hc) (fun b hl hc _ => ho b hl hc)⟩
  · rw [ho p lp (by rw [h.ownP])]; exact h.ownP
  · rw [ho mo lo (by rw [h.ownO])]; exact h.ownO
  · rw [ho ph lh (by rw [h.ownH])]; exact h.ownH
  · rw [ho mv lv (by rw [h.ownV])]; exact h.ownV
  · rw [ho mm lm (by rw [h.ownM])]; exact h.ownM
  · rw [hb p lp (by rw [h.ownP])]; exact h.store
  · rw [hb ph lh (by rw [h.ownH])]; exact h.hist
  · exact h.opn.of_block (hb mo lo (by rw [h.ownO]))
  · intro n t e
    have h1 := h.ownT n t e
    rw [ho (pt n) (block_lt (h.tx n t e)) (by rw [h1.1]), ho (mw n) ((h.wr n t e).lt) (by rw [h1.2])]
    exact h1
  · intro n t e
    rw [hb (pt n) (block_lt (h.tx n t e)) (by rw [(h.ownT n t e).1])]; exact h.tx n t e
  · intro n t e
    exact (h.wr n t e).of_block (hb (mw n) ((h.wr n t e).lt) (by rw [(h.ownT n t e).2]))
  · exact h.vers.of_block (hb mv lv (by rw [h.ownV]))
  · exact h.moms.of_block (hb mm lm (by rw [h.ownM]))
  · intro k hk b e
    have h1 := h.ownR k hk b e
    rw [ho b ((h.row k hk).lt b e).2 (by rw [h1])]; exact h1
  · intro k hk
    have h0 := h.row k hk
    refine ⟨h0.1, ?_⟩
    rcases h0.2 with h1 | ⟨g, cap, cur, e, hg0, hg, r⟩
    · exact Or.inl h1
    · have hlt := block_lt hg
      exact Or.inr ⟨g, cap, cur, e, hg0, (hb g hlt (by rw [h.ownR k hk g (by rw [e]; rfl)])).trans hg, r⟩

theorem encI_at (g : Int → Option Value) (n : Int) : encI g (.int .i64 n) = g n := rfl
theorem encS_at (g : ByteArray → Option Value) (k : ByteArray) : encS g (.string k) = g k := rfl
theorem encP_at (g : ByteArray → Int → Option Value) (k : ByteArray) (m : Int) : encP g (.agg #[.string k, .int .i64 m]) = g k m := rfl

end

end Go.Proofs.YthbdpfccfcceiaaGreatDoor
