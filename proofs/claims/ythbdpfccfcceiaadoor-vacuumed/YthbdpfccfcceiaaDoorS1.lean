/-
  How a store of the program lies in memory: its plain state, and the blocks that bear it, each with a label of its own.
-/
import Derived.Test.YthbdpfccfcceiaaDoorX2X3
import Derived.Test.YthbdpfccfcceiaaDoorH1H2
import Derived.Test.YthbdpfccfcceiaaDoorH3
import Derived.Test.YthbdpfccfcceiaaDoorD5
namespace Go.Proofs.YthbdpfccfcceiaaDoor
open Go.RowKit Go.Maps

def encVer (v : ByteArray × Bool) : Value := .agg #[.string v.1, .bool v.2]
def encS (g : ByteArray → Option Value) (v : Value) : Option Value := match v with | .string s => g s | _ => none
def encI (g : Int → Option Value) (v : Value) : Option Value := match v with | .int .i64 n => g n | _ => none
def encP (g : ByteArray → Int → Option Value) (v : Value) : Option Value := match v with | .agg cs => (match cs.toList with | [.string s, .int .i64 n] => g s n | _ => none) | _ => none

def updS {α : Type} (g : ByteArray → α) (k : ByteArray) (v : α) : ByteArray → α := fun s => if s = k then v else g s
def updI {α : Type} (g : Int → α) (k : Int) (v : α) : Int → α := fun s => if s = k then v else g s
def updP {α : Type} (g : ByteArray → Int → α) (k : ByteArray) (m : Int) (v : α) : ByteArray → Int → α := fun s t => if s = k ∧ t = m then v else g s t

theorem updS_same {α : Type} (g : ByteArray → α) (k : ByteArray) (v : α) : updS g k v k = v := by simp [updS]
theorem updS_other {α : Type} (g : ByteArray → α) {k s : ByteArray} (h : s ≠ k) (v : α) : updS g k v s = g s := by simp [updS, h]
theorem updI_same {α : Type} (g : Int → α) (k : Int) (v : α) : updI g k v k = v := by simp [updI]
theorem updI_other {α : Type} (g : Int → α) {k s : Int} (h : s ≠ k) (v : α) : updI g k v s = g s := by simp [updI, h]

theorem put_encS (g : ByteArray → Option Value) (k : ByteArray) (v : Value) : IsPut (encS g) (.string k) v (encS (updS g k (some v))) := by
  refine ⟨by simp [encS, updS], fun x hx => ?_⟩
  cases x <;> simp [encS]
  rename_i s
  have : s ≠ k := fun e => hx (by rw [e])
  simp [updS, this]
theorem put_encI (g : Int → Option Value) (k : Int) (v : Value) : IsPut (encI g) (.int .i64 k) v (encI (updI g k (some v))) := by
  refine ⟨by simp [encI, updI], fun x hx => ?_⟩
  unfold encI
  split
  · rename_i n
    have : n ≠ k := fun e => hx (by rw [e])
    simp [updI, this]
  · rfl
theorem del_encI (g : Int → Option Value) (k : Int) : IsDel (encI g) (.int .i64 k) (encI (updI g k none)) := by
  refine ⟨by simp [encI, updI], fun x hx => ?_⟩
  unfold encI
  split
  · rename_i n
    have : n ≠ k := fun e => hx (by rw [e])
    simp [updI, this]
  · rfl
theorem put_encP (g : ByteArray → Int → Option Value) (k : ByteArray) (m : Int) (v : Value) : IsPut (encP g) (.agg #[.string k, .int .i64 m]) v (encP (updP g k m (some v))) := by
  refine ⟨by simp [encP, updP], fun x hx => ?_⟩
  unfold encP
  split
  · rename_i cs
    split
    · rename_i s n hcs
      have : ¬ (s = k ∧ n = m) := fun ⟨e1, e2⟩ => hx (by
        subst e1; subst e2
        have : cs = #[.string s, .int .i64 n] := by apply Array.toList_inj.1; simpa using hcs
        rw [this])
      simp [updP, this]
    · rfl
  · rfl

structure Lab where
  c : Nat
  k : Nat
  i : Int
  s : ByteArray

structure XT where
  sees : Int
  wr : ByteArray → Option (ByteArray × Bool)
  nw : Nat

/-- A log: the bodies of its records, how many bytes are synced; and where its files lie: the slice of slices, and its elements. -/
structure XL where
  lf : Value
  lv : List Value
  lg : List (List UInt8)
  sy : Nat

/-- A backup that is not done: the moment that it needs, its block, and that of what it tells. -/
structure XB where
  needs : Int
  pb : Nat
  pt : Nat

/-- The backups: how many there ever were, those that are not done, and the map that holds them. -/
structure XK where
  mu : Nat
  taken : Int
  un : Int → Option XB
  nb : Nat

structure XS where
  now : Int
  hor : Int
  begun : Int
  txs : Int → Option XT
  nopen : Nat
  mom : ByteArray → List Int
  ver : ByteArray → Int → Option (ByteArray × Bool)
  nv : Nat
  nm : Nat
  log : XL
  bk : XK

def eb : ByteArray := ⟨#[]⟩

structure LogR (own : Nat → Lab) (c : Nat) (w : World) (l : XL) : Prop where
  ownF : ∀ b, l.lf.ownBlock = some b → own b = ⟨c, 8, 0, eb⟩
  rowF : w.ownsRow 0 122 1 l.lf (filesB l.lg).length l.lv
  ownB : ∀ (i : Nat) v, l.lv[i]? = some v → ∀ b, v.ownBlock = some b → own b = ⟨c, 9, (i : Int), eb⟩
  rowB : ∀ (i : Nat) v f, l.lv[i]? = some v → (filesB l.lg)[i]? = some f → BR 0 w v f

structure BkR (own : Nat → Lab) (c : Nat) (w : World) (k : XK) : Prop where
  ownU : own k.mu = ⟨c, 10, 0, eb⟩
  und : fmap w Tryd.prog 3 k.mu k.nb (encI fun n => (k.un n).map fun b => .pointer (some ⟨b.pb, 0, none⟩))
  ownB : ∀ n b, k.un n = some b → own b.pb = ⟨c, 11, n, eb⟩
  blk : ∀ n b, k.un n = some b → w.heap[b.pb]? = some (.cells #[.int .i64 b.needs, .pointer (some ⟨b.pt, 0, none⟩)] 107 (0, 0))

structure XR (own : Nat → Lab) (c : Nat) (w : World) (p : Nat) (s : XS) (mo ph mv mm : Nat) (pt mw : Int → Nat) (sl : ByteArray → Value) : Prop where
  ownP : own p = ⟨c, 0, 0, eb⟩
  ownO : own mo = ⟨c, 1, 0, eb⟩
  ownH : own ph = ⟨c, 2, 0, eb⟩
  ownV : own mv = ⟨c, 3, 0, eb⟩
  ownM : own mm = ⟨c, 4, 0, eb⟩
  store : w.heap[p]? = some (.cells #[.pointer (some ⟨ph, 0, none⟩), .int .i64 s.hor, .int .i64 s.now, s.log.lf, .int .i64 (inLast s.log.lg.length : Nat), .int .i64 (s.log.sy : Nat), .int .i64 s.begun, .map (some mo), .int .i64 s.bk.taken, .map (some s.bk.mu)] 64 (0, 0))
  hist : w.heap[ph]? = some (.cells #[.map (some mv), .map (some mm)] 111 (0, 0))
  opn : fmap w Tryd.prog 3 mo s.nopen (encI fun n => (s.txs n).map fun _ => .pointer (some ⟨pt n, 0, none⟩))
  ownT : ∀ n t, s.txs n = some t → own (pt n) = ⟨c, 5, n, eb⟩ ∧ own (mw n) = ⟨c, 6, n, eb⟩
  tx : ∀ n t, s.txs n = some t → w.heap[pt n]? = some (.cells #[.int .i64 t.sees, .map (some (mw n))] 68 (0, 0))
  wr : ∀ n t, s.txs n = some t → fmap w Tryd.prog 9 (mw n) t.nw (encS fun k => (t.wr k).map encVer)
  vers : fmap w Tryd.prog 117 mv s.nv (encP fun k m => (s.ver k m).map encVer)
  moms : fmap w Tryd.prog 9 mm s.nm (encS fun k => if s.mom k = [] then none else some (sl k))
  ownR : ∀ k, s.mom k ≠ [] → ∀ b, (sl k).ownBlock = some b → own b = ⟨c, 7, 0, k⟩
  row : ∀ k, s.mom k ≠ [] → w.ownsRow 0 3 1 (sl k) (s.mom k).length ((s.mom k).map (Value.int .i64))
  log : LogR own c w s.log
  bks : BkR own c w s.bk

theorem block_lt {w : World} {b : Nat} {o : Obj} (h : w.heap[b]? = some o) : b < w.heap.size := (Array.getElem?_eq_some_iff.1 h).1
theorem frozen_of {w : World} {b : Nat} {cs : Array Value} {e : TypeId} (h : w.heap[b]? = some (.cells cs e (0, 0))) (i : Nat) : w.frozen? ⟨b, i, none⟩ = false := by simp [World.frozen?, h]

section
variable {own own' : Nat → Lab} {c : Nat} {w w' : World} {p : Nat} {s : XS} {mo ph mv mm : Nat} {pt mw : Int → Nat} {sl : ByteArray → Value}

theorem LogR.len {l : XL} (h : LogR own c w l) : l.lv.length = (filesB l.lg).length := by simpa using h.rowF.1

theorem ownsRow_same {base e size m : Nat} {v : Value} {xs : List Value} (hr : w.ownsRow base e size v m xs) (hs : ∀ b, v.ownBlock = some b → w'.heap[b]? = w.heap[b]?) : w'.ownsRow base e size v m xs := by
  refine ⟨hr.1, ?_⟩
  rcases hr.2 with h | ⟨g, cap, cur, rfl, hb, hg, r⟩
  · exact Or.inl h
  · exact Or.inr ⟨g, cap, cur, rfl, hb, (hs g rfl).trans hg, r⟩

theorem LogR.frame {l : XL} (h : LogR own c w l) (hb : ∀ b, b < w.heap.size → (own b).c = c → ((own b).k = 8 ∨ (own b).k = 9) → w'.heap[b]? = w.heap[b]?) (ho : ∀ b, b < w.heap.size → (own b).c = c → ((own b).k = 8 ∨ (own b).k = 9) → own' b = own b) : LogR own' c w' l := by
  refine ⟨fun b e => ?_, ?_, fun i v hv b e => ?_, fun i v f hv hf => ?_⟩
  · have h1 := h.ownF b e
    rw [ho b (h.rowF.lt b e).2 (by rw [h1]) (by rw [h1]; simp)]; exact h1
  · exact ownsRow_same h.rowF (fun b e => hb b (h.rowF.lt b e).2 (by rw [h.ownF b e]) (by rw [h.ownF b e]; simp))
  · have h1 := h.ownB i v hv b e
    have hi : i < (filesB l.lg).length := by rw [← h.len]; exact (List.getElem?_eq_some_iff.1 hv).1
    rw [ho b ((h.rowB i v _ hv (List.getElem?_eq_getElem hi)).lt b e).2 (by rw [h1]) (by rw [h1]; simp)]; exact h1
  · have h0 := h.rowB i v f hv hf
    exact ownsRow_same h0 (fun b e => hb b (h0.lt b e).2 (by rw [h.ownB i v hv b e]) (by rw [h.ownB i v hv b e]; simp))

/-- A block of the log is none of the others. -/
theorem lab_k {a b : Nat} {k : Nat} {i : Int} {s : ByteArray} (h : own b = ⟨c, k, i, s⟩) (ha : (own a).k = 8 ∨ (own a).k = 9) (hk : k < 8) : a ≠ b := fun e => by
  subst e; rw [h] at ha; simp at ha; omega

/-- A block of the backups is none of the others. -/
theorem lab_u {a b : Nat} {k : Nat} {i : Int} {s : ByteArray} (h : own b = ⟨c, k, i, s⟩) (ha : 10 ≤ (own a).k) (hk : k < 10) : a ≠ b := fun e => by
  subst e; rw [h] at ha; simp at ha; omega

theorem BkR.frame {k : XK} (h : BkR own c w k) (hb : ∀ b, b < w.heap.size → (own b).c = c → 10 ≤ (own b).k → w'.heap[b]? = w.heap[b]?) (ho : ∀ b, b < w.heap.size → (own b).c = c → 10 ≤ (own b).k → own' b = own b) : BkR own' c w' k := by
  have lu := h.und.lt
  refine ⟨?_, ?_, fun n b e => ?_, fun n b e => ?_⟩
  · rw [ho k.mu lu (by rw [h.ownU]) (by rw [h.ownU]; simp)]; exact h.ownU
  · exact h.und.of_block (hb k.mu lu (by rw [h.ownU]) (by rw [h.ownU]; simp))
  · have h1 := h.ownB n b e
    rw [ho b.pb (block_lt (h.blk n b e)) (by rw [h1]) (by rw [h1]; simp)]; exact h1
  · have h1 := h.ownB n b e
    rw [hb b.pb (block_lt (h.blk n b e)) (by rw [h1]) (by rw [h1]; simp)]; exact h.blk n b e

/-- The store lies as it lay where its own blocks stay. -/
theorem XR.frame (h : XR own c w p s mo ph mv mm pt mw sl) (hb : ∀ b, b < w.heap.size → (own b).c = c → w'.heap[b]? = w.heap[b]?) (ho : ∀ b, b < w.heap.size → (own b).c = c → own' b = own b) : XR own' c w' p s mo ph mv mm pt mw sl := by
  have lp := block_lt h.store; have lh := block_lt h.hist; have lo := h.opn.lt; have lv := h.vers.lt; have lm := h.moms.lt
  refine ⟨?_, ?_, ?_, ?_, ?_, ?_, ?_, ?_, ?_, ?_, ?_, ?_, ?_, ?_, ?_, h.log.frame (fun b hl hc _ => hb b hl hc) (fun b hl hc _ => ho b hl hc), h.bks.frame (fun b hl hc _ => hb b hl hc) (fun b hl hc _ => ho b hl hc)⟩
  · rw [ho p lp (by rw [h.ownP])]; exact h.ownP
  · rw [ho mo lo (by rw [h.ownO])]; exact h.ownO
  · rw [ho ph lh (by rw [h.ownH])]; exact h.ownH
  · rw [ho mv lv (by rw [h.ownV])]; exact h.ownV
  · rw [ho mm lm (by rw [h.ownM])]; exact h.ownM
  · rw [hb p lp (by rw [h.ownP])]; exact h.store
  · rw [hb ph lh (by rw [h.ownH])]; exact h.hist
  · exact h.opn.of_block (hb mo lo (by rw [h.ownO]))
  · intro n t e
    have h1 := h.ownT n t e
    rw [ho (pt n) (block_lt (h.tx n t e)) (by rw [h1.1]), ho (mw n) ((h.wr n t e).lt) (by rw [h1.2])]
    exact h1
  · intro n t e
    rw [hb (pt n) (block_lt (h.tx n t e)) (by rw [(h.ownT n t e).1])]; exact h.tx n t e
  · intro n t e
    exact (h.wr n t e).of_block (hb (mw n) ((h.wr n t e).lt) (by rw [(h.ownT n t e).2]))
  · exact h.vers.of_block (hb mv lv (by rw [h.ownV]))
  · exact h.moms.of_block (hb mm lm (by rw [h.ownM]))
  · intro k hk b e
    have h1 := h.ownR k hk b e
    rw [ho b ((h.row k hk).lt b e).2 (by rw [h1])]; exact h1
  · intro k hk
    have h0 := h.row k hk
    refine ⟨h0.1, ?_⟩
    rcases h0.2 with h1 | ⟨g, cap, cur, e, hg0, hg, r⟩
    · exact Or.inl h1
    · have hlt := block_lt hg
      exact Or.inr ⟨g, cap, cur, e, hg0, (hb g hlt (by rw [h.ownR k hk g (by rw [e]; rfl)])).trans hg, r⟩

theorem encI_at (g : Int → Option Value) (n : Int) : encI g (.int .i64 n) = g n := rfl
theorem encS_at (g : ByteArray → Option Value) (k : ByteArray) : encS g (.string k) = g k := rfl
theorem encP_at (g : ByteArray → Int → Option Value) (k : ByteArray) (m : Int) : encP g (.agg #[.string k, .int .i64 m]) = g k m := rfl

end

end Go.Proofs.YthbdpfccfcceiaaDoor
