/-
  What the small functions on texts answer: the key test of the program, the key test of the document's answer, the value test.
  Maps whose elements are any values: a map's block told by a function from key values to element values, and how many entries it has; what look-up, store, delete, len, range and next do to it.
-/
import Derived.Test.YthbdpfccfcceiaaGreatDoorRows
import Derived.WalkKit
import Derived.WalkSpells
import Derived.WalkLawsBesides
import Derived.BigFrame
import Derived.Maps.OwnSet
import Derived.Maps.RangeWalk
namespace Go.Proofs.YthbdpfccfcceiaaGreatDoor
open Go.RowKit

def kb (c : UInt8) : Bool := decide (97 ≤ (c.toNat : Int) ∧ (c.toNat : Int) ≤ 122 ∨ 48 ≤ (c.toNat : Int) ∧ (c.toNat : Int) ≤ 57)
def isKey (s : ByteArray) : Bool := decide (1 ≤ s.size) && (decide (s.size ≤ 8) && s.data.toList.all kb)

theorem ret_bool {a b : Bool} (h : a = b) : Ending.returned (.bool a) = .returned (.bool b) := by rw [h]

theorem take_snoc (s : ByteArray) (k : Nat) (h : k < s.size) : s.data.toList.take (k + 1) = s.data.toList.take k ++ [s[k]] := by
  rw [List.take_succ_eq_append_getElem (by simpa using h)]; rfl

theorem isKey_bad (s : ByteArray) (k : Nat) (h : k < s.size) (hb : kb s[k] = false) : false = isKey s := by
  have : s.data.toList.all kb = false := by
    rw [List.all_eq_false]
    exact ⟨s[k], List.getElem_mem (l := s.data.toList) (n := k) (by simpa using h), by simp [hb]⟩
  simp [isKey, this]
theorem isKey_len (s : ByteArray) (h : ¬ (1 ≤ s.size ∧ s.size ≤ 8)) : isKey s = false := by
  unfold isKey
  by_cases h1 : 1 ≤ s.size
  · have : ¬ s.size ≤ 8 := fun h2 => h ⟨h1, h2⟩
    simp [this]
  · simp [h1]
theorem isKey_all (s : ByteArray) (k : Nat) (hk : s.size ≤ k) (hall : (s.data.toList.take k).all kb = true) : isKey s = (decide (1 ≤ s.size) && decide (s.size ≤ 8)) := by
  rw [List.take_of_length_le (by simpa using hk)] at hall
  unfold isKey
  rw [hall]; simp

set_option maxHeartbeats 400000 in
theorem isKeyByte_any (c : UInt8) (w : World) :
    Calls Tryz.prog 123 #[.int .u8 c.toNat] w fun e w' => e = .returned (.bool (kb c)) ∧ w' = w := by
  go_enter Tryz.func123, Tryz.ntmps123
  go_wp2
  all_goals
    go_ret
    exact ⟨ret_bool (by unfold kb; rw [Bool.eq_iff_iff]; simp <;> omega), rfl⟩

set_option maxHeartbeats 400000 in
theorem isKey_any (s : ByteArray) (w : World) (hs : s.size ≤ maxLen) :
    Calls Tryz.prog 67 #[.string s] w fun e w' => e = .returned (.bool (isKey s)) ∧ w' = w := by
  unfold maxLen at hs
  by_cases h1 : s.size < 1
  · have h1' : (s.size : Int) < 1 := by omega
    go_enter Tryz.func67, Tryz.ntmps67
    go_wp2
    go_ret
    exact ⟨ret_bool (by unfold isKey; simp; omega), rfl⟩
  by_cases h8 : 8 < s.size
  · have h8' : (8 : Int) < s.size := by omega
    have h1' : ¬ (s.size : Int) < 1 := by omega
    go_enter Tryz.func67, Tryz.ntmps67
    go_wp2
    go_ret
    exact ⟨ret_bool (by unfold isKey; simp; omega), rfl⟩
  have h8' : ¬ (8 : Int) < s.size := by omega
  have h1' : ¬ (s.size : Int) < 1 := by omega
  go_enter Tryz.func67, Tryz.ntmps67
  go_wp2
  go_loop [14] (fun i => ∃ k : Nat, k ≤ s.size ∧ i = .int .i64 k ∧ (s.data.toList.take k).all kb = true) (fun i => s.size - (intOf i).toNat)
  case atStart => exact ⟨0, Nat.zero_le _, rfl, rfl⟩
  case round =>
    obtain ⟨k, hk, rfl, hall⟩ := hrel
    by_cases hlt : k < s.size
    · have HT : Hid (s.data.toList.take (k + 1) = s.data.toList.take k ++ [s[k]]) := take_snoc s k hlt
      cases hb : kb s[k]
      · go_wp2_with (go_at_call 123; refine (isKeyByte_any _ _).mono ?_; rintro e w' ⟨rfl, rfl⟩)
        go_ret
        exact ⟨ret_bool (isKey_bad s k hlt hb), rfl⟩
      · go_wp2_with (go_at_call 123; refine (isKeyByte_any _ _).mono ?_; rintro e w' ⟨rfl, rfl⟩)
        go_round
        case rel => exact ⟨k + 1, by omega, by go_num, by rw [HT.out]; simp [hall, hb]⟩
        case measure => simp [intOf]; omega
    · go_wp2
      go_ret
      exact ⟨ret_bool (by rw [isKey_all s k (by omega) hall]; simp; omega), rfl⟩

set_option maxHeartbeats 400000 in
theorem isValue_any (s : ByteArray) (w : World) (hs : s.size ≤ maxLen) :
    Calls Tryz.prog 68 #[.string s] w fun e w' => e = .returned (.bool (decide (s.size ≤ 20))) ∧ w' = w := by
  unfold maxLen at hs
  go_enter Tryz.func68, Tryz.ntmps68
  go_wp2
  go_ret
  exact ⟨ret_bool (by rw [Bool.eq_iff_iff]; simp <;> omega), rfl⟩

set_option maxHeartbeats 400000 in
theorem refKey_any (s : ByteArray) (w : World) (hs : s.size ≤ maxLen) :
    Calls Tryz.prog 151 #[.string s] w fun e w' => e = .returned (.bool (isKey s)) ∧ w' = w := by
  unfold maxLen at hs
  go_enter Tryz.func151, Tryz.ntmps151
  go_wp2
  go_loop [3] (fun i => ∃ k : Nat, k ≤ s.size ∧ i = .int .i64 k ∧ (s.data.toList.take k).all kb = true) (fun i => s.size - (intOf i).toNat)
  case atStart => exact ⟨0, Nat.zero_le _, rfl, rfl⟩
  case round =>
    obtain ⟨k, hk, rfl, hall⟩ := hrel
    by_cases hlt : k < s.size
    · have HT : Hid (s.data.toList.take (k + 1) = s.data.toList.take k ++ [s[k]]) := take_snoc s k hlt
      go_wp2
      all_goals first
        | go_round
          case rel =>
            have hb : kb s[k] = true := by
              unfold kb; simp at *; omega
            exact ⟨k + 1, by omega, by go_num, by rw [HT.out]; simp [hall, hb]⟩
          case measure => simp [intOf]; omega
        | go_ret
          have hb : kb s[k] = false := by
            unfold kb; simp at *; omega
          exact ⟨ret_bool (isKey_bad s k hlt hb), rfl⟩
    · go_wp2
      all_goals
        go_ret
        exact ⟨ret_bool (by rw [isKey_all s k (by omega) hall]; rw [Bool.eq_iff_iff]; simp <;> omega), rfl⟩

end Go.Proofs.YthbdpfccfcceiaaGreatDoor

namespace Go.Proofs.YthbdpfccfcceiaaGreatDoor
open Go.Maps (Keyed IsMap Tidy)

def anyE (v : Value) : Option (DataW Value × List MemPlace) := some (.held v, [])

structure FM (P : Program) (k : TypeId) (D : DataW Value) (f : Value → Option Value) : Prop where
  has : ∀ x l, keyOf P k x = some l → Maps.has D l = (f x).isSome
  at_ : ∀ x l v z, keyOf P k x = some l → f x = some v → D.atKey l z = .held v
  key : ∀ x, (f x).isSome = true → ∃ l, keyOf P k x = some l

def fmap (w : World) (P : Program) (k : TypeId) (b n : Nat) (f : Value → Option Value) : Prop :=
  ∃ D, w.ownsMap P k anyE b n D ∧ Maps.size D = n ∧ FM P k D f

structure IsPut (f : Value → Option Value) (key val : Value) (f' : Value → Option Value) : Prop where
  same : f' key = some val
  other : ∀ x, x ≠ key → f' x = f x
structure IsDel (f : Value → Option Value) (key : Value) (f' : Value → Option Value) : Prop where
  same : f' key = none
  other : ∀ x, x ≠ key → f' x = f x

section
variable {P : Program} {k : TypeId} {w : World} {b n : Nat} {f : Value → Option Value}

theorem FM.put {D : DataW Value} (h : FM P k D f) (hm : IsMap D) (K : Keyed P k) {key : Value} {kl : Lit} (hk : keyOf P k key = some kl) (val : Value) {f' : Value → Option Value} (hp : IsPut f key val f') : FM P k (D.put kl (.held val)) f' := by
  refine ⟨fun x l hx => ?_, fun x l v z hx hf => ?_, fun x hx => ?_⟩
  · by_cases e : x = key
    · subst e
      rw [hk] at hx; cases hx
      rw [hp.same, Maps.has_put_same hm (K.key hk)]; rfl
    · have hne : l ≠ kl := fun e' => e (K.inj hx (e' ▸ hk))
      rw [hp.other _ e, Maps.has_put_other hne]
      exact h.has x l hx
  · by_cases e : x = key
    · subst e
      rw [hk] at hx; cases hx
      rw [hp.same] at hf; cases hf
      exact Maps.atKey_put_same hm (K.key hk) _ _
    · have hne : l ≠ kl := fun e' => e (K.inj hx (e' ▸ hk))
      rw [hp.other _ e] at hf
      rw [Maps.atKey_put_other hne]
      exact h.at_ x l v z hx hf
  · by_cases e : x = key
    · subst e; exact ⟨kl, hk⟩
    · rw [hp.other _ e] at hx; exact h.key x hx

theorem FM.del {D : DataW Value} (h : FM P k D f) (K : Keyed P k) {key : Value} {kl : Lit} (hk : keyOf P k key = some kl) {f' : Value → Option Value} (hp : IsDel f key f') : FM P k (D.del kl) f' := by
  refine ⟨fun x l hx => ?_, fun x l v z hx hf => ?_, fun x hx => ?_⟩
  · by_cases e : x = key
    · subst e
      rw [hk] at hx; cases hx
      rw [hp.same, Maps.has_del_same]; rfl
    · have hne : l ≠ kl := fun e' => e (K.inj hx (e' ▸ hk))
      rw [hp.other _ e, Maps.has_del_other hne]
      exact h.has x l hx
  · by_cases e : x = key
    · subst e
      rw [hp.same] at hf; cases hf
    · have hne : l ≠ kl := fun e' => e (K.inj hx (e' ▸ hk))
      rw [hp.other _ e] at hf
      rw [Maps.atKey_del_other hne]
      exact h.at_ x l v z hx hf
  · by_cases e : x = key
    · subst e; exact ⟨kl, hk⟩
    · rw [hp.other _ e] at hx; exact h.key x hx

theorem ownsMap_tight {D : DataW Value} {R : Value → Option (DataW Value × List MemPlace)} (h : w.ownsMap P k R b n D) : w.ownsMap P k R b (Maps.size D) D := by
  obtain ⟨es, clock, hb, F, _, rfl⟩ := h
  exact ⟨es, clock, hb, F, by simp [Maps.size, length_sorted], rfl⟩

theorem fmap_made (w : World) (P : Program) (k : TypeId) : fmap (w.alloc (.map #[] 0)) P k w.heap.size 0 (fun _ => none) :=
  ⟨.map [], World.ownsMap_made w P k anyE, rfl, ⟨fun _ _ _ => rfl, fun _ _ _ _ _ h => (by cases h), fun _ h => (by cases h)⟩⟩

theorem fmap.of_block {w' : World} (h : fmap w P k b n f) (e : w'.heap[b]? = w.heap[b]?) : fmap w' P k b n f := by
  obtain ⟨D, ⟨es, clock, hb, r⟩, hs, hf⟩ := h
  exact ⟨D, ⟨es, clock, e.trans hb, r⟩, hs, hf⟩

theorem fmap.lt (h : fmap w P k b n f) : b < w.heap.size := by obtain ⟨D, h, _⟩ := h; exact h.lt

theorem fmap.alloc (h : fmap w P k b n f) (o : Obj) : fmap (w.alloc o) P k b n f := h.of_block (RowKit.Below.heap_alloc w o b h.lt)
theorem fmap.drew (h : fmap w P k b n f) : fmap w.drew P k b n f := h.of_block rfl
theorem fmap.setCell (h : fmap w P k b n f) {a : Addr} (ha : b ≠ a.block) (v : Value) : fmap (w.setCell a v) P k b n f := h.of_block (RowKit.Below.heap_setCell w a v b ha)

theorem fmap.noCell (h : fmap w P k b n f) (o : Nat) : w.cell? ⟨b, o, none⟩ = none := by
  obtain ⟨D, ⟨es, clock, hb, _⟩, _⟩ := h
  simp [World.cell?, hb]

theorem fmap.look (c : Bool) {t e : TypeId} (h : fmap w P k b n f) (K : Keyed P k) (ht : P.underlying t = some (.map k e)) {z : Value} (hz : (zeroValue e).run P w = .ok z w) {key : Value} {kl : Lit} (hk : keyOf P k key = some kl) :
    (Instr.lookup t (.map (some b)) key c).run P w = .ok (if c then .tuple #[(f key).getD z, .bool (f key).isSome] else (f key).getD z) w := by
  obtain ⟨D, ⟨es, clock, hb, F, _, rfl⟩, hs, hf⟩ := h
  have h1 := hf.has key kl hk
  rcases Maps.fit_look c K ht hz hb F hk with ⟨hrun, _, hat⟩ | ⟨e0, y, _, _, hrun, hRv, hat, _⟩
  · rw [Maps.has_false_of_atKey hat] at h1
    have : f key = none := by cases hh : f key with | none => rfl | some _ => rw [hh] at h1; cases h1
    rw [hrun, this]; rfl
  · rw [Maps.has_true_of_atKey hat] at h1
    cases hh : f key with
    | none => rw [hh] at h1; cases h1
    | some v =>
      have := hf.at_ key kl v .nil hk hh
      rw [hat] at this
      unfold anyE at hRv
      cases hRv
      cases this
      rw [hrun]; rfl

theorem fmap.len {t e : TypeId} (h : fmap w P k b n f) (ht : P.underlying t = some (.map k e)) (ty : TypeId) : (Builtin.len_ #[t] ty #[.map (some b)]).run P w = .ok (.int .i64 n) w := by
  obtain ⟨D, h1, hs, _⟩ := h
  rw [h1.len ht ty, hs]

theorem fmap.store {t e : TypeId} (h : fmap w P k b n f) (K : Keyed P k) (ht : P.underlying t = some (.map k e)) (hn : n < maxLen) {key : Value} {kl : Lit} (hk : keyOf P k key = some kl) (val : Value) {f' : Value → Option Value} (hp : IsPut f key val f') :
    ∃ w', (Instr.mapUpdate t (.map (some b)) key val).run P w = .ok () w' ∧ fmap w' P k b (if (f key).isSome then n else n + 1) f' ∧ w.mapTurned w' b := by
  obtain ⟨D, h1, hs, hf⟩ := h
  obtain ⟨w', hrun, h2, h3⟩ := h1.store K ht hn hk (rfl : anyE val = some (.held val, []))
  refine ⟨w', hrun, ⟨_, ?_, ?_, hf.put h1.isMap K hk val hp⟩, h3⟩
  · have := ownsMap_tight h2
    rw [Maps.size_put (h1.tidy K), hf.has key kl hk, hs] at this
    exact this
  · rw [Maps.size_put (h1.tidy K), hf.has key kl hk, hs]

theorem fmap.drop {t e : TypeId} (h : fmap w P k b n f) (K : Keyed P k) (ht : P.underlying t = some (.map k e)) {key : Value} {kl : Lit} (hk : keyOf P k key = some kl) (ty : TypeId) {f' : Value → Option Value} (hp : IsDel f key f') :
    ∃ w', (Builtin.delete_ #[t, k] ty #[.map (some b), key]).run P w = .ok (.tuple #[]) w' ∧ fmap w' P k b (if (f key).isSome then n - 1 else n) f' ∧ w.mapTurned w' b := by
  obtain ⟨D, h1, hs, hf⟩ := h
  obtain ⟨w', hrun, h2, h3⟩ := h1.drop K ht hk ty
  have hd := Maps.size_del (k := kl) (h1.tidy K)
  rw [hf.has key kl hk, hs] at hd
  have e1 : Maps.size (D.del kl) = if (f key).isSome then n - 1 else n := by
    split <;> simp_all <;> omega
  refine ⟨w', hrun, ⟨_, ?_, e1, hf.del K hk hp⟩, h3⟩
  have := ownsMap_tight h2
  rw [e1] at this
  exact this

theorem mapTurned_block {w' : World} (h : w.mapTurned w' b) (i : Nat) (hi : i ≠ b) : w'.heap[i]? = w.heap[i]? := by
  obtain ⟨es, clock, es', clock', hb, rfl⟩ := h
  exact ChangeMaps.heap_setBlock_other hb _ hi

theorem mapTurned_size {w' : World} (h : w.mapTurned w' b) : w'.heap.size = w.heap.size := by
  obtain ⟨es, clock, es', clock', hb, rfl⟩ := h
  simp [ChangeMaps.setBlock]

/-- A range under way: which keys are still to come. -/
def frng (w : World) (P : Program) (k : TypeId) (b r n : Nat) (f : Value → Option Value) (left : Value → Bool) (cnt : Nat) : Prop :=
  ∃ D lf, w.ranges P k anyE b r n D lf cnt ∧ Maps.size D = n ∧ FM P k D f ∧ (∀ x l, keyOf P k x = some l → lf l = left x) ∧ (∀ x, left x = true → (f x).isSome = true)

theorem frng.toMap {left : Value → Bool} {r cnt : Nat} (h : frng w P k b r n f left cnt) : fmap w P k b n f := by
  obtain ⟨D, lf, h1, h2, h3, _⟩ := h
  exact ⟨D, h1.owns, h2, h3⟩

theorem frng.of_block {w' : World} {left : Value → Bool} {r cnt : Nat} (h : frng w P k b r n f left cnt) (e : w'.heap[b]? = w.heap[b]?) (e' : w'.heap[r]? = w.heap[r]?) : frng w' P k b r n f left cnt := by
  obtain ⟨D, lf, ⟨es, clock, since, seen, c0, h1, h2, h3, h4, h5, h6⟩, r⟩ := h
  exact ⟨D, lf, ⟨es, clock, since, seen, c0, e.trans h1, h2, h3, h4, e'.trans h5, h6⟩, r⟩

theorem frng.left_eq {left : Value → Bool} {r cnt : Nat} (h : frng w P k b r n f left cnt) : w.rangeLeft b r = cnt := by
  obtain ⟨D, lf, h1, _⟩ := h
  exact h1.left_eq

theorem frng.ne {left : Value → Bool} {r cnt : Nat} (h : frng w P k b r n f left cnt) : r ≠ b := by
  obtain ⟨D, lf, h1, _⟩ := h
  exact h1.ne

theorem fmap.range {t e : TypeId} (h : fmap w P k b n f) (K : Keyed P k) (ht : P.underlying t = some (.map k e)) :
    ∃ w', (Instr.range t (.map (some b))).run P w = .ok (.pointer (some ⟨w.heap.size, 0, none⟩)) w' ∧ frng w' P k b w.heap.size n f (fun x => (f x).isSome) n ∧ w.grownBy w' none ∧ w'.heap.size = w.heap.size + 1 := by
  obtain ⟨D, h1, hs, hf⟩ := h
  obtain ⟨w', hrun, h2, h3, h4⟩ := h1.range K ht
  rw [hs] at h2
  exact ⟨w', hrun, ⟨D, _, h2, hs, hf, fun x l hx => hf.has x l hx, fun x hx => hx⟩, h3, h4⟩

open Classical in
theorem frng.next {left : Value → Bool} {r cnt : Nat} (h : frng w P k b r n f left cnt) (K : Keyed P k) (ty : TypeId) :
    (cnt = 0 ∧ (∀ x, left x = false) ∧ (Instr.next (.pointer (some ⟨r, 0, none⟩)) false ty).run P w = .ok (.tuple #[.bool false]) w) ∨
    ∃ key v w' cnt', left key = true ∧ f key = some v ∧ (Instr.next (.pointer (some ⟨r, 0, none⟩)) false ty).run P w = .ok (.tuple #[.bool true, key, v]) w' ∧
      (∃ left', frng w' P k b r n f left' cnt' ∧ left' key = false ∧ ∀ x, x ≠ key → left' x = left x) ∧ cnt' < cnt ∧ w.grownBy w' (some r) ∧ w'.heap.size = w.heap.size ∧ (Instr.entry (.pointer (some ⟨r, 0, none⟩))).run P w' = .ok (.tuple #[key, v]) w' := by
  obtain ⟨D, lf, h1, hs, hf, hl, hi⟩ := h
  rcases h1.next K ty with ⟨h0, hl0, hrun⟩ | ⟨key, v, kl, y, w', cnt', hkey, hlk, hv, hat, hrun, hrg, hlt, hgr, hsz, hen⟩
  · refine Or.inl ⟨h0, fun x => ?_, hrun⟩
    cases e : left x with
    | false => rfl
    | true =>
      obtain ⟨l, hx⟩ := hf.key x (hi x e)
      rw [← hl x l hx, hl0] at e; cases e
  · have hlk' := hl key kl hkey ▸ hlk
    have hsome := hi key hlk'
    obtain ⟨v', hv'⟩ := Option.isSome_iff_exists.1 hsome
    have ha := hf.at_ key kl v' .nil hkey hv'
    rw [hat] at ha
    unfold anyE at hv
    cases hv
    cases ha
    refine Or.inr ⟨key, v, w', cnt', hlk', hv', hrun, ⟨fun x => left x && !decide (x = key), ⟨D, _, hrg, hs, hf, fun x l hx => ?_, fun x hx => hi x (by simp at hx; exact hx.1)⟩, by simp, fun x hx => by simp [hx]⟩, hlt, hgr, hsz, hen⟩
    show (lf l && !l.sameKey kl) = (left x && !decide (x = key))
    rw [hl x l hx]
    by_cases e : x = key
    · subst e
      rw [hkey] at hx; cases hx
      rw [WideAt.sameKey_self (K.key hkey)]; simp
    · have : l ≠ kl := fun e' => e (K.inj hx (e' ▸ hkey))
      rw [Maps.sameKey_ne this]; simp [e]

end

section
variable {P : Program} (w : World) {ops : Array Oper} {rest : List Oper} {o : Oper} {a : Act} {Q : Exit → Act → World → Prop}

theorem wpL_lookup_ok (hg : Region.wanted o (yielded ops a.tmps) = true) (m x : Operand) (t : TypeId) (hop : o.op = Op.lookup t m x true)
    (k e : TypeId) (K : Keyed P k) (ht : P.underlying t = some (.map k e)) {z : Value} (hz : (zeroValue e).run P w = .ok z w) (b n : Nat) (f : Value → Option Value)
    (hm : a.eval m = .map (some b)) (hown : fmap w P k b n f) (key : Value) (kl : Lit) (hx : a.eval x = key) (hkey : keyOf P k key = some kl) (r : Option Value) (hr : f key = r)
    (hK : wpList P ops Q rest (a.put o.dst (.tuple #[r.getD z, .bool r.isSome])) w) :
    wpList P ops Q (o :: rest) a w := by
  refine BigFrame.wpList_want hg fun K' hK' => ?_
  have hrun := hown.look true K ht hz hkey
  rw [hr] at hrun
  simp only [if_true] at hrun
  unfold Oper.wp
  simp [execOp, hop, hm, hx, hrun, Result.andThen]
  exact hK' _ _ hK

theorem wpL_lookup (hg : Region.wanted o (yielded ops a.tmps) = true) (m x : Operand) (t : TypeId) (hop : o.op = Op.lookup t m x false)
    (k e : TypeId) (K : Keyed P k) (ht : P.underlying t = some (.map k e)) {z : Value} (hz : (zeroValue e).run P w = .ok z w) (b n : Nat) (f : Value → Option Value)
    (hm : a.eval m = .map (some b)) (hown : fmap w P k b n f) (key : Value) (kl : Lit) (hx : a.eval x = key) (hkey : keyOf P k key = some kl) (v : Value) (hr : (f key).getD z = v)
    (hK : wpList P ops Q rest (a.put o.dst v) w) :
    wpList P ops Q (o :: rest) a w := by
  refine BigFrame.wpList_want hg fun K' hK' => ?_
  have hrun := hown.look false K ht hz hkey
  rw [hr] at hrun
  simp only [Bool.false_eq_true, if_false] at hrun
  unfold Oper.wp
  simp [execOp, hop, hm, hx, hrun, Result.andThen]
  exact hK' _ _ hK

theorem wpL_store (hg : Region.wanted o (yielded ops a.tmps) = true) (m x v : Operand) (t : TypeId) (hop : o.op = Op.mapUpdate t m x v)
    (k e : TypeId) (K : Keyed P k) (ht : P.underlying t = some (.map k e)) (b n : Nat) (f : Value → Option Value)
    (hm : a.eval m = .map (some b)) (hown : fmap w P k b n f) (hn : n < maxLen) (key val : Value) (kl : Lit) (hx : a.eval x = key) (hv : a.eval v = val) (hkey : keyOf P k key = some kl) {f' : Value → Option Value} (hp : IsPut f key val f')
    (hK : ∀ w', fmap w' P k b (if (f key).isSome then n else n + 1) f' → w.mapTurned w' b → wpList P ops Q rest (a.put o.dst undef) w') :
    wpList P ops Q (o :: rest) a w := by
  refine BigFrame.wpList_want hg fun K' hK' => ?_
  obtain ⟨w', hrun, r1, r2⟩ := hown.store K ht hn hkey val hp
  unfold Oper.wp
  simp [execOp, hop, hm, hx, hv, hrun, Result.andThen]
  exact hK' _ _ (hK w' r1 r2)

theorem wpL_delete (hg : Region.wanted o (yielded ops a.tmps) = true) (m x : Operand) (t k : TypeId) (hop : o.op = Op.call { callee := Callee.builtin Builtin.delete, args := #[m, x], argTypes := #[t, k] })
    (e : TypeId) (K : Keyed P k) (ht : P.underlying t = some (.map k e)) (b n : Nat) (f : Value → Option Value)
    (hm : a.eval m = .map (some b)) (hown : fmap w P k b n f) (key : Value) (kl : Lit) (hx : a.eval x = key) (hkey : keyOf P k key = some kl) {f' : Value → Option Value} (hp : IsDel f key f')
    (hK : ∀ w', fmap w' P k b (if (f key).isSome then n - 1 else n) f' → w.mapTurned w' b → wpList P ops Q rest (a.put o.dst (.tuple #[])) w') :
    wpList P ops Q (o :: rest) a w := by
  refine BigFrame.wpList_want hg fun K' hK' => ?_
  obtain ⟨w', hrun, r1, r2⟩ := hown.drop K ht hkey o.type hp
  unfold Oper.wp
  simp [execOp, hop, resolve, invoke, builtin, hm, hx, hrun, Result.andThen]
  exact hK' _ _ (hK w' r1 r2)

theorem wpL_len (hg : Region.wanted o (yielded ops a.tmps) = true) (m : Operand) (t : TypeId) (hop : o.op = Op.call { callee := Callee.builtin Builtin.len, args := #[m], argTypes := #[t] })
    (k e : TypeId) (ht : P.underlying t = some (.map k e)) (b n : Nat) (f : Value → Option Value) (hm : a.eval m = .map (some b)) (hown : fmap w P k b n f)
    (hK : wpList P ops Q rest (a.put o.dst (.int .i64 n)) w) :
    wpList P ops Q (o :: rest) a w := by
  refine BigFrame.wpList_want hg fun K' hK' => ?_
  unfold Oper.wp
  simp [execOp, hop, resolve, invoke, builtin, hm, hown.len ht o.type, Result.andThen]
  exact hK' _ _ hK

theorem wpL_range (hg : Region.wanted o (yielded ops a.tmps) = true) (m : Operand) (t : TypeId) (hop : o.op = Op.range t m) (k e : TypeId) (K : Keyed P k) (ht : P.underlying t = some (.map k e)) (b n : Nat) (f : Value → Option Value)
    (hm : a.eval m = .map (some b)) (hown : fmap w P k b n f)
    (hK : ∀ w', frng w' P k b w.heap.size n f (fun x => (f x).isSome) n → w.grownBy w' none → w'.heap.size = w.heap.size + 1 → wpList P ops Q rest (a.put o.dst (.pointer (some ⟨w.heap.size, 0, none⟩))) w') :
    wpList P ops Q (o :: rest) a w := by
  refine BigFrame.wpList_want hg fun K' hK' => ?_
  obtain ⟨w', hrun, r1, r2, r3⟩ := hown.range K ht
  unfold Oper.wp
  simp [execOp, hop, hm, hrun, Result.andThen]
  exact hK' _ _ (hK w' r1 r2 r3)

theorem wpL_next {α β : Type} (hg : Region.wanted o (yielded ops a.tmps) = true) (it : Operand) (hop : o.op = Op.next it false) (k : TypeId) (K : Keyed P k) (mkK : α → Value) (mkV : β → Value)
    (b r n : Nat) (f : Value → Option Value) (left : Value → Bool) (cnt : Nat) (inv : ∀ key v, f key = some v → ∃ x c, key = mkK x ∧ v = mkV c)
    (hit : a.eval it = .pointer (some ⟨r, 0, none⟩)) (h : frng w P k b r n f left cnt)
    (hDone : cnt = 0 → (∀ x, left x = false) → wpList P ops Q rest (a.put o.dst (.tuple #[.bool false])) w)
    (hMore : ∀ (x : α) (c : β) (w' : World) (cnt' : Nat), left (mkK x) = true → f (mkK x) = some (mkV c) → ∀ left', frng w' P k b r n f left' cnt' → left' (mkK x) = false → (∀ z, z ≠ mkK x → left' z = left z) → cnt' < cnt →
      w.grownBy w' (some r) → w'.heap.size = w.heap.size → (Instr.entry (.pointer (some ⟨r, 0, none⟩))).run P w' = .ok (.tuple #[mkK x, mkV c]) w' → wpList P ops Q rest (a.put o.dst (.tuple #[.bool true, mkK x, mkV c])) w') :
    wpList P ops Q (o :: rest) a w := by
  refine BigFrame.wpList_want hg fun K' hK' => ?_
  unfold Oper.wp
  rcases h.next K o.type with ⟨h0, hl, hrun⟩ | ⟨key, v, w', cnt', hlk, hv, hrun, ⟨left', hrg, hl1, hl2⟩, hlt, hgr, hsz, hen⟩
  · simp [execOp, hop, hit, hrun, Result.andThen]
    exact hK' _ _ (hDone h0 hl)
  · obtain ⟨x, c, rfl, rfl⟩ := inv key v hv
    simp [execOp, hop, hit, hrun, Result.andThen]
    exact hK' _ _ (hMore x c w' cnt' hlk hv left' hrg hl1 hl2 hlt hgr hsz hen)

end

end Go.Proofs.YthbdpfccfcceiaaGreatDoor
