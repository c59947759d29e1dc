/-
  The tie between the program's plain state and the document's: what it is, and that both see the same.
  Commit of a store: overtaken; no more room.
-/
import Derived.Test.YthbdpfccfcceiaaGreatDoorR13
import Derived.Test.YthbdpfccfcceiaaGreatDoorC2L1L2
namespace Go.Proofs.YthbdpfccfcceiaaGreatDoor
open Go.RowKit

def getK (l : List YV) (k : ByteArray) : Option YV := (idxK l k).bind fun i => l[i]?
def wrOf (l : List YV) (k : ByteArray) : Option (ByteArray × Bool) := (getK l k).map fun y => (y.s, y.gone)
def momsOf (l : List YV) (k : ByteArray) : List Int := (l.filter fun y => decide (y.key = k)).map (·.t)
def verOf (l : List YV) (k : ByteArray) (m : Int) : Option (ByteArray × Bool) := (l.find? fun y => decide (y.key = k ∧ y.t = m)).map fun y => (y.s, y.gone)
def xtOf (t : YT) : XT := ⟨t.sees, wrOf t.l, t.l.length⟩
def txOf (y : YS) (n : Int) : Option XT := if thereY y n = true then (y.txs[(n - 1).toNat]?).map xtOf else none

structure Tied (s : XS) (y : YS) : Prop where
  now : s.now = y.now
  begun : s.begun = (y.txs.length : Int)
  txs : ∀ n, s.txs n = txOf y n
  nopen : s.nopen = openN y.txs
  mom : ∀ k, s.mom k = momsOf y.l k
  ver : ∀ k m, s.ver k m = verOf y.l k m
  nv : (s.nv : Int) ≤ 10 * y.now
  nm : (s.nm : Int) ≤ 10 * y.now
  hor : s.hor = y.hor
  lgl : (s.log.lg.length : Int) ≤ y.now + y.hor
  lgb : ∀ b ∈ s.log.lg, b.length ≤ 400
  sy : s.log.sy ≤ bytesOf (filesB s.log.lg)
  nob : ∀ n, s.bk.un n = none

/-- What holds of a transaction by the document. -/
structure TI (n : Int) (t : YT) : Prop where
  sees : 0 ≤ t.sees ∧ t.sees ≤ n
  len : t.l.length ≤ 10
  one : t.l.Pairwise (fun a b => a.key ≠ b.key)
  ok : ∀ v ∈ t.l, isKey v.key = true ∧ v.s.size ≤ 20

/-- What holds of a store by the document. -/
structure YI (y : YS) : Prop where
  now : 0 ≤ y.now ∧ y.now ≤ 2000
  len : (y.l.length : Int) ≤ 10 * y.now
  ver : ∀ v ∈ y.l, 1 ≤ v.t ∧ v.t ≤ y.now ∧ isKey v.key = true
  up : y.l.Pairwise (fun a b => a.t ≤ b.t ∧ (a.t = b.t → a.key ≠ b.key))
  txs : ∀ t ∈ y.txs, TI y.now t
  opn : openN y.txs ≤ 8
  hor : 0 ≤ y.hor ∧ y.hor ≤ y.now
  pin : ∀ t ∈ y.txs, t.over = false → y.hor ≤ t.sees
  bku : y.bku = .slice none 0 0

theorem idxK_key {l : List YV} {k : ByteArray} {i : Nat} (h : idxK l k = some i) : ∃ hi : i < l.length, l[i].key = k := by
  have hi := idxK_lt h
  rw [idxK, List.findIdx?_eq_some_iff_getElem] at h
  exact ⟨hi, WideShapes.bytes_inj (by rw [← Lib.toList_data, ← Lib.toList_data]; simpa using h.2.1)⟩

theorem idxK_none {l : List YV} {k : ByteArray} : idxK l k = none ↔ ∀ y ∈ l, y.key ≠ k := by
  constructor
  · intro h y hy e
    obtain ⟨i, hi, _⟩ := idxK_of_mem (l := l) (k := k) ⟨y, hy, e⟩
    rw [h] at hi; cases hi
  · intro h
    cases hx : idxK l k with
    | none => rfl
    | some i =>
      obtain ⟨hi, e⟩ := idxK_key hx
      exact absurd e (h _ (List.getElem_mem _))

theorem wrOf_some {l : List YV} {k : ByteArray} {i : Nat} (h : idxK l k = some i) (hi : i < l.length) : wrOf l k = some (l[i].s, l[i].gone) := by
  simp [wrOf, getK, h, List.getElem?_eq_getElem hi]

theorem wrOf_none {l : List YV} {k : ByteArray} (h : idxK l k = none) : wrOf l k = none := by simp [wrOf, getK, h]

theorem wrOf_val {l : List YV} {k : ByteArray} {v : ByteArray × Bool} (h : wrOf l k = some v) : ∃ u ∈ l, u.key = k ∧ v = (u.s, u.gone) := by
  cases hx : idxK l k with
  | none => rw [wrOf_none hx] at h; cases h
  | some i =>
    obtain ⟨hi, e⟩ := idxK_key hx
    rw [wrOf_some hx hi] at h
    exact ⟨_, List.getElem_mem hi, e, (Option.some.inj h).symm⟩

theorem wrOf_isSome {l : List YV} {k : ByteArray} : (wrOf l k).isSome = (idxK l k).isSome := by
  cases hx : idxK l k with
  | none => rw [wrOf_none hx]; rfl
  | some i => rw [wrOf_some hx (idxK_lt hx)]; rfl

theorem wrOf_mem {l : List YV} {k : ByteArray} : (wrOf l k).isSome = true ↔ ∃ y ∈ l, y.key = k := by
  rw [wrOf_isSome]
  constructor
  · intro h
    obtain ⟨i, hi⟩ := Option.isSome_iff_exists.1 h
    obtain ⟨hl, e⟩ := idxK_key hi
    exact ⟨_, List.getElem_mem hl, e⟩
  · intro h
    obtain ⟨i, hi, _⟩ := idxK_of_mem h
    rw [hi]; rfl

theorem mem_moms {l : List YV} {k : ByteArray} {m : Int} : m ∈ momsOf l k ↔ ∃ y ∈ l, y.key = k ∧ y.t = m := by
  simp [momsOf, and_assoc]

theorem moms_ne {l : List YV} {k : ByteArray} : momsOf l k ≠ [] ↔ ∃ y ∈ l, y.key = k := by
  constructor
  · intro h
    obtain ⟨m, hm⟩ := List.exists_mem_of_ne_nil _ h
    obtain ⟨y, hy, e, _⟩ := mem_moms.1 hm
    exact ⟨y, hy, e⟩
  · rintro ⟨y, hy, e⟩ hn
    have := mem_moms.2 ⟨y, hy, e, rfl⟩
    rw [hn] at this
    cases this

theorem moms_up {l : List YV} (h : l.Pairwise (fun a b => a.t ≤ b.t ∧ (a.t = b.t → a.key ≠ b.key))) (k : ByteArray) : (momsOf l k).Pairwise (· < ·) := by
  unfold momsOf
  rw [List.pairwise_map]
  have h2 := h.filter (fun y => decide (y.key = k))
  refine List.Pairwise.imp_of_mem ?_ h2
  intro a b ha hb hr
  have ea : a.key = k := by simpa using (List.mem_filter.1 ha).2
  have eb : b.key = k := by simpa using (List.mem_filter.1 hb).2
  rcases Int.lt_or_eq_of_le hr.1 with h3 | h3
  · exact h3
  · exact absurd (ea.trans eb.symm) (hr.2 h3)

theorem last_top : ∀ {m : List Int} (_ : m.Pairwise (· < ·)) {x : Int} (_ : x ∈ m), ∃ z, m.getLast? = some z ∧ z ∈ m ∧ x ≤ z
  | [], _, _, hx => by cases hx
  | [a], _, x, hx => ⟨a, rfl, by simp, by simp at hx; omega⟩
  | a :: b :: r, h, x, hx => by
    obtain ⟨h1, h2⟩ := List.pairwise_cons.1 h
    rcases List.mem_cons.1 hx with rfl | hx
    · obtain ⟨z, e, hz, hb⟩ := last_top h2 (x := b) (by simp)
      have := h1 b (by simp)
      exact ⟨z, by rw [List.getLast?_cons_cons]; exact e, List.mem_cons_of_mem _ hz, by omega⟩
    · obtain ⟨z, e, hz, hb⟩ := last_top h2 hx
      exact ⟨z, by rw [List.getLast?_cons_cons]; exact e, List.mem_cons_of_mem _ hz, hb⟩

theorem ver_at {l : List YV} (h : l.Pairwise (fun a b => a.t ≤ b.t ∧ (a.t = b.t → a.key ≠ b.key))) {b : Nat} (hb : b < l.length) : verOf l l[b].key l[b].t = some (l[b].s, l[b].gone) := by
  unfold verOf
  cases hf : l.find? (fun y => decide (y.key = l[b].key ∧ y.t = l[b].t)) with
  | none =>
    have := List.find?_eq_none.1 hf l[b] (List.getElem_mem _)
    simp at this
  | some y =>
    have h1 : y.key = l[b].key ∧ y.t = l[b].t := by simpa using List.find?_some hf
    obtain ⟨a, ha, rfl⟩ := List.getElem_of_mem (List.mem_of_find?_eq_some hf)
    have : a = b := by
      rcases Nat.lt_trichotomy a b with hlt | e | hlt
      · exact absurd h1.1 ((List.pairwise_iff_getElem.1 h a b ha hb hlt).2 h1.2)
      · exact e
      · exact absurd h1.1.symm ((List.pairwise_iff_getElem.1 h b a hb ha hlt).2 h1.2.symm)
    subst this
    rfl

theorem fits_iff {y : YV} {t : Int} {k : ByteArray} : fits y t k = true ↔ y.key = k ∧ y.t ≤ t := by
  unfold fits
  rw [Bool.and_eq_true, decide_eq_true_iff]
  refine and_congr_left fun _ => ?_
  constructor
  · intro h
    exact WideShapes.bytes_inj (by rw [← Lib.toList_data, ← Lib.toList_data]; simpa using h)
  · rintro rfl; simp

section
variable {s : XS} {y : YS}

theorem Tied.momOk (h : Tied s y) (hy : YI y) (k : ByteArray) : MomOk s k := by
  have hl := hy.len
  have hn := hy.now
  refine ⟨?_, by rw [h.mom]; exact moms_up hy.up k, fun m hm => ?_⟩
  · rw [h.mom]
    have : (momsOf y.l k).length ≤ y.l.length := by unfold momsOf; rw [List.length_map]; exact List.length_filter_le _ _
    omega
  · rw [h.mom] at hm
    obtain ⟨v, hv, e1, e2⟩ := mem_moms.1 hm
    obtain ⟨b, hb, rfl⟩ := List.getElem_of_mem hv
    have h1 := hy.ver _ hv
    refine ⟨?_, ?_⟩
    · have e0 : IntKind.i64.min = -9223372036854775808 := rfl
      simp [Lit.wf]
      omega
    · rw [h.ver, ← e1, ← e2, ver_at hy.up hb]; rfl

theorem Tied.seen (h : Tied s y) (hy : YI y) (t : YT) : SeenBy y t (seesX s (xtOf t)) := by
  intro k r hr
  rcases hr with ⟨hn, ha⟩ | ⟨i, hi, hl, rfl⟩
  · have e0 : seesX s (xtOf t) k = valAt s k t.sees := by simp [seesX, xtOf, wrOf_none hn]
    rw [e0]
    have hup := (moms_up hy.up k).filter (fun m => decide (m ≤ t.sees))
    rcases ha with ⟨hno, rfl⟩ | ⟨b, hb, hbest, ha⟩
    · have e1 : (s.mom k).filter (fun m => decide (m ≤ t.sees)) = [] := by
        rw [List.filter_eq_nil_iff, h.mom]
        intro m hm
        obtain ⟨v, hv, e1, e2⟩ := mem_moms.1 hm
        obtain ⟨j, hj, rfl⟩ := List.getElem_of_mem hv
        intro hle
        have hle : m ≤ t.sees := by simpa using hle
        have := hno j hj hj
        rw [Bool.eq_false_iff] at this
        exact this (fits_iff.2 ⟨e1, by omega⟩)
      have e2 : valAt s k t.sees = (eb, false) := by simp [valAt, e1]
      rw [e2]
      exact ⟨rfl, fun h => by cases h⟩
    · obtain ⟨ek, et⟩ := fits_iff.1 hbest.fit
      have hm : y.l[b].t ∈ momsOf y.l k := mem_moms.2 ⟨_, List.getElem_mem hb, ek, rfl⟩
      obtain ⟨z, e, hz, hle⟩ := last_top hup (x := y.l[b].t) (List.mem_filter.2 ⟨hm, by simpa using et⟩)
      obtain ⟨hz1, hz2⟩ := List.mem_filter.1 hz
      obtain ⟨v, hv, e1, e2⟩ := mem_moms.1 hz1
      obtain ⟨j, hj, rfl⟩ := List.getElem_of_mem hv
      have hz3 : z ≤ t.sees := by simpa using hz2
      have h5 := hbest.top j hj hj (fits_iff.2 ⟨e1, by omega⟩)
      have hzb : z = y.l[b].t := by omega
      have hv := ver_at hy.up hb
      rw [ek] at hv
      have e2 : valAt s k t.sees = (y.l[b].s, !y.l[b].gone) := by
        unfold valAt
        rw [h.mom, e, hzb]
        simp only [h.ver, hv]
      rw [e2]
      rcases ha with ⟨hg, rfl⟩ | ⟨hg, rfl⟩
      · exact ⟨by simp [hg], fun h => by cases h⟩
      · exact ⟨by simp [hg], fun _ => rfl⟩
  · have e0 : seesX s (xtOf t) k = (t.l[i].s, !t.l[i].gone) := by simp [seesX, xtOf, wrOf_some hi hl]
    rw [e0]
    exact ⟨rfl, fun _ => rfl⟩

end

end Go.Proofs.YthbdpfccfcceiaaGreatDoor

namespace Go.Proofs.YthbdpfccfcceiaaGreatDoor
open Go.RowKit Go.Maps

section
variable {own own' : Nat → Lab} {c : Nat} {w w' : World} {p : Nat} {s : XS} {mo ph mv mm : Nat} {pt mw : Int → Nat} {sl : ByteArray → Value}
variable {R : Ending → World → Prop}

set_option maxRecDepth 20000 in
set_option maxHeartbeats 400000 in
theorem x_commit_over (h : XR own c w p s mo ph mv mm pt mw sl) (tx : Int) (hwx : (Lit.int .i64 tx).wf = true) (t : XT) (e : s.txs tx = some t) (hnw : 0 < t.nw) (hkeys : ∀ k, (t.wr k).isSome = true → k.size ≤ 8) (hmom : ∀ k, (s.mom k).length < 1000000) (hov : overt s t)
    (hR : ∀ w', Kp (fun b => (own b).c = c) w w' → XR own c w' p { s with txs := updI s.txs tx none, nopen := s.nopen - 1 } mo ph mv mm pt mw sl → R (.returned (.tuple #[.int .i64 0, .int .i64 4])) w') :
    Calls Tryz.prog 36 #[.pointer (some ⟨p, 0, none⟩), .int .i64 tx] w R := by
  have hkey : Hid _ := keyOf_int_mk Tryz.underlying3 hwx
  have c2 : w.cell? ⟨p, 7, none⟩ = some (.map (some mo)) := cell_of h.store 7
  have d1 : w.cell? ⟨pt tx, 1, none⟩ = some (.map (some (mw tx))) := cell_of (h.tx tx t e) 1
  have hw := h.wr tx t e
  have hf : (encI fun n => (s.txs n).map fun _ => Value.pointer (some ⟨pt n, 0, none⟩)) (.int .i64 tx) = some (.pointer (some ⟨pt tx, 0, none⟩)) := by rw [encI_at, e]; rfl
  have H : Hid (XR own c w p s mo ph mv mm pt mw sl) := h
  have hopn := h.opn
  have HR : Hid _ := hR
  have hg : Hid _ := gone_opn s tx pt
  have hn : (t.nw : Int) ≠ 0 := by omega
  have hn' : ((t.nw : Int) == 0) = false := by simpa using hn
  clear h hR hnw hn
  go_enter Tryz.func36, Tryz.ntmps36
  go_wp2_with (first
    | (at_lookup; refine wpL_lookup_ok _ rfl _ _ 99 rfl 3 129 kInt Tryz.underlying99 (zTxP _) mo s.nopen _ rfl hopn (.int .i64 tx) _ rfl hkey.out _ hf ?_)
    | (at_len; refine wpL_len _ rfl _ 130 rfl 9 138 Tryz.underlying130 (mw tx) t.nw _ rfl hw ?_)
    | (go_at_call 71; refine x_overtaken H.out tx t e hkeys hmom (fun hno => absurd hov hno) (fun _ w1 hk1 => ?_); have H1 : Hid (XR own c w1 p s mo ph mv mm pt mw sl) := H.out.kept hk1; have hopn1 := H1.out.opn; have c2' : w1.cell? ⟨p, 7, none⟩ = some (.map (some mo)) := cell_of H1.out.store 7)
    | (at_delete; refine wpL_delete _ rfl _ _ 99 3 rfl 129 kInt Tryz.underlying99 mo s.nopen _ rfl hopn1 (.int .i64 tx) _ rfl hkey.out hg.out ?_; intro w2 hown2 hturn2)
    | go_in)
  rw [hf] at hown2
  exact HR.out w2 ((hk1.own_of (fun _ h => h.elim)).trans (Kp.of_turned (S := fun b => (own b).c = c) hturn2 (by rw [H.out.ownO])) (fun _ _ h => h)) (H1.out.reopen (fun b hb => mapTurned_block hturn2 b hb) _ _ hown2 sub_upd)

set_option maxRecDepth 20000 in
set_option maxHeartbeats 400000 in
theorem x_commit_full (h : XR own c w p s mo ph mv mm pt mw sl) (tx : Int) (hwx : (Lit.int .i64 tx).wf = true) (t : XT) (e : s.txs tx = some t) (hnw : 0 < t.nw) (hkeys : ∀ k, (t.wr k).isSome = true → k.size ≤ 8) (hmom : ∀ k, (s.mom k).length < 1000000) (hov : ¬ overt s t) (hnow : 2000 ≤ s.now)
    (hR : ∀ w', Kp (fun _ => False) w w' → R (.returned (.tuple #[.int .i64 0, .int .i64 3])) w') :
    Calls Tryz.prog 36 #[.pointer (some ⟨p, 0, none⟩), .int .i64 tx] w R := by
  have hkey : Hid _ := keyOf_int_mk Tryz.underlying3 hwx
  have c2 : w.cell? ⟨p, 7, none⟩ = some (.map (some mo)) := cell_of h.store 7
  have d1 : w.cell? ⟨pt tx, 1, none⟩ = some (.map (some (mw tx))) := cell_of (h.tx tx t e) 1
  have hw := h.wr tx t e
  have hf : (encI fun n => (s.txs n).map fun _ => Value.pointer (some ⟨pt n, 0, none⟩)) (.int .i64 tx) = some (.pointer (some ⟨pt tx, 0, none⟩)) := by rw [encI_at, e]; rfl
  have H : Hid (XR own c w p s mo ph mv mm pt mw sl) := h
  have hopn := h.opn
  have HR : Hid _ := hR
  have hn : (t.nw : Int) ≠ 0 := by omega
  have hn' : ((t.nw : Int) == 0) = false := by simpa using hn
  clear h hR hnw hn
  go_enter Tryz.func36, Tryz.ntmps36
  go_wp2_with (first
    | (at_lookup; refine wpL_lookup_ok _ rfl _ _ 99 rfl 3 129 kInt Tryz.underlying99 (zTxP _) mo s.nopen _ rfl hopn (.int .i64 tx) _ rfl hkey.out _ hf ?_)
    | (at_len; refine wpL_len _ rfl _ 130 rfl 9 138 Tryz.underlying130 (mw tx) t.nw _ rfl hw ?_)
    | (go_at_call 71; refine x_overtaken H.out tx t e hkeys hmom (fun _ w1 hk1 => ?_) (fun ho => absurd ho hov); have c0' : w1.cell? ⟨p, 2, none⟩ = some (.int .i64 s.now) := cell_of (H.out.kept hk1).store 2)
    | go_in)
  exact HR.out w1 hk1

end

end Go.Proofs.YthbdpfccfcceiaaGreatDoor
