/-
  How many entries a map has: as many as keys that it tells.
-/
import Derived.Test.YthbdpfccfcceiaaDoorS1
namespace Go.Proofs.YthbdpfccfcceiaaDoor
open Go.RowKit Go.Maps

section
variable {P : Program} {k : TypeId} {w : World} {b n : Nat} {f : Value → Option Value}

theorem ownsMap_from {D : DataW Value} {R : Value → Option (DataW Value × List MemPlace)} (h : w.ownsMap P k R b n D) {es : List (Lit × DataW Value)} (e : D = .map es) : ∀ p ∈ es, ∃ x, keyOf P k x = some p.1 := by
  obtain ⟨es0, clock, _, F, _, hD⟩ := h
  intro p hp
  rw [hD] at e
  injection e with e
  subst e
  obtain ⟨x, hx, rfl⟩ := List.mem_map.1 (mem_sorted.1 hp)
  obtain ⟨y, hy⟩ := F.reads x hx
  exact ⟨x.key, by rw [WideElems.rg_of hy]; exact WideElems.rd_key hy⟩

theorem fmap.card (h : fmap w P k b n f) (K : Keyed P k) (L : List Value) (hn : L.Nodup) (hL : ∀ x, x ∈ L ↔ (f x).isSome = true) : n = L.length := by
  obtain ⟨D, hO, hs, hf⟩ := h
  obtain ⟨es, eD, hp⟩ := hO.tidy K
  have hfrom := ownsMap_from hO eD
  rw [← hs, eD]
  show es.length = L.length
  have key : ∀ x ∈ L, ∃ l, keyOf P k x = some l := fun x hx => hf.key x ((hL x).1 hx)
  have h1 : (L.map fun x => keyOf P k x).Nodup := by
    unfold List.Nodup
    rw [List.pairwise_map]
    refine List.Pairwise.imp_of_mem (fun {a b} ha hb hne e => ?_) hn
    obtain ⟨l, hl⟩ := key a ha
    exact hne (K.inj hl (e ▸ hl))
  have h2 : (es.map fun p => some p.1).Nodup := by
    unfold List.Nodup
    rw [List.pairwise_map]
    exact hp.imp (fun hne e => hne (by injection e))
  have hperm : (L.map fun x => keyOf P k x).Perm (es.map fun p => some p.1) := by
    rw [List.perm_ext_iff_of_nodup h1 h2]
    intro a
    rw [List.mem_map, List.mem_map]
    constructor
    · rintro ⟨x, hx, rfl⟩
      obtain ⟨l, hl⟩ := key x hx
      have hh := hf.has x l hl
      rw [(hL x).1 hx, eD, has_eq] at hh
      obtain ⟨p, hp, hsk⟩ := List.any_eq_true.1 hh
      exact ⟨p, hp, by rw [hl, WideAt.sameKey_eq hsk]⟩
    · rintro ⟨p, hp, rfl⟩
      obtain ⟨x, hx⟩ := hfrom p hp
      refine ⟨x, ?_, hx⟩
      rw [hL, ← hf.has x p.1 hx, eD, has_eq, List.any_eq_true]
      exact ⟨p, hp, WideAt.sameKey_self (K.key hx)⟩
  have := hperm.length_eq
  simpa using this.symm

end

theorem encP_some {g : ByteArray → Int → Option (ByteArray × Bool)} {x : Value} : (encP (fun k m => (g k m).map encVer) x).isSome = true ↔ ∃ k m, x = .agg #[.string k, .int .i64 m] ∧ (g k m).isSome = true := by
  constructor
  · intro h
    unfold encP at h
    split at h
    · rename_i cs
      split at h
      · rename_i s n hcs
        refine ⟨s, n, ?_, by simpa using h⟩
        have : cs = #[.string s, .int .i64 n] := by apply Array.toList_inj.1; simpa using hcs
        rw [this]
      · cases h
    · cases h
  · rintro ⟨k, m, rfl, h⟩
    rw [encP_at]
    simpa using h

section
variable {own : Nat → Lab} {c : Nat} {w : World} {p : Nat} {s : XS} {mo ph mv mm : Nat} {pt mw : Int → Nat} {sl : ByteArray → Value}

/-- How many versions a store has. -/
theorem XR.nv_eq (h : XR own c w p s mo ph mv mm pt mw sl) (hK : Keyed Tryd.prog 117) (hup : ∀ k, (s.mom k).Pairwise (· < ·)) (hver : ∀ k m, (s.ver k m).isSome = true ↔ m ∈ s.mom k) (ks : List ByteArray) (hn : ks.Nodup) (hks : ∀ k, s.mom k ≠ [] → k ∈ ks) :
    s.nv = (ks.map fun k => (s.mom k).length).sum := by
  have := h.vers.card hK (ks.flatMap fun k => (s.mom k).map fun m => Value.agg #[.string k, .int .i64 m]) ?_ ?_
  · rw [this, List.length_flatMap]
    simp
  · unfold List.Nodup
    rw [List.pairwise_flatMap]
    refine ⟨fun k _ => ?_, ?_⟩
    · rw [List.pairwise_map]
      exact (hup k).imp (fun hlt e => by injection e with e; injection e with e; injection e with _ e; injection e with e _; injection e with _ e; omega)
    · refine hn.imp (fun {a b} hne x hx y hy e => ?_)
      obtain ⟨m, _, rfl⟩ := List.mem_map.1 hx
      obtain ⟨m', _, rfl⟩ := List.mem_map.1 hy
      injection e with e; injection e with e; injection e with e _; injection e with e
      exact hne e
  · intro x
    rw [encP_some, List.mem_flatMap]
    constructor
    · rintro ⟨k, _, hx⟩
      obtain ⟨m, hm, rfl⟩ := List.mem_map.1 hx
      exact ⟨k, m, rfl, (hver k m).2 hm⟩
    · rintro ⟨k, m, rfl, hx⟩
      have hm := (hver k m).1 hx
      exact ⟨k, hks k (fun e => by rw [e] at hm; cases hm), List.mem_map.2 ⟨m, hm, rfl⟩⟩

end

end Go.Proofs.YthbdpfccfcceiaaDoor
