/-
  The keys that a transaction has written, in order: slices.Sorted of maps.Keys.
-/
import Derived.Test.YthbdpfccfcceiaaDoorJ3
import Derived.Test.YthbdpfccfcceiaaDoorQ1
import Derived.Test.YthbdpfccfcceiaaDoorN1
import Derived.Test.YthbdpfccfcceiaaDoorIter
import Derived.Sort.KeysCollected
namespace Go.Proofs.YthbdpfccfcceiaaDoor
open Go.RowKit Go.Maps Go.Sort Go.Shelf

theorem sortsW (m : Nat) : AnyZ.SortsIn Tryd.prog Tryd.sortedW_ren Fence.wide m :=
  ⟨fun blk off cap ss W hH hblk hsz => callsIn_wide.2 (AnyM.slices_Sort_string Tryd.sortW blk off cap ss W hH hblk hsz),
   fun p cap W => callsIn_wide.2 (AnyM.slices_Sort_string_none Tryd.sortW p cap W)⟩

theorem keysW_any (b : Nat) (w : World) : Calls Tryd.prog 53 #[.map (some b)] w fun e w' => e = .returned (.func (.func 64) #[] #[.pointer (some ⟨w.heap.size, 0, none⟩)]) ∧ w' = w.alloc (.cells #[.map (some b)] 66) :=
  (callsIn_wide (n := 5)).1 (AnyZ.keys_in Tryd.keysW Fence.wide 5 trivial rfl (some b) w)

set_option maxHeartbeats 1000000 in
theorem sortedW_own {D0 : DataW Value} (b nn : Nat) (w : World) (hown : w.ownsMap Tryd.prog 9 anyE b nn D0) (hmax : Maps.size D0 ≤ 1000) :
    Calls Tryd.prog 52 #[.func (.func 64) #[] #[.pointer (some ⟨w.heap.size, 0, none⟩)]] (w.alloc (.cells #[.map (some b)] 66)) fun e w' => ∃ (v : Value) (ss : List (List UInt8)), e = .returned v ∧ ss.Perm (strKeys D0) ∧
      w'.ownsRow (w.alloc (.cells #[.map (some b)] 66)).heap.size 9 1 v ss.length ((ss.mergeSort (fun x y => decide (x ≤ y))).map encStr) ∧ Below (w.alloc (.cells #[.map (some b)] 66)).heap.size (w.alloc (.cells #[.map (some b)] 66)) w' := by
  have hbl := hown.lt
  have hseq : SeqGives Fence.wide 2 Tryd.prog 64 #[.pointer (some ⟨w.heap.size, 0, none⟩)] encStr (fun ss => ss.Perm (strKeys D0)) (Maps.size D0) (w.alloc (.cells #[.map (some b)] 66)) :=
    AnyZ.keys_gives (ρ := Tryd.keysW_ren) { Tryd.keysW with } Fence.wide _ trivial rfl (by omega) w.heap.size b nn D0 _ (by simp) (by simp) (by
      obtain ⟨es, clock, hb, Ft, hs, hD⟩ := hown
      exact ⟨es, clock, (Below.heap_alloc _ _ b hbl).trans hb, Ft, hs, hD⟩)
  have := AnyZ.sorted_in Tryd.sortedW Fence.wide 5 trivial trivial trivial trivial rfl (by omega) (sortsW _) (enters_of Tryd.func46 (by kernel_rfl) rfl) 64 #[.pointer (some ⟨w.heap.size, 0, none⟩)] trivial (enters_of Tryd.func64 (by kernel_rfl) rfl) _ _ (by unfold maxLen; omega) (by omega) _ hseq
  refine ((callsIn_wide (n := 5)).1 this).mono ?_
  rintro e w' ⟨v, ss, h1, h2, h3, _, h5⟩
  exact ⟨v, ss, h1, h2, h3, h5⟩

theorem le_total8 (a b : List UInt8) : (decide (a ≤ b) || decide (b ≤ a)) = true := by simp only [Bool.or_eq_true, decide_eq_true_eq]; exact List.le_total a b
theorem le_trans8 (a b c : List UInt8) (h1 : decide (a ≤ b) = true) (h2 : decide (b ≤ c) = true) : decide (a ≤ c) = true := by simp only [decide_eq_true_eq] at *; exact List.le_trans h1 h2

theorem encStr_ofL (l : List UInt8) : encStr l = .string (ofL l) := by simp [encStr, ofL]

theorem sortedW_any (b n : Nat) (f : Value → Option Value) (w : World) (h : fmap w Tryd.prog 9 b n f) (hn : n ≤ 1000) :
    Calls Tryd.prog 52 #[.func (.func 64) #[] #[.pointer (some ⟨w.heap.size, 0, none⟩)]] (w.alloc (.cells #[.map (some b)] 66)) fun e w' => ∃ (v : Value) (ks : List ByteArray), e = .returned v ∧ ks.Pairwise blt ∧ (∀ k, k ∈ ks ↔ (f (.string k)).isSome = true) ∧ ks.length = n ∧
      w'.ownsRow w.heap.size 9 1 v ks.length (ks.map Value.string) ∧ Kp (fun _ => False) w w' := by
  obtain ⟨D, hO, hs, hf⟩ := h
  refine (sortedW_own b n w hO (by omega)).mono ?_
  rintro e w' ⟨v, ss, he, hperm, hrow, hbel⟩
  obtain ⟨es, eD, hp⟩ := hO.tidy kStr
  have hfrom := ownsMap_from hO eD
  have hk : ∀ q ∈ es, ∃ x, q.1 = .string x := fun q hq => by
    obtain ⟨x, hx⟩ := hfrom q hq
    obtain ⟨l, _, hl, _⟩ := Maps.keyOf_str Tryd.underlying9 hx
    exact ⟨l, hl⟩
  have hnd : (strKeys D).Nodup := by
    rw [eD]
    show (es.map fun p => strOf p.1).Nodup
    refine List.pairwise_map.2 (hp.imp_of_mem fun {a b} ha hb hne e => hne ?_)
    obtain ⟨x, hx⟩ := hk a ha
    obtain ⟨y, hy⟩ := hk b hb
    rw [hx, hy] at e ⊢
    exact congrArg _ e
  have hmem : ∀ k : ByteArray, k.data.toList ∈ strKeys D ↔ (f (.string k)).isSome = true := fun k => by
    rw [eD]
    show k.data.toList ∈ (es.map fun p => strOf p.1) ↔ _
    rw [List.mem_map]
    constructor
    · rintro ⟨q, hq, e⟩
      obtain ⟨x, hx⟩ := hfrom q hq
      obtain ⟨l, e1, e2, _⟩ := Maps.keyOf_str Tryd.underlying9 hx
      rw [e2] at e
      have e' : l = k.data.toList := e
      have hxk : x = .string k := by rw [e1, encStr_ofL, e', ofL_data]
      rw [← hxk, ← hf.has x q.1 hx, eD, has_eq, List.any_eq_true]
      exact ⟨q, hq, WideAt.sameKey_self (kStr.key hx)⟩
    · intro h
      obtain ⟨l, hl⟩ := hf.key _ h
      have hh := hf.has _ l hl
      rw [h, eD, has_eq] at hh
      obtain ⟨q, hq, hsk⟩ := List.any_eq_true.1 hh
      obtain ⟨x, e1, e2, _⟩ := Maps.keyOf_str Tryd.underlying9 hl
      refine ⟨q, hq, ?_⟩
      rw [WideAt.sameKey_eq hsk, e2]
      have : Value.string k = .string (ofL x) := by rw [← encStr_ofL]; exact e1
      show x = _
      rw [Value.string.inj this, data_ofL]
  have hsort := List.mergeSort_perm ss (fun x y => decide (x ≤ y))
  have hpw := List.pairwise_mergeSort (le := fun x y => decide (x ≤ y)) le_trans8 le_total8 ss
  have hnd2 : (ss.mergeSort (fun x y => decide (x ≤ y))).Nodup := (hsort.trans hperm).nodup_iff.2 hnd
  have hlen : (ss.mergeSort (fun x y => decide (x ≤ y))).length = ss.length := hsort.length_eq
  have hlenD : ss.length = n := by
    rw [hperm.length_eq, ← hs, eD]; simp [strKeys, Maps.size]
  refine ⟨v, (ss.mergeSort (fun x y => decide (x ≤ y))).map ofL, he, ?_, fun k => ?_, by simpa using hlenD, ?_, ?_⟩
  · rw [List.pairwise_map]
    refine (hpw.and hnd2).imp ?_
    intro a b hab
    show (ofL a).data.toList < (ofL b).data.toList
    rw [data_ofL, data_ofL]
    have h1 : a ≤ b := by simpa using hab.1
    rcases List.le_iff_lt_or_eq.1 h1 with h2 | h2
    · exact h2
    · exact absurd h2 hab.2
  · rw [← hmem k, ← (hsort.trans hperm).mem_iff, List.mem_map]
    constructor
    · rintro ⟨l, hl, rfl⟩; rw [data_ofL]; exact hl
    · intro hl; exact ⟨_, hl, ofL_data k⟩
  · have h3 : w'.ownsRow w.heap.size 9 1 v ss.length ((ss.mergeSort (fun x y => decide (x ≤ y))).map encStr) := ⟨hrow.1, hrow.2.imp id (fun ⟨g, cap, cur, e1, e2, e3⟩ => ⟨g, cap, cur, e1, Nat.le_trans (by simp) e2, e3⟩)⟩
    rw [List.length_map, hlen, List.map_map]
    have : (Value.string ∘ ofL) = encStr := by funext l; exact (encStr_ofL l).symm
    rw [this]
    exact h3
  · exact (Kp.alloc (fun _ => False) w _).trans (Kp.of_below hbel _) (fun _ _ h => h)

end Go.Proofs.YthbdpfccfcceiaaDoor
