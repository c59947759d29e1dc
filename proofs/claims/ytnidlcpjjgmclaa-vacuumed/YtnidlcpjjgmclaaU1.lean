/-
  What a store tells at each moment from one to another: the law's told; that two such lists are the same.
-/
import Derived.Test.YtnidlcpjjgmclaaI1
import Derived.Test.YtnidlcpjjgmclaaV3
import Derived.Test.YtnidlcpjjgmclaaV8
import Derived.Test.YtnidlcpjjgmclaaN1
import Derived.Test.YtnidlcpjjgmclaaI3
namespace Go.Proofs.Ytnidlcpjjgmclaa
open Go.RowKit Go.Maps

theorem infoPairs : (Try.prog.info? 33).map (fun i => (i.zero, i.size, i.bytes)) = some (some (.slice none 0 0), 1, 24) := by kernel_rfl

/-- Lists of pairs in memory. -/
def ToldAt (lo hi : Nat) (w : World) (v : Value) (n : Nat) (L : Nat → List (ByteArray × ByteArray)) : Prop :=
  ∃ a cap, v = .slice a n cap ∧ hi ≤ w.heap.size ∧ (0 < n → ∃ g, a = some ⟨g, 0, none⟩ ∧ lo ≤ g ∧ g < hi ∧ ∀ j, j < n → ∃ v', w.cell? ⟨g, j, none⟩ = some v' ∧ PairsAt lo hi w v' (L j))

theorem ToldAt.kp {S : Nat → Prop} {lo hi n : Nat} {w w' : World} {v : Value} {L : Nat → List (ByteArray × ByteArray)} (h : ToldAt lo hi w v n L) (k : Kp S w w') (hs : ∀ b, lo ≤ b → b < hi → ¬ S b) : ToldAt lo hi w' v n L := by
  obtain ⟨a, cap, rfl, hh, h⟩ := h
  refine ⟨a, cap, rfl, Nat.le_trans hh k.size, fun hl => ?_⟩
  obtain ⟨g, rfl, h1, h2, h3⟩ := h hl
  refine ⟨g, rfl, h1, h2, fun j hj => ?_⟩
  obtain ⟨v', h4, h5⟩ := h3 j hj
  exact ⟨v', (k.cell (a := ⟨g, j, none⟩) (by show g < _; omega) (hs g h1 h2)).trans h4, h5.kp k hs⟩

theorem PairsAt.wide {lo hi hi' : Nat} {w : World} {v : Value} {l : List (ByteArray × ByteArray)} (h : PairsAt lo hi w v l) {lo' : Nat} (h1 : lo' ≤ lo) (h2 : hi ≤ hi') (h3 : hi' ≤ w.heap.size) : PairsAt lo' hi' w v l := by
  obtain ⟨a, cap, rfl, hh, h⟩ := h
  refine ⟨a, cap, rfl, h3, fun hl => ?_⟩
  obtain ⟨g, rfl, b1, b2, b3⟩ := h hl
  exact ⟨g, rfl, by omega, by omega, b3⟩

section
variable {R : Ending → World → Prop}

set_option maxRecDepth 20000 in
set_option maxHeartbeats 1000000 in
theorem told_walk (w : World) (p : Nat) (t0 t1 : Int) (hb : 0 ≤ t0 ∧ t0 ≤ t1 ∧ t1 < 100000) (f : Int → List (ByteArray × ByteArray))
    (H : ∀ t wr, Kp (fun _ => False) w wr → t0 ≤ t → t ≤ t1 → Calls Try.prog 12 #[.pointer (some ⟨p, 0, none⟩), .int .i64 t, .string ⟨#[]⟩, .string ⟨#[126]⟩] wr fun r w' => ∃ a cap, r = .returned (.tuple #[.slice a (f t).length cap, .int .i64 0]) ∧ Kp (fun _ => False) wr w' ∧ PairsAt wr.heap.size w'.heap.size w' (.slice a (f t).length cap) (f t))
    (hR : ∀ w' v, Kp (fun _ => False) w w' → ToldAt w.heap.size w'.heap.size w' v (t1 - t0 + 1).toNat (fun j => f (t0 + j)) → R (.returned (.tuple #[v, .bool true])) w') :
    Calls Try.prog 21 #[.pointer (some ⟨p, 0, none⟩), .int .i64 t0, .int .i64 t1] w R := by
  have HH := hid_of H
  have HR := hid_of hR
  obtain ⟨b0, b1, b2⟩ := hb
  obtain ⟨i0, hi, hz0, hz1, hz2⟩ := info_parts infoPairs
  clear H hR
  go_enter Try.func21, Try.ntmps21
  go_wp2
  go_loopw [8, 9, 10, 11] (fun v8 v9 _ _ wr => ∃ (i : Nat) (vs : List Value), t0 + i ≤ t1 + 1 ∧ v9 = .int .i64 (t0 + i) ∧ Kp (fun _ => False) w wr ∧ wr.ownsRow w.heap.size 33 1 v8 i vs ∧ ∀ j, j < i → ∃ v', vs[j]? = some v' ∧ PairsAt w.heap.size wr.heap.size wr v' (f (t0 + j)) ∧ (f (t0 + j) ≠ [] → v'.ownBlock ≠ v8.ownBlock))
    (fun _ v9 _ _ _ => (t1 + 1 - intOf v9).toNat)
  case atStart => exact ⟨0, [], by omega, by simp, Kp.refl _ _, World.ownsRow_nil _ _ _ _, fun j hj => by omega⟩
  case round =>
    obtain ⟨i, vs, hi1, rfl, hkp, hrow, hps⟩ := hrel
    have HPS := hid_of hps
    have HKP := hid_of hkp
    clear hps
    by_cases hlt : t0 + i ≤ t1
    · have HC := hid_of (HH.out (t0 + i) wr hkp (by omega) hlt)
      have HB := hid_of (show i < 100000 by omega)
      clear hkp
      go_wp2_with (first
        | (go_at_call 12; refine Calls.mono HC.out ?_; rintro r w2 ⟨a, cap, rfl, hk2, hp2⟩; have hrow2 := ownsRow_kp hrow hk2 (fun _ _ h => h); have HK2 := hid_of hk2; have HP2 := hid_of hp2; clear hk2 hp2)
        | (at_builtin; refine wpList_append_own_at _ rfl _ _ 48 rfl w.heap.size 33 i0 (.slice none 0 0) 1 24 Try.underlying48 hi hz0 hz1 hz2 rfl (by decide) _ _ _ rfl (hrow2.alloc _) ⟨w2.heap.size, 0, none⟩ 1 1 [.slice a (f (t0 + i)).length cap] rfl rfl (cell_one_new _ _ _) (by simp [Value.oneCell']) (by have := HB.out; unfold maxLen; omega) (by have := HB.out; omega) (by have := HKP.out.size; have := HK2.out.size; simp; omega) ?_; intro v' w3 hown' hgrow hnil hloc)
        | go_in)
      have hb8 : ∀ b, Value.ownBlock u8 = some b → w.heap.size ≤ b := fun b hb => (hrow2.lt b hb).1
      have K23 : Kp (fun b => Value.ownBlock u8 = some b) w2 w3 := (Kp.alloc (fun b => Value.ownBlock u8 = some b) w2 _).trans (Kp.of_grown (S := fun b => Value.ownBlock u8 = some b) hgrow (fun _ h => h)) (fun _ _ h => h)
      go_roundw
      case rel =>
        have hk13 : Kp (fun _ => False) w w3 := (HKP.out.trans HK2.out (fun _ _ h => h)).trans K23 (fun b hb h => by have := hb8 b h; omega)
        refine ⟨i + 1, vs ++ [.slice a (f (t0 + i)).length cap], by omega, by go_num, hk13, hown', fun j hj => ?_⟩
        have hlen : vs.length = i := by have := hrow.1; omega
        have hz1 := HKP.out.size
        have hz2 := HK2.out.size
        have hz3 := K23.size
        have apart : ∀ (x : Value) (l : List (ByteArray × ByteArray)), PairsAt w.heap.size w2.heap.size w2 x l → (l ≠ [] → x.ownBlock ≠ Value.ownBlock u8) → PairsAt w.heap.size w3.heap.size w3 x l ∧ (l ≠ [] → x.ownBlock ≠ v'.ownBlock) := fun x l hp hne => by
          obtain ⟨a', cap', rfl, hh, hp⟩ := hp
          refine ⟨⟨a', cap', rfl, Nat.le_refl _, fun hl => ?_⟩, fun hl => ?_⟩
          · obtain ⟨g, rfl, q1, q2, q3⟩ := hp hl
            have hgn : ¬ Value.ownBlock u8 = some g := fun e => hne hl (by rw [e]; rfl)
            exact ⟨g, rfl, q1, by omega, fun m hm => ⟨(K23.cell (a := ⟨g, m * 2, none⟩) q2 hgn).trans (q3 m hm).1, (K23.cell (a := ⟨g, m * 2 + 1, none⟩) q2 hgn).trans (q3 m hm).2⟩⟩
          · obtain ⟨g, rfl, q1, q2, q3⟩ := hp hl
            rcases hloc with e | e
            · rw [e]; exact hne hl
            · rw [e]
              simp [Value.ownBlock]
              omega
        by_cases e : j = i
        · rw [e]
          refine ⟨.slice a (f (t0 + i)).length cap, by rw [List.getElem?_append_right (by omega), hlen, Nat.sub_self]; rfl, ?_⟩
          refine apart _ _ (HP2.out.wide (lo' := w.heap.size) (hi' := w2.heap.size) hz1 (Nat.le_refl _) (Nat.le_refl _)) (fun hl => ?_)
          obtain ⟨a', cap', e', _, hp⟩ := HP2.out
          cases e'
          obtain ⟨g, rfl, q1, q2, q3⟩ := hp hl
          intro e
          have := (hrow.lt g (by rw [← e]; rfl)).2
          omega
        · obtain ⟨v'', h4, h5, h6⟩ := HPS.out j (by omega)
          refine ⟨v'', by rw [List.getElem?_append_left (by omega)]; exact h4, ?_⟩
          exact apart _ _ ((h5.kp HK2.out (fun _ _ _ h => h)).wide (Nat.le_refl _) hz2 (Nat.le_refl _)) h6
      case measure => simp [intOf]; omega
    · have hie : t0 + i = t1 + 1 := by omega
      have hF := HR.out wr u8 hkp ?_
      · have HF := hid_of hF
        clear hkp hF
        go_wp2
        exact HF.out
      · have hn : (t1 - t0 + 1).toNat = i := by omega
        rw [hn]
        have hlen : vs.length = i := by have := hrow.1; omega
        rcases hrow.2 with ⟨e, h0⟩ | ⟨g, cap, cur, e, hb, hg, hnc, _, hcs, ht⟩
        · exact ⟨none, 0, by rw [e, h0], Nat.le_refl _, fun h => by omega⟩
        · refine ⟨_, cap, e, Nat.le_refl _, fun _ => ⟨g, rfl, hb, block_lt hg, fun j hj => ?_⟩⟩
          obtain ⟨v', h4, h5, _⟩ := HPS.out j hj
          refine ⟨v', ?_, h5⟩
          rw [cell_of hg, ← Array.getElem?_toList, ← h4, ← ht, List.getElem?_take, if_pos (by omega)]

end

end Go.Proofs.Ytnidlcpjjgmclaa
