/-
  What a commit has written, read: readWrites.
  May these be a commit's writes? mayBeWrites.
-/
import Derived.Test.YthbdpfccfcceiaaGreatDoorF8F9
import Derived.Test.YthbdpfccfcceiaaGreatDoorJ4J5
namespace Go.Proofs.YthbdpfccfcceiaaGreatDoor
open Go.RowKit Go.Maps Go.Lib

/-- So many writes, one behind the other. -/
def RS.writes (s : RS) : Nat → List (ByteArray × ByteArray × Bool) × RS
  | 0 => ([], s)
  | n + 1 => ((s.writes n).1 ++ [((s.writes n).2.key.1, (s.writes n).2.key.2.ver.1)], (s.writes n).2.key.2.ver.2)

theorem RS.writes_length (s : RS) : ∀ n, (s.writes n).1.length = n
  | 0 => rfl
  | n + 1 => by simp [RS.writes, s.writes_length n]
theorem RS.key_len (s : RS) : s.key.2.bs.length ≤ s.bs.length := by
  have h := s.text_len
  unfold RS.key
  dsimp only
  split
  · exact h
  · exact h
theorem RS.ver_len (s : RS) : s.ver.2.bs.length ≤ s.bs.length := by
  have h := s.one_len
  have h2 := s.one.2.text_len
  unfold RS.ver
  split
  · dsimp only
    split
    · omega
    · show s.one.2.text.2.bs.length ≤ _; omega
  · split
    · exact h
    · exact h
theorem RS.writes_len (s : RS) : ∀ n, (s.writes n).2.bs.length ≤ s.bs.length
  | 0 => Nat.le_refl _
  | n + 1 => Nat.le_trans (Nat.le_trans (RS.ver_len _) (RS.key_len _)) (s.writes_len n)

section
variable {R : Ending → World → Prop}

theorem wpW_append {ops : Array Oper} {rest : List Oper} {o : Oper} {a : Act} {Q : Exit → Act → World → Prop} (w : World) (hgd : o.guard = none) (s x : Operand)
    (ho : o.op = .call { callee := .builtin .append, args := #[s, x], argTypes := #[108, 108] })
    (base : Nat) (v : Value) (n : Nat) (xs : List Value) (hs : a.eval s = v) (hown : w.ownsRow base 153 3 v n xs) (g : Nat) (u1 u2 u3 : Value) (hx : a.eval x = .slice (some ⟨g, 0, none⟩) 1 1) (hu : w.heap[g]? = some (.cells #[u1, u2, u3] 153 (0, 0))) (h1 : ∀ u ∈ [u1, u2, u3], u.oneCell' = true) (hl : n ≤ 1000) (hb : base ≤ w.heap.size)
    (h : ∀ v' w', w'.ownsRow base 153 3 v' (n + 1) (xs ++ [u1, u2, u3]) → Kp (fun b => v.ownBlock = some b) w w' → (v'.ownBlock = v.ownBlock ∨ v'.ownBlock = some w.heap.size) → wpList Tryz.prog ops Q rest (a.put o.dst v') w') :
    wpList Tryz.prog ops Q (o :: rest) a w := by
  obtain ⟨i0, hi, hz0, hz1, hz2⟩ := info_parts infoW
  refine wpList_append_own_at _ hgd s x 108 ho base 153 i0 (.agg #[.string ⟨#[]⟩, .string ⟨#[]⟩, .bool false]) 3 40 Tryz.underlying108 hi hz0 hz1 hz2 rfl (by decide) v n xs hs hown ⟨g, 0, none⟩ 1 1 [u1, u2, u3] hx rfl (fun j y hj => ?_) h1 (by unfold maxLen; omega) (by omega) hb (fun v' w' r1 r2 _ r4 => h v' w' r1 (Kp.of_grown r2 (fun _ e => e)) r4)
  rw [addr_add, Nat.zero_add, cell_of hu]
  simpa using hj

/-- How the memory lies while writes are read. -/
structure MidX (w : World) (r g : Nat) (s : RS) (k : Nat) (wr : World) (v3 v : Value) : Prop where
  kp : Kp (fun b => b = r) w wr
  rdr : RdrAt wr r (s.writes k).2 v g
  row : wr.ownsRow w.heap.size 153 3 v3 k ((s.writes k).1.flatMap encW)

set_option maxRecDepth 20000 in
set_option maxHeartbeats 2000000 in
theorem readWrites_any (r : Nat) (s : RS) (v : Value) (g : Nat) (w : World) (h : RdrAt w r s v g) (hl : s.bs.length ≤ 1000000)
    (hR : ∀ w' v' u, RdrAt w' r (s.one.2.writes s.one.1).2 v' g → Kp (fun b => b = r) w w' → w'.ownsRow w.heap.size 153 3 u s.one.1 ((s.one.2.writes s.one.1).1.flatMap encW) → R (.returned u) w') :
    Calls Tryz.prog 207 #[.pointer (some ⟨r, 0, none⟩)] w R := by
  have hrl := block_lt h.blk
  have hgl := h.lt
  have H := hid_of h
  have HL := hid_of hl
  have HR := hid_of hR
  have HO := hid_of s.one_len
  have hone : (s.one.1 : Int) < 256 := by have := s.one_lt; omega
  have HW := hid_of s.one.2.writes_len
  clear h hl hR
  go_enter Tryz.func207, Tryz.ntmps207
  go_wp2_with (first
    | (go_at_call 206; refine one_any r s v g w H.out HL.out ?_; intro w1 v1 hr1 hk1; have H1 := hid_of hr1; have HK1 := hid_of hk1; clear hr1 hk1)
    | fail)
  generalize hn : s.one.1 = n at HR hone ⊢
  clear hn
  go_loopw [3, 7] (fun v3 v7 wr => ∃ (k : Nat) (v : Value), k ≤ n ∧ v7 = .int .i64 k ∧ MidX w r g s.one.2 k wr v3 v) (fun _ v7 _ => n - (intOf v7).toNat)
  case atStart => exact ⟨0, v1, Nat.zero_le _, rfl, HK1.out, H1.out, World.ownsRow_nil _ _ _ _⟩
  case round =>
    obtain ⟨k, v, hk, rfl, hM⟩ := hrel
    have HM := hid_of hM
    obtain ⟨pu, capu, rfl⟩ := ownsRow_slice hM.row
    clear hM
    by_cases hlt : k < n
    · have hlt' : (k : Int) < n := by omega
      have HKN : Hid (k ≤ 1000) := by show _ ≤ _; omega
      clear hk
      go_wp2_with (first
        | (go_at_call 243; refine rkey_any r (s.one.2.writes k).2 v g _ HM.out.rdr (by have := HW.out k; have := HO.out; have := HL.out; omega) ?_; intro w2 v2 hr2 hk2; have H2 := hid_of hr2; have HK2 := hid_of hk2; clear hr2 hk2)
        | (go_at_call 244; refine ver_any r (s.one.2.writes k).2.key.2 v2 g _ H2.out (by have := RS.key_len (s.one.2.writes k).2; have := HW.out k; have := HO.out; have := HL.out; omega) ?_; intro w3 v4 hr3 hk3; have H3 := hid_of hr3; have HK3 : Hid (Kp (fun b => b = r) wr w3) := HK2.out.trans hk3 (fun _ _ h => h); clear hr3 hk3)
        | (at_builtin; refine wpW_append _ rfl _ _ rfl w.heap.size (.slice pu k capu) k _ rfl (ownsRow_kp HM.out.row (HK3.out.trans (Kp.alloc _ _ _) (fun _ _ h => h)) (fun b e (h : b = r) => by have := (HM.out.row.lt b e).1; omega)) w3.heap.size _ _ _ rfl (heap_alloc_new w3 _) (by simp [Value.oneCell']) HKN.out (by have := HM.out.kp.size; have := HK3.out.size; simp; omega) ?_; intro v5 w5 hown5 hk5 hloc5; have HOW := hid_of hown5; have HK5 : Hid (Kp (fun b => b = r ∨ (Value.slice pu k capu).ownBlock = some b) wr w5) := ((HK3.out.mono (fun _ _ h => Or.inl h)).trans (Kp.alloc _ _ _) (fun _ _ h => h)).trans hk5 (fun _ _ h => Or.inr h); have H5 := hid_of (show RdrAt w5 r ((s.one.2.writes k).2.key.2.ver).2 v4 g from (H3.out.kp ((Kp.alloc (fun b => (Value.slice pu k capu).ownBlock = some b) _ _).trans hk5 (fun _ _ h => h)) (fun e => by have := (HM.out.row.lt _ e).1; omega) (fun e => by have := (HM.out.row.lt _ e).1; omega))); obtain ⟨pu5, capu5, rfl⟩ := ownsRow_slice hown5; clear hown5 hk5 hloc5)
        | fail)
      go_roundw
      case rel =>
        refine ⟨k + 1, v4, by omega, by go_num, ?_, ?_, ?_⟩
        · exact HM.out.kp.trans HK5.out (fun b hb e => e.elim id (fun e => by have := (HM.out.row.lt _ e).1; omega))
        · exact H5.out
        · show w5.ownsRow w.heap.size 153 3 _ (k + 1) (((s.one.2.writes k).1 ++ [((s.one.2.writes k).2.key.1, (s.one.2.writes k).2.key.2.ver.1)]).flatMap encW)
          rw [List.flatMap_append]
          exact HOW.out
      case measure => simp [intOf]; omega
    · have hie : k = n := by omega
      subst hie
      have HF := hid_of (HR.out _ v _ HM.out.rdr HM.out.kp HM.out.row)
      clear hk hlt
      go_wp2_with fail
      exact HF.out

end

end Go.Proofs.YthbdpfccfcceiaaGreatDoor

namespace Go.Proofs.YthbdpfccfcceiaaGreatDoor
open Go.RowKit Go.Maps Go.Lib

section
variable {R : Ending → World → Prop}

theorem less_blt (a b : ByteArray) : Op.bytesLess a.toList b.toList = true ↔ blt a b := by
  rw [bytesLess_eq, decide_eq_true_eq, Lib.toList_data, Lib.toList_data]
  rfl

theorem pairwise_steps {α : Type} {P : α → α → Prop} (ht : ∀ a b c, P a b → P b c → P a c) : ∀ l : List α, (∀ (i : Nat) a b, l[i]? = some a → l[i + 1]? = some b → P a b) → l.Pairwise P
  | [], _ => List.Pairwise.nil
  | [a], _ => by simp
  | a :: b :: r, h => by
    have ih := pairwise_steps ht (b :: r) (fun i x y hx hy => h (i + 1) x y (by simpa using hx) (by simpa using hy))
    refine List.pairwise_cons.2 ⟨fun c hc => ?_, ih⟩
    have hab := h 0 a b rfl rfl
    rcases List.mem_cons.1 hc with rfl | hc
    · exact hab
    · exact ht _ _ _ hab ((List.pairwise_cons.1 ih).1 c hc)

theorem pairwise_step {α : Type} {P : α → α → Prop} {l : List α} (h : l.Pairwise P) (i : Nat) (a b : α) (ha : l[i]? = some a) (hb : l[i + 1]? = some b) : P a b := by
  obtain ⟨h1, rfl⟩ := List.getElem?_eq_some_iff.1 ha
  obtain ⟨h2, rfl⟩ := List.getElem?_eq_some_iff.1 hb
  exact List.pairwise_iff_getElem.1 h i (i + 1) h1 h2 (by omega)

set_option maxRecDepth 20000 in
set_option maxHeartbeats 2000000 in
theorem mayBe_any (u : Value) (ws : List (ByteArray × ByteArray × Bool)) (w : World) (base : Nat) (h : WR base w u ws) (hl : ws.length ≤ 1000)
    (hR : ∀ (b : Bool) w', (b = true ↔ (ws.map Prod.fst).Pairwise blt ∧ 1 ≤ ws.length ∧ ws.length ≤ 10) → Kp (fun _ => False) w w' → R (.returned (.bool b)) w') :
    Calls Tryz.prog 208 #[u] w R := by
  by_cases h0 : ws.length = 0
  · have e : ws = [] := List.eq_nil_of_length_eq_zero h0
    subst e
    obtain ⟨pu, cap, rfl⟩ := ownsRow_slice h
    have HF := hid_of (hR false w (by simp) (Kp.refl _ _))
    clear h hR hl h0
    go_enter Tryz.func208, Tryz.ntmps208
    go_wp2_with fail
    go_loop [3] (fun v3 => v3 = .int .i64 1) (fun _ => 0)
    case atStart => rfl
    case round =>
      obtain rfl := hrel
      go_wp2_with fail
      exact HF.out
  · obtain ⟨g, cap, cur, rfl, hg, hcur⟩ := ownsRow_some h (by omega)
    have HW := hid_of h
    have HR := hid_of hR
    have hl' : (ws.length : Int) ≤ 1000 := by omega
    have HN := hid_of h0
    clear h hR hg hcur h0
    go_enter Tryz.func208, Tryz.ntmps208
    go_wp2_with fail
    go_loopw [3] (fun v3 wr => ∃ k : Nat, 1 ≤ k ∧ k ≤ ws.length ∧ v3 = .int .i64 k ∧ Kp (fun _ => False) w wr ∧ ∀ i a b, i + 1 < k → ws[i]? = some a → ws[i + 1]? = some b → blt a.1 b.1) (fun v3 _ => ws.length - (intOf v3).toNat)
    case atStart => exact ⟨1, Nat.le_refl _, by have := HN.out; omega, rfl, Kp.refl _ _, fun i a b hi => by omega⟩
    case round =>
      obtain ⟨k, hk1, hk, rfl, hkp, hin⟩ := hrel
      have HIN := hid_of hin
      have HKP := hid_of hkp
      clear hin hkp
      by_cases hlt : k < ws.length
      · have hlt' : (k : Int) < ws.length := by omega
        obtain ⟨j, rfl⟩ : ∃ j, k = j + 1 := ⟨k - 1, by omega⟩
        obtain ⟨a, ha⟩ : ∃ a, ws[j]? = some a := ⟨ws[j], List.getElem?_eq_getElem (by omega)⟩
        obtain ⟨b, hb⟩ : ∃ b, ws[j + 1]? = some b := ⟨ws[j + 1], List.getElem?_eq_getElem hlt⟩
        have hcs := World.ownsRow.cells (ownsRow_kp HW.out HKP.out (fun _ _ e => e)) (g := g) rfl
        have ca : wr.cell? ⟨g, j * 3, none⟩ = some (.string a.1) := by
          have := hcs _ _ (encW_at ws j a ha).1
          rw [addr_add, Nat.zero_add] at this
          exact this
        have cb : wr.cell? ⟨g, (j + 1) * 3, none⟩ = some (.string b.1) := by
          have := hcs _ _ (encW_at ws (j + 1) b hb).1
          rw [addr_add, Nat.zero_add] at this
          exact this
        have HA := hid_of ha
        have HB := hid_of hb
        clear hcs ha hb
        have hj : j < ws.length := by omega
        have hj' : (j : Int) < ws.length := by omega
        have hk0' : (0 : Int) ≤ (j : Int) + 1 := by omega
        have hk2' : (j : Int) + 1 < ws.length := by omega
        have e1 : IntKind.i64.wrap (((j + 1 : Nat) : Int) - 1) = (j : Int) := by rw [show ((j + 1 : Nat) : Int) - 1 = (j : Int) by omega]; exact IntWalk.i64_in _ (by omega)
        have e2 : IntKind.i64.wrap ((j : Int) + 1 - 1) = (j : Int) := by rw [show (j : Int) + 1 - 1 = (j : Int) by omega]; exact IntWalk.i64_in _ (by omega)
        have e3 : IntKind.i64.wrap (j : Int) = (j : Int) := IntWalk.i64_in _ (by omega)
        by_cases hbl : blt a.1 b.1
        · have hbl' : Op.bytesLess a.1.toList b.1.toList = true := (less_blt a.1 b.1).2 hbl
          have HBL := hid_of hbl
          clear hbl
          go_wp2_with fail
          go_region_held3 (fun w' => w'.cell? ⟨g, j * 3, none⟩ = some (.string a.1) ∧ w'.cell? ⟨g, (j + 1) * 3, none⟩ = some (.string b.1)) (go_keep) (fail)
          all_goals go_wp2_with fail
          all_goals go_roundw
          case rel =>
            refine ⟨j + 1 + 1, by omega, by omega, by go_num, HKP.out.trans (Kp.drew _ _) (fun _ _ h => h), fun i x y hi hx hy => ?_⟩
            by_cases hij : i = j
            · subst hij
              obtain rfl := Option.some.inj (HA.out.symm.trans hx)
              obtain rfl := Option.some.inj (HB.out.symm.trans hy)
              exact HBL.out
            · exact HIN.out i x y (by omega) hx hy
          case measure => simp [intOf]; omega
        · have hbl' : Op.bytesLess a.1.toList b.1.toList = false := by rw [Bool.eq_false_iff]; exact fun e => hbl ((less_blt a.1 b.1).1 e)
          have HF := hid_of (HR.out false wr.drew ⟨fun e => (by cases e), fun e => absurd (pairwise_step e.1 j a.1 b.1 (by rw [List.getElem?_map, HA.out]; rfl) (by rw [List.getElem?_map, HB.out]; rfl)) hbl⟩ (HKP.out.trans (Kp.drew _ _) (fun _ _ h => h)))
          clear hbl
          go_wp2_with fail
          go_region_held3 (fun w' => w'.cell? ⟨g, j * 3, none⟩ = some (.string a.1) ∧ w'.cell? ⟨g, (j + 1) * 3, none⟩ = some (.string b.1)) (go_keep) (fail)
          all_goals go_wp2_with fail
          exact HF.out
      · have hie : k = ws.length := by omega
        subst hie
        have hpw : (ws.map Prod.fst).Pairwise blt := pairwise_steps (α := ByteArray) (P := blt) (fun a b c h1 h2 => blt_trans h1 h2) (ws.map Prod.fst) (fun i a b ha hb => by
          rw [List.getElem?_map] at ha hb
          obtain ⟨x, hx, rfl⟩ := Option.map_eq_some_iff.1 ha
          obtain ⟨y, hy, rfl⟩ := Option.map_eq_some_iff.1 hb
          exact HIN.out i x y (List.getElem?_eq_some_iff.1 hy).1 hx hy)
        by_cases h10 : ws.length ≤ 10
        · have HF := hid_of (HR.out true wr (by simp [hpw, h10]; omega) HKP.out)
          have h10' : (ws.length : Int) ≤ 10 := by omega
          have h1' : (1 : Int) ≤ ws.length := by omega
          clear hpw hk
          go_wp2_with fail
          exact HF.out
        · have HF := hid_of (HR.out false wr (by simp [h10]) HKP.out)
          have h10' : ¬ (ws.length : Int) ≤ 10 := by omega
          have h1' : (1 : Int) ≤ ws.length := by omega
          clear hpw hk
          go_wp2_with fail
          exact HF.out

end

end Go.Proofs.YthbdpfccfcceiaaGreatDoor
