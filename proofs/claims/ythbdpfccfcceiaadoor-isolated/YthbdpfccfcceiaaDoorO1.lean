/-
  Whether a transaction has been overtaken: (*Store).overtaken.
-/
import Derived.Test.YthbdpfccfcceiaaDoorS3
namespace Go.Proofs.YthbdpfccfcceiaaDoor
open Go.RowKit Go.Maps

def changed (l : List Int) (t : Int) : Bool := match l.getLast? with | some m => decide (t < m) | none => false

theorem ownsRow_cells {w : World} {v : Value} {l : List Int} (h : w.ownsRow 0 3 1 v l.length (l.map (Value.int .i64))) (hl : l ≠ []) :
    ∃ g cap, v = .slice (some ⟨g, 0, none⟩) l.length cap ∧ ∀ j, j < l.length → w.cell? ⟨g, j, none⟩ = some (.int .i64 (l.getD j 0)) := by
  rcases h.2 with ⟨_, h0⟩ | ⟨g, cap, cur, e, _, hg, hn, _, hcs, htk⟩
  · exact absurd (List.eq_nil_of_length_eq_zero h0) hl
  · refine ⟨g, cap, e, fun j hj => ?_⟩
    rw [cell_of hg]
    have : (l.map (Value.int .i64))[j]? = cur.toList[j]? := by
      rw [← htk, List.getElem?_take]; simp [hj]
    rw [List.getElem?_map, List.getElem?_eq_getElem hj] at this
    rw [← Array.getElem?_toList, ← this]
    simp [List.getD, List.getElem?_eq_getElem hj]

section
variable {own own' : Nat → Lab} {c : Nat} {w w' : World} {p : Nat} {s : XS} {mo ph mv mm : Nat} {pt mw : Int → Nat} {sl : ByteArray → Value}

theorem x_changed (h : XR own c w p s mo ph mv mm pt mw sl) (key : ByteArray) (hlen : key.size ≤ 8) (hl : (s.mom key).length < 1000000) (t : Int) :
    Calls Tryd.prog 49 #[.pointer (some ⟨ph, 0, none⟩), .string key, .int .i64 t] w fun e w' => e = .returned (.bool (changed (s.mom key) t)) ∧ w' = w := by
  have c1 : w.cell? ⟨ph, 1, none⟩ = some (.map (some mm)) := cell_of h.hist 1
  by_cases hm : s.mom key = []
  · refine changed_nil ph mm s.nm _ key t w c1 h.moms hlen none 0 (by rw [encS_at, if_pos hm]; rfl) ⟨by rw [hm]; rfl, rfl⟩
  · obtain ⟨g, cap, hv, hc⟩ := ownsRow_cells (h.row key hm) hm
    obtain ⟨len, hlen'⟩ : ∃ len, (s.mom key).length = len + 1 := ⟨(s.mom key).length - 1, by have := List.length_pos_iff.2 hm; omega⟩
    refine changed_some ph mm s.nm _ key t w c1 h.moms hlen g len cap (by rw [encS_at, if_neg hm, hv, hlen']; rfl) (by omega) _ (hc len (by omega)) ⟨?_, rfl⟩
    unfold changed
    rw [List.getLast?_eq_getElem?, hlen']
    simp only [Nat.add_sub_cancel]
    rw [List.getElem?_eq_getElem (by omega)]
    simp [List.getD, List.getElem?_eq_getElem (show len < (s.mom key).length by omega)]

theorem encS_inv {g : ByteArray → Option (ByteArray × Bool)} {key v : Value} (h : encS (fun k => (g k).map encVer) key = some v) : ∃ (k : ByteArray) (x : Value), key = .string k ∧ v = (fun v : Value => v) x := by
  cases key <;> simp [encS] at h
  exact ⟨_, v, rfl, rfl⟩

def overt (s : XS) (t : XT) : Prop := ∃ k, (t.wr k).isSome = true ∧ changed (s.mom k) t.sees = true

variable {R : Ending → World → Prop}

set_option maxRecDepth 20000 in
set_option maxHeartbeats 1000000 in
theorem x_overtaken (h : XR own c w p s mo ph mv mm pt mw sl) (tx : Int) (t : XT) (e : s.txs tx = some t) (hkeys : ∀ k, (t.wr k).isSome = true → k.size ≤ 8) (hmom : ∀ k, (s.mom k).length < 1000000)
    (h0 : ¬ overt s t → ∀ w', Kp (fun _ => False) w w' → R (.returned (.bool false)) w')
    (h1 : overt s t → ∀ w', Kp (fun _ => False) w w' → R (.returned (.bool true)) w') :
    Calls Tryd.prog 32 #[.pointer (some ⟨p, 0, none⟩), .pointer (some ⟨pt tx, 0, none⟩)] w R := by
  have c1 : w.cell? ⟨pt tx, 1, none⟩ = some (.map (some (mw tx))) := cell_of (h.tx tx t e) 1
  have hw := h.wr tx t e
  have H0 : Hid _ := h0
  have H1 : Hid _ := h1
  clear h0 h1
  go_enter Tryd.func32, Tryd.ntmps32
  go_wp2_with (first
    | (at_range; refine wpL_range _ rfl _ 66 rfl 9 88 kStr Tryd.underlying66 (mw tx) t.nw _ rfl hw ?_; intro w0 hrg0 hg0 hs0)
    | go_in)
  go_frame
  go_loopw [5] (fun _ wr => ∃ (left : Value → Bool) (cnt : Nat), frng wr Tryd.prog 9 (mw tx) w.heap.size t.nw (encS fun k => (t.wr k).map encVer) left cnt ∧ Kp (fun _ => False) w wr ∧ ∀ k, (t.wr k).isSome = true → left (.string k) = false → changed (s.mom k) t.sees = false)
    (fun _ wr => wr.rangeLeft (mw tx) w.heap.size)
  case atStart => exact ⟨_, _, hrg0, Kp.of_grown hg0 (fun _ h => by cases h), fun k hk hl => by rw [encS_at] at hl; rw [Option.isSome_map, hk] at hl; cases hl⟩
  case round =>
    obtain ⟨left, cnt, hrg, hkp, hdone⟩ := hrel
    have HD : Hid _ := hdone
    clear hdone
    go_wp2_with (first
      | (at_next; refine wpL_next _ rfl _ rfl 9 kStr Value.string (fun v : Value => v) (mw tx) w.heap.size t.nw _ left cnt (fun key v hv => ?inv) rfl hrg ?_ ?_)
      | go_in)
    case inv => exact encS_inv hv
    · intro _ hl0
      go_wp2
      refine H0.out (fun ⟨k, hk1, hk2⟩ => ?_) _ hkp
      rw [HD.out k hk1 (hl0 _)] at hk2; cases hk2
    · intro k v w1 cnt1 hlk hfk left' hrg1 hl1 hl2 hlt hg1 hs1 hen
      have hks : (t.wr k).isSome = true := by
        rw [encS_at] at hfk
        cases hq : t.wr k with
        | none => rw [hq] at hfk; cases hfk
        | some _ => rfl
      have hkp1 : Kp (fun _ => False) w w1 := hkp.trans (Kp.of_grown (S := fun b => b = w.heap.size) hg1 (fun b hb => by cases hb; rfl)) (fun b hb e => by omega)
      have hx := h.kept hkp1
      have d0 : w1.cell? ⟨p, 0, none⟩ = some (.pointer (some ⟨ph, 0, none⟩)) := cell_of hx.store 0
      have d1 : w1.cell? ⟨pt tx, 0, none⟩ = some (.int .i64 t.sees) := cell_of (hx.tx tx t e) 0
      clear hfk hlk
      have hcall : Hid (∀ W : World, W = w1.drew → Calls Tryd.prog 49 #[.pointer (some ⟨ph, 0, none⟩), .string k, .int .i64 t.sees] W fun e w' => e = .returned (.bool (changed (s.mom k) t.sees)) ∧ w' = W) := fun W hW => by
        subst hW; exact x_changed (hx.kept (Kp.drew _ _)) k (hkeys k hks) (hmom k) t.sees
      have hrg2 : frng w1.drew Tryd.prog 9 (mw tx) w.heap.size t.nw (encS fun k => (t.wr k).map encVer) left' cnt1 := hrg1.of_block rfl rfl
      have hkp2 : Kp (fun _ => False) w w1.drew := hkp1.trans (Kp.drew _ _) (fun _ _ h => h)
      cases hch : changed (s.mom k) t.sees
      · rw [hch] at hcall
        go_wp2_with fail
        go_region_with (go_at_call 49; refine (hcall.out _ rfl).mono ?_; rintro e w' ⟨rfl, rfl⟩)
        all_goals
          clear d0 d1 hen
          go_wp2_with fail
          go_roundw
          case rel =>
            refine ⟨left', cnt1, hrg2, hkp2, fun k' hk' hl' => ?_⟩
            by_cases ek : k' = k
            · subst ek; exact hch
            · exact HD.out k' hk' (by rw [← hl2 _ (fun e => ek (by injection e))]; exact hl')
          case measure => rw [hrg2.left_eq, hrg.left_eq]; exact hlt
      · rw [hch] at hcall
        go_wp2_with fail
        go_region_with (go_at_call 49; refine (hcall.out _ rfl).mono ?_; rintro e w' ⟨rfl, rfl⟩)
        all_goals
          clear d0 d1 hen
          go_wp2_with fail
          exact H1.out ⟨k, hks, hch⟩ _ hkp2

end

end Go.Proofs.YthbdpfccfcceiaaDoor
