/-
  Range of a store, told of its plain state.
  The calls of one store once more, what it is behind them told by what changed alone.
-/
import Derived.Test.YthbdpfccfcceiaaGreatDoorQ4Q5
import Derived.Test.YthbdpfccfcceiaaGreatDoorF27V1E3
import Derived.Test.YthbdpfccfcceiaaGreatDoorE5E6
namespace Go.Proofs.YthbdpfccfcceiaaGreatDoor
open Go.RowKit Go.Maps Go.Sort

section
variable {own own' : Nat → Lab} {c : Nat} {w w' : World} {p : Nat} {s : XS} {mo ph mv mm : Nat} {pt mw : Int → Nat} {sl : ByteArray → Value}
variable {R : Ending → World → Prop}

set_option maxRecDepth 20000 in
set_option maxHeartbeats 1000000 in
theorem x_between (h : XR own c w p s mo ph mv mm pt mw sl) (m : Int) (f t : ByteArray) (hnm : s.nm < 100000) (hm : ∀ k, MomOk s k) (hkey : ∀ k, s.mom k ≠ [] → k.size ≤ 8)
    (h1 : m < s.hor → R (.returned (.tuple #[.slice none 0 0, .int .i64 6])) w)
    (h2 : ¬ m < s.hor → s.now < m → R (.returned (.tuple #[.slice none 0 0, .int .i64 7])) w)
    (h3 : ¬ m < s.hor → ¬ s.now < m → ∀ w' v (ks : List ByteArray), Kp (fun _ => False) w w' → ks.Pairwise blt → (∀ k, k ∈ ks ↔ s.mom k ≠ [] ∧ inR f t k = true) → ks.length ≤ s.nm →
      w'.ownsRow w.heap.size 105 2 v (ks.filterMap (pairOf (fun k => valAt s k m))).length (cells2 (ks.filterMap (pairOf (fun k => valAt s k m)))) → R (.returned (.tuple #[v, .int .i64 0])) w') :
    Calls Tryz.prog 55 #[.pointer (some ⟨p, 0, none⟩), .int .i64 m, .string f, .string t] w R := by
  have H := hid_of h
  have c3 : w.cell? ⟨p, 0, none⟩ = some (.pointer (some ⟨ph, 0, none⟩)) := cell_of h.store 0
  by_cases q1 : m < s.hor
  · have HR := hid_of (h1 q1)
    have Q1 := hid_of q1
    clear h h1 h2 h3 q1 hnm hm hkey
    go_enter Tryz.func55, Tryz.ntmps55
    go_wp2_with (first
      | (go_at_call 44; refine x_covers H.out m (fun _ => ?_) (fun q _ => by have := Q1.out; omega) (fun q _ => by have := Q1.out; omega))
      | go_in)
    exact HR.out
  · by_cases q2 : s.now < m
    · have HR := hid_of (h2 q1 q2)
      have Q1 := hid_of q1
      have Q2 := hid_of q2
      clear h h1 h2 h3 q1 q2 hnm hm hkey
      go_enter Tryz.func55, Tryz.ntmps55
      go_wp2_with (first
        | (go_at_call 44; refine x_covers H.out m (fun q => by have := Q1.out; omega) (fun _ _ => ?_) (fun _ q => by have := Q2.out; omega))
        | go_in)
      exact HR.out
    · have HR := hid_of (h3 q1 q2)
      have Q1 := hid_of q1
      have Q2 := hid_of q2
      have HN := hid_of hnm
      have HM := hid_of hm
      have HW := hid_of hkey
      obtain ⟨i0, hi, hz0, hz1, hz2⟩ := info_parts infoPair
      clear h h1 h2 h3 q1 q2 hnm hm hkey
      go_enter Tryz.func55, Tryz.ntmps55
      go_wp2_with (first
        | (go_at_call 44; refine x_covers H.out m (fun q => by have := Q1.out; omega) (fun _ q => by have := Q2.out; omega) (fun _ _ => ?_))
        | (go_at_call 90; refine x_keys H.out f t HN.out (fun w1 v1 ks hk1 hrow hmem hlen hsort => ?_); have H1 : Hid (XR own c w1 p s mo ph mv mm pt mw sl) := H.out.kept hk1; obtain ⟨a1, cap1, rfl, hcell⟩ := row_cell hrow; have HC := hid_of hcell; have HROW := hid_of hrow; have HSO := hid_of hsort; have HME := hid_of hmem; have HLE := hid_of hlen; clear hcell hrow hsort hmem hlen)
        | go_in)
      clear c3
      have HS1 : Hid (w.heap.size ≤ w1.heap.size) := hk1.size
      go_loopw [11, 30] (fun v12 v34 wr => ∃ i : Nat, i ≤ ks.length ∧ v34 = .int .i64 i ∧ Kp (fun _ => False) w1 wr ∧ wr.ownsRow w1.heap.size 105 2 v12 ((ks.take i).filterMap (pairOf (fun k => valAt s k m))).length (cells2 ((ks.take i).filterMap (pairOf (fun k => valAt s k m)))))
        (fun _ v34 _ => ks.length - (intOf v34).toNat)
      case atStart => exact ⟨0, Nat.zero_le _, rfl, Kp.refl _ _, World.ownsRow_nil _ _ _ _⟩
      case round =>
        obtain ⟨i, hile, rfl, hkp, hown⟩ := hrel
        by_cases hlt : i < ks.length
        · obtain ⟨g, rfl, hg1, hg2, hcell⟩ := HC.out (fun h => by rw [h] at hlt; simp at hlt)
          have hck : wr.cell? ⟨g, i, none⟩ = some (.string ks[i]) := (hkp.cell (a := ⟨g, i, none⟩) hg2 (fun h => h)).trans (hcell i hlt)
          have hki : ks[i] ∈ ks := List.getElem_mem _
          have hkk := (HME.out ks[i]).1 hki
          have htk : ks.take (i + 1) = ks.take i ++ [ks[i]] := List.take_succ_eq_append_getElem hlt
          have HT := hid_of htk
          have hlt' : (i : Int) < ks.length := by omega
          have hi1 : (i : Int) ≤ 1000000 := by have := HLE.out; have := HN.out; omega
          have hlenps : Hid (((ks.take i).filterMap (pairOf (fun k => valAt s k m))).length ≤ 1000000) := by
            show _ ≤ _
            have h1 := List.length_filterMap_le (pairOf (fun k => valAt s k m)) (ks.take i)
            have h2 : (ks.take i).length ≤ i := by simp [List.length_take]; omega
            have := HLE.out; have := HN.out; omega
          have hxr : Hid (XR own c wr p s mo ph mv mm pt mw sl) := H1.out.kept hkp
          have c4 : wr.cell? ⟨p, 0, none⟩ = some (.pointer (some ⟨ph, 0, none⟩)) := cell_of hxr.out.store 0
          have HWK := hid_of (HW.out _ hkk.1)
          have HKP := hid_of hkp
          generalize hkeq : ks[i] = k at *
          clear hkk hki htk hkp hcell
          cases hs : (valAt s k m).2
          · go_wp2_with (first
              | (go_at_call 91; refine x_value hxr.out k m HWK.out (HM.out k).len (HM.out k).up (HM.out k).ver (fun w2 hk2 => ?_); have HK2 : Hid (Kp (fun _ => False) wr w2) := hk2; clear hk2)
              | go_in)
            go_roundw
            case rel =>
              refine ⟨i + 1, by omega, by go_num, HKP.out.trans HK2.out (fun _ _ h => h), ?_⟩
              have hp0 : (ks.take (i + 1)).filterMap (pairOf (fun k => valAt s k m)) = (ks.take i).filterMap (pairOf (fun k => valAt s k m)) := by rw [HT.out, List.filterMap_append]; simp [pairOf, hs]
              rw [hp0]
              exact ownsRow_kp hown HK2.out (fun _ _ h => h)
            case measure => simp [intOf]; omega
          · go_wp2_with (first
              | (go_at_call 91; refine x_value hxr.out k m HWK.out (HM.out k).len (HM.out k).up (HM.out k).ver (fun w2 hk2 => ?_); have HK2 : Hid (Kp (fun _ => False) wr w2) := hk2; have hown2 := ownsRow_kp hown hk2 (fun _ _ h => h); clear hk2)
              | (at_builtin; refine wpList_append_own_at _ rfl _ _ 43 rfl w1.heap.size 105 i0 (.agg #[.string ⟨#[]⟩, .string ⟨#[]⟩]) 2 32 Tryz.underlying43 hi hz0 hz1 hz2 rfl (by decide) _ _ _ rfl (hown2.alloc _) ⟨w2.heap.size, 0, none⟩ 1 1 [.string k, .string (valAt s k m).1] rfl rfl (two_new _ _ _ _) (by simp [Value.oneCell']) (by have := hlenps.out; unfold maxLen; omega) (by have := hlenps.out; omega) (by have := HKP.out.size; have := HK2.out.size; simp; omega) ?_; intro v' w3 hown' hgrow hnil hloc)
              | go_in)
            have hb1 : ∀ b, Value.ownBlock u11 = some b → w1.heap.size ≤ b := fun b hb => (hown2.lt b hb).1
            go_roundw
            case rel =>
              refine ⟨i + 1, by omega, by go_num, ((HKP.out.trans HK2.out (fun _ _ h => h)).trans ((Kp.alloc (fun b => Value.ownBlock u11 = some b) w2 _).trans (Kp.of_grown (S := fun b => Value.ownBlock u11 = some b) hgrow (fun _ h => h)) (fun _ _ h => h)) (fun b hb h => by have := hb1 b h; omega)), ?_⟩
              have hp0 : (ks.take (i + 1)).filterMap (pairOf (fun k => valAt s k m)) = (ks.take i).filterMap (pairOf (fun k => valAt s k m)) ++ [(k, (valAt s k m).1)] := by rw [HT.out, List.filterMap_append]; simp [pairOf, hs]
              rw [hp0, List.length_append, ← cells2_snoc]
              exact hown'
            case measure => simp [intOf]; omega
        · have hie : i = ks.length := by omega
          subst hie
          rw [List.take_length] at hown
          go_wp2_with fail
          refine HR.out wr u11 ks (hk1.trans hkp (fun _ _ h => h)) HSO.out HME.out HLE.out ⟨hown.1, hown.2.imp id (fun ⟨g, cap, cur, e1, e2, e3⟩ => ⟨g, cap, cur, e1, Nat.le_trans HS1.out e2, e3⟩)⟩

set_option maxRecDepth 20000 in
set_option maxHeartbeats 400000 in
theorem x_range (m : Int) (f t : ByteArray)
    (hR : Calls Tryz.prog 55 #[.pointer (some ⟨p, 0, none⟩), .int .i64 m, .string f, .string t] w fun e w' => ∃ (a : Value) (b : Int), e = .returned (.tuple #[a, .int .i64 b]) ∧ R (.returned (.tuple #[a, .int .i64 b])) w') :
    Calls Tryz.prog 27 #[.pointer (some ⟨p, 0, none⟩), .int .i64 m, .string f, .string t] w R := by
  have HR := hid_of hR
  clear hR
  go_enter Tryz.func27, Tryz.ntmps27
  go_wp2_with (first
    | (go_at_call 55; refine Calls.mono HR.out ?_; rintro e w1 ⟨a, b, rfl, hr⟩; have HR1 := hid_of hr; clear hr)
    | go_in)
  exact HR1.out

end

end Go.Proofs.YthbdpfccfcceiaaGreatDoor

namespace Go.Proofs.YthbdpfccfcceiaaGreatDoor
open Go.RowKit

structure Beg (s s' : XS) : Prop where
  ok : XOk s'
  now : s'.now = s.now
  hor : s'.hor = s.hor
  begun : s'.begun = s.begun + 1
  nopen : s'.nopen = s.nopen + 1
  mom : s'.mom = s.mom
  ver : s'.ver = s.ver
  mine : s'.txs (s.begun + 1) = some ⟨s.now, fun _ => none, 0⟩
  txs : ∀ n, n ≠ s.begun + 1 → s'.txs n = s.txs n

structure Wrt (s s' : XS) (tx : Int) (t' : XT) : Prop where
  ok : XOk s'
  now : s'.now = s.now
  hor : s'.hor = s.hor
  begun : s'.begun = s.begun
  nopen : s'.nopen = s.nopen
  mom : s'.mom = s.mom
  ver : s'.ver = s.ver
  mine : s'.txs tx = some t'
  txs : ∀ n, n ≠ tx → s'.txs n = s.txs n

structure Cls (s s' : XS) (tx : Int) : Prop where
  ok : XOk s'
  now : s'.now = s.now
  hor : s'.hor = s.hor
  begun : s'.begun = s.begun
  nopen : s'.nopen = s.nopen - 1
  mom : s'.mom = s.mom
  ver : s'.ver = s.ver
  mine : s'.txs tx = none
  txs : ∀ n, n ≠ tx → s'.txs n = s.txs n

structure Cmt (s s' : XS) (tx : Int) (wr : ByteArray → Option (ByteArray × Bool)) : Prop where
  ok : XOk s'
  now : s'.now = s.now + 1
  hor : s'.hor = s.hor
  begun : s'.begun = s.begun
  nopen : s'.nopen = s.nopen - 1
  mom : ∀ k, s'.mom k = if (wr k).isSome = true then s.mom k ++ [s.now + 1] else s.mom k
  ver : ∀ k m, s'.ver k m = if m = s.now + 1 ∧ (wr k).isSome = true then wr k else s.ver k m
  mine : s'.txs tx = none
  txs : ∀ n, n ≠ tx → s'.txs n = s.txs n

/-- Behind an act. -/
structure Actd (s s' : XS) (wr : ByteArray → Option (ByteArray × Bool)) : Prop where
  ok : XOk s'
  now : s'.now = s.now + 1
  hor : s'.hor = s.hor
  begun : s'.begun = s.begun + 1
  nopen : s'.nopen = s.nopen
  mom : ∀ k, s'.mom k = if (wr k).isSome = true then s.mom k ++ [s.now + 1] else s.mom k
  ver : ∀ k m, s'.ver k m = if m = s.now + 1 ∧ (wr k).isSome = true then wr k else s.ver k m
  txs : s'.txs = s.txs

section
variable {N : Nat → Prop} {w : World} {p : Nat} {s : XS}
variable {R : Ending → World → Prop}

theorem f_begin (h : St N w p s) (ok : XOk s) (hb : s.begun < 1000000000) (h8 : s.nopen < 8)
    (hR : ∀ w' s', Beg s s' → St N w' p s' → Kp (fun b => ¬ N b) w w' → R (.returned (.tuple #[.int .i64 (s.begun + 1), .int .i64 0])) w') :
    Calls Tryz.prog 34 #[.pointer (some ⟨p, 0, none⟩)] w R :=
  e_begin h ok hb h8 (fun w' S k => hR w' _ ⟨ok.begin _, rfl, rfl, rfl, rfl, rfl, rfl, updI_same _ _ _, fun _ hn => updI_other _ hn _⟩ S k)

theorem f_writes (h : St N w p s) (ok : XOk s) {tx : Int} (hwx : (Lit.int .i64 tx).wf = true) {t : XT} (e : s.txs tx = some t) (hn : t.nw < 10) (key v : ByteArray) (hk : isKey key = true) (hv : v.size ≤ 20)
    (hR : ∀ w' s' n, Wrt s s' tx ⟨t.sees, updS t.wr key (some (vOf v)), n⟩ → St N w' p s' → Kp (fun b => ¬ N b) w w' → R (.returned (.int .i64 0)) w') :
    Calls Tryz.prog 37 #[.pointer (some ⟨p, 0, none⟩), .int .i64 tx, .string key, .string v] w R := by
  obtain ⟨n, hw⟩ := wrote_two t key (vOf v) hn
  exact e_writes h ok hwx e key v hk hv hw (fun w' S k => hR w' _ n ⟨ok.write e hk (vOf_size hv) hw, rfl, rfl, rfl, rfl, rfl, rfl, updI_same _ _ _, fun _ hn => updI_other _ hn _⟩ S k)

theorem f_commit_over (h : St N w p s) (ok : XOk s) {tx : Int} (hwx : (Lit.int .i64 tx).wf = true) {t : XT} (e : s.txs tx = some t) (hov : overt s t)
    (hR : ∀ w' s', Cls s s' tx → St N w' p s' → Kp (fun b => ¬ N b) w w' → R (.returned (.tuple #[.int .i64 0, .int .i64 4])) w') :
    Calls Tryz.prog 36 #[.pointer (some ⟨p, 0, none⟩), .int .i64 tx] w R :=
  e_commit_over h ok hwx e hov (fun w' S k => hR w' _ ⟨ok.close tx _, rfl, rfl, rfl, rfl, rfl, rfl, updI_same _ _ _, fun _ hn => updI_other _ hn _⟩ S k)

theorem f_commit_good (h : St N w p s) (ok : XOk s) {tx : Int} (hwx : (Lit.int .i64 tx).wf = true) {t : XT} (e : s.txs tx = some t) {k0 : ByteArray} (hnw : (t.wr k0).isSome = true) (hov : ¬ overt s t) (hn : s.now < 2000)
    (hR : ∀ w' s', Cmt s s' tx t.wr → St N w' p s' → Kp (fun b => ¬ N b) w w' → R (.returned (.tuple #[.int .i64 (s.now + 1), .int .i64 0])) w') :
    Calls Tryz.prog 36 #[.pointer (some ⟨p, 0, none⟩), .int .i64 tx] w R :=
  e_commit_good h ok hwx e ((ok.tx tx t e).pos k0 hnw) hov hn (fun w' _ _ _ _ S O k => hR w' _ ⟨O, rfl, rfl, rfl, rfl, fun _ => rfl, fun _ _ => rfl, updI_same _ _ _, fun _ hn => updI_other _ hn _⟩ S k)

theorem f_commits (h : St N w p s) (ok : XOk s) (hb : s.begun < 1000000) (h8 : s.nopen < 8) (hn : s.now < 2000) (a1 a2 a3 : Int) (h1 : I64 a1) (h2 : I64 a2) (h3 : I64 a3)
    (hR : ∀ w' s', Actd s s' (actWr a1 a2 a3) → St N w' p s' → Kp (fun b => ¬ N b) w w' → R (.returned (.bool true)) w') :
    Calls Tryz.prog 12 #[.pointer (some ⟨p, 0, none⟩), actV a1 a2 a3] w R :=
  e_commits h ok hb h8 hn a1 a2 a3 h1 h2 h3 (fun w' _ _ _ _ S O k => hR w' _ ⟨O, rfl, rfl, rfl, rfl, fun _ => rfl, fun _ _ => rfl, rfl⟩ S k)

theorem e_abort (h : St N w p s) (ok : XOk s) {tx : Int} (hwx : (Lit.int .i64 tx).wf = true) {t : XT} (e : s.txs tx = some t)
    (hR : ∀ w' s', Cls s s' tx → St N w' p s' → Kp (fun b => ¬ N b) w w' → R (.returned (.int .i64 0)) w') :
    Calls Tryz.prog 108 #[.pointer (some ⟨p, 0, none⟩), .int .i64 tx] w R := by
  obtain ⟨own, ⟨mo, ph, mv, mm, pt, mw, sl, h⟩, hN⟩ := h
  refine x_abort h tx hwx (fun h0 => by rw [e] at h0; cases h0) (fun t1 _ w' k hx => ?_)
  have h1 := St.up ⟨mo, ph, mv, mm, pt, mw, sl, h⟩ hN k (fun _ _ => rfl) ⟨_, _, _, _, _, _, _, hx⟩
  exact hR w' _ ⟨ok.close tx _, rfl, rfl, rfl, rfl, rfl, rfl, updI_same _ _ _, fun _ hn => updI_other _ hn _⟩ h1.1 h1.2

/-- A transaction of the last moment has not been overtaken. -/
theorem not_overt (ok : XOk s) {t : XT} (h : t.sees = s.now) : ¬ overt s t := fun ⟨k, _, hk⟩ => by
  have := ok.fresh k
  rw [← h, hk] at this
  cases this

theorem Cmt.val {s' : XS} {tx : Int} {wr : ByteArray → Option (ByteArray × Bool)} (c : Cmt s s' tx wr) {k : ByteArray} {v : ByteArray × Bool} (hk : wr k = some v) : valAt s' k (s.now + 1) = (v.1, !v.2) := by
  have e1 : s'.mom k = s.mom k ++ [s.now + 1] := by rw [c.mom, hk]; rfl
  have e2 : s'.ver k (s.now + 1) = some v := by rw [c.ver, hk]; simp
  unfold valAt
  rw [e1, List.filter_append, List.filter_cons_of_pos (by simp), List.filter_nil, List.getLast?_concat]
  simp only [e2]

theorem Cmt.late {s' : XS} {tx : Int} {wr : ByteArray → Option (ByteArray × Bool)} (c : Cmt s s' tx wr) {k : ByteArray} (hk : (wr k).isSome = true) : changed (s'.mom k) s.now = true := by
  unfold changed
  rw [c.mom, if_pos hk, List.getLast?_concat]
  simp
  omega

end

end Go.Proofs.YthbdpfccfcceiaaGreatDoor
