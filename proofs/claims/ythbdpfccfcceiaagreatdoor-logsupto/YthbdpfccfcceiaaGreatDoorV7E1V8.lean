/-
  Vacuum, told of the store's plain state.
  What holds of a store's plain state, and that every call keeps it.
  What Vacuum leaves: the first versions of each key are gone, as many as may go and were wanted; what is told from the horizon on stays.
-/
import Derived.Test.YthbdpfccfcceiaaGreatDoorR14V1V3V4V5
import Derived.Test.YthbdpfccfcceiaaGreatDoorV6
import Derived.Test.YthbdpfccfcceiaaGreatDoorQ3Q4Q5
import Derived.Test.YthbdpfccfcceiaaGreatDoorC2L1L2Q1Q2
import Derived.Test.YthbdpfccfcceiaaGreatDoorJ4J5C4
namespace Go.Proofs.YthbdpfccfcceiaaGreatDoor
open Go.RowKit Go.Maps Go.Sort

/-- Key by key, so many as may go and are still wanted. -/
def vacGo (h most : Int) : List ByteArray → XS → Int → XS × Int
  | [], s, gone => (s, gone)
  | k :: r, s, gone => if min (spentX s k h : Int) (most - gone) < 1 then (s, gone) else vacGo h most r (dropX s k (min (spentX s k h : Int) (most - gone)).toNat) (gone + min (spentX s k h : Int) (most - gone))

section
variable {own own' : Nat → Lab} {c : Nat} {w w' : World} {p : Nat} {s : XS} {mo ph mv mm : Nat} {pt mw : Int → Nat} {sl : ByteArray → Value}
variable {R : Ending → World → Prop}

/-- What is asked of a store of which versions go. -/
structure VOk (s : XS) : Prop where
  mom : ∀ k, MomOk s k
  key : ∀ k, s.mom k ≠ [] → k.size ≤ 8
  nm : s.nm < 100000

theorem VOk.drop (h : VOk s) (k : ByteArray) (n : Nat) : VOk (dropX s k n) := by
  refine ⟨fun a => MomOk.drop h.mom a, fun a ha => ?_, ?_⟩
  · by_cases e : a = k
    · subst e
      refine h.key a (fun e => ha ?_)
      simp [dropX, updS, e]
    · refine h.key a (fun e' => ha ?_)
      simp [dropX, updS, e, e']
  · show (if n = (s.mom k).length then s.nm - 1 else s.nm) < 100000
    have := h.nm
    split <;> omega

set_option maxRecDepth 20000 in
set_option maxHeartbeats 1000000 in
theorem x_vacuum0 (h : XR own c w p s mo ph mv mm pt mw sl) (t most : Int) (hmost : -9223372036854775808 ≤ most ∧ most ≤ 9223372036854775807) (hv : VOk s)
    (hR : ∀ w' sl' (ks : List ByteArray), ks.Pairwise blt → (∀ k, k ∈ ks ↔ 0 < spentX s k t) → Kp (fun b => (own b).c = c) w w' → XR own c w' p (vacGo t most ks s 0).1 mo ph mv mm pt mw sl' → R (.returned (.int .i64 (vacGo t most ks s 0).2)) w') :
    Calls Tryz.prog 47 #[.pointer (some ⟨ph, 0, none⟩), .int .i64 t, .int .i64 most] w R := by
  have H := hid_of h
  have HR := hid_of hR
  have HV := hid_of hv
  have HMO := hid_of hmost
  clear h hR hv hmost
  go_enter Tryz.func47, Tryz.ntmps47
  go_wp2_with (first
    | (go_at_call 80; refine x_spentKeys H.out t HV.out.nm HV.out.mom HV.out.key (fun w1 v1 ks hk1 hrow hmem hlen hsort => ?_); obtain ⟨a1, cap1, rfl, hcell⟩ := row_cell hrow; have HC := hid_of hcell; have HSO := hid_of hsort; have HME := hid_of hmem; have HLE := hid_of hlen; have HK1 := hid_of hk1; clear hcell hrow hsort hmem hlen hk1)
    | go_in)
  go_loopw [7, 9, 10, 15] (fun v7 _ _ v15 wr => ∃ (i : Nat) (gone : Int) (s' : XS) (sl' : ByteArray → Value), i ≤ ks.length ∧ v15 = .int .i64 i ∧ v7 = .int .i64 gone ∧ 0 ≤ gone ∧ (gone = 0 ∨ gone ≤ most) ∧ gone ≤ 1000000 * i ∧ VOk s' ∧ Kp (fun b => (own b).c = c ∧ b < w.heap.size) w1 wr ∧
      XR own c wr p s' mo ph mv mm pt mw sl' ∧ (∀ k, s'.mom k ≠ [] → ∃ b, (sl' k).ownBlock = some b ∧ b < w.heap.size) ∧ vacGo t most (ks.drop i) s' gone = vacGo t most ks s 0)
    (fun _ _ _ v15 _ => ks.length - (intOf v15).toNat)
  case atStart =>
    refine ⟨0, 0, s, sl, Nat.zero_le _, rfl, rfl, Int.le_refl _, Or.inl rfl, by simp, HV.out, Kp.refl _ _, H.out.kept HK1.out, fun k hk => ?_, rfl⟩
    obtain ⟨g, cap, hv, _⟩ := ownsRow_cells (H.out.row k hk) hk
    exact ⟨g, by rw [hv]; rfl, ((H.out.row k hk).lt g (by rw [hv]; rfl)).2⟩
  case round =>
    obtain ⟨i, gone, s', sl', hile, rfl, rfl, hg0, hg1, hg2, hv', hkp, hx, hsb, heq⟩ := hrel
    have HX := hid_of hx
    have HV' := hid_of hv'
    have HKP := hid_of hkp
    have HSB := hid_of hsb
    have HEQ := hid_of heq
    have hib : (i : Int) < 200000 := by have := HLE.out; have := HV.out.nm; omega
    clear hx hv' hsb heq
    by_cases hlt : i < ks.length
    · obtain ⟨g, rfl, hg1', hg2', hcell⟩ := HC.out (fun h => by rw [h] at hlt; simp at hlt)
      have hck : wr.cell? ⟨g, i, none⟩ = some (.string ks[i]) := (hkp.cell (a := ⟨g, i, none⟩) hg2' (fun h => by have : g < w.heap.size := h.2; omega)).trans (hcell i hlt)
      have hdk : ks.drop i = ks[i] :: ks.drop (i + 1) := List.drop_eq_getElem_cons hlt
      have hki : ks[i] ∈ ks := List.getElem_mem _
      have hlt' : (i : Int) < ks.length := by omega
      have hspl := (HME.out ks[i]).1 hki
      have hk8 : ks[i].size ≤ 8 := HV.out.key _ (fun e => by rw [spentX_nil e] at hspl; omega)
      generalize hkeq : ks[i] = k at *
      have HDK := hid_of hdk
      have HK8 := hid_of hk8
      have hsm := spentX_le s' k t
      have hml := (HV'.out.mom k).len
      have hsb : (spentX s' k t : Int) < 1000000 := by omega
      have hwr : IntKind.i64.wrap (most - gone) = most - gone := by
        have := HMO.out
        refine IntWalk.i64_in _ ?_
        rcases hg1 with h | h <;> omega
      have hmb : most ≤ 9223372036854775807 := HMO.out.2
      have hml2 : -9223372036854775808 ≤ most - gone := by have := HMO.out; rcases hg1 with h | h <;> omega
      generalize hsp : spentX s' k t = sp at hsm hsb
      have HSP := hid_of hsp
      clear hdk hki hspl hk8 hcell hkp hml hsp
      by_cases hc : min (sp : Int) (most - gone) < 1
      · have d1 : decide (min (sp : Int) (most - gone) < 1) = true := by simpa using hc
        have hfin : vacGo t most ks s 0 = (s', gone) := by rw [← HEQ.out, HDK.out, vacGo, HSP.out, if_pos hc]
        have HF := hid_of (fun w2 (k2 : Kp (fun _ => False) wr w2) => (by rw [hfin]; exact fun h => h : _ → R (.returned (.int .i64 gone)) w2) (HR.out w2 sl' ks HSO.out HME.out (((HK1.out.mono (fun _ _ h => h.elim)).trans HKP.out (fun b hb h => h.1)).trans k2 (fun _ _ h => h.elim)) (by rw [hfin]; exact HX.out.kept k2)))
        clear hfin
        go_wp2_with (first
          | (go_at_call 81; refine x_spent HX.out k t HK8.out (HV'.out.mom k) (fun w2 hk2 => ?_); rw [HSP.out]; have HK2 := hid_of hk2; clear hk2)
          | go_in)
        exact HF.out w2 HK2.out
      · obtain ⟨n, hn⟩ : ∃ n : Nat, min (sp : Int) (most - gone) = n := ⟨(min (sp : Int) (most - gone)).toNat, by omega⟩
        have d1 : decide ((n : Int) < 1) = false := by simp; omega
        have hn1 : 1 ≤ n := by omega
        have hn2 : n ≤ (s'.mom k).length := by omega
        have hn3 : gone + n ≤ most := by omega
        have hn4 : gone + (n : Int) ≤ 1000000 * ((i : Int) + 1) := by omega
        have hwr2 : IntKind.i64.wrap (gone + (n : Int)) = gone + n := IntWalk.i64_in _ (by omega)
        have hnext : vacGo t most (ks.drop (i + 1)) (dropX s' k n) (gone + n) = vacGo t most ks s 0 := by
          rw [← HEQ.out, HDK.out, vacGo, HSP.out, if_neg hc, hn, Int.toNat_natCast]
        have HNX := hid_of hnext
        have HNN := hid_of (And.intro hn1 (And.intro hn2 (And.intro hn3 hn4)))
        clear hc hnext hn1 hn2 hn3 hn4
        go_wp2_with (first
          | (go_at_call 81; refine x_spent HX.out k t HK8.out (HV'.out.mom k) (fun w2 hk2 => ?_); rw [HSP.out]; have HK2 := hid_of hk2; clear hk2)
          | (go_at_call 82; refine x_drop (HX.out.kept HK2.out) k n HNN.out.1 HNN.out.2.1 HK8.out (HV'.out.mom k) (by have := HV'.out.nm; omega) (fun w3 sl3 hk3 hx3 hsb3 => ?_); have HK3 := hid_of hk3; have HX3 := hid_of hx3; have HS3 := hid_of hsb3; clear hk3 hx3 hsb3)
          | go_in)
        go_roundw
        case rel =>
          have hb := HNN.out
          have hsub : ∀ a, (dropX s' k n).mom a ≠ [] → s'.mom a ≠ [] := fun a ha e => ha (by
            by_cases ea : a = k
            · subst ea; simp [dropX, updS, e]
            · simp [dropX, updS, ea, e])
          refine ⟨i + 1, gone + n, dropX s' k n, sl3, by omega, by go_num, rfl, by omega, Or.inr hb.2.2.1, by have := hb.2.2.2; omega, HV'.out.drop k n, ?_, HX3.out, fun a ha => ?_, HNX.out⟩
          · refine (HKP.out.trans HK2.out (fun _ _ h => h.elim)).trans HK3.out (fun b hb' h' => ?_)
            have e0 := HX.out
            rcases h' with e | e | e
            · exact ⟨by rw [e, e0.ownV], by rw [e]; exact H.out.vers.lt⟩
            · exact ⟨by rw [e, e0.ownM], by rw [e]; exact H.out.moms.lt⟩
            · have hm' : s'.mom k ≠ [] := fun e' => by have := hb.2.1; rw [e'] at this; simp at this; omega
              obtain ⟨b', hb1, hb2⟩ := HSB.out k hm'
              rw [hb1] at e
              cases e
              exact ⟨by rw [e0.ownR k hm' b hb1], hb2⟩
          · obtain ⟨b', hb1, hb2⟩ := HSB.out a (hsub a ha)
            exact ⟨b', by rw [HS3.out a ha]; exact hb1, hb2⟩
        case measure => simp [intOf]; omega
    · have hie : i = ks.length := by omega
      subst hie
      have hfin : vacGo t most ks s 0 = (s', gone) := by rw [← HEQ.out, List.drop_length]; rfl
      have hF := HR.out wr sl' ks HSO.out HME.out ((HK1.out.mono (fun _ _ h => h.elim)).trans HKP.out (fun b hb h => h.1)) (by rw [hfin]; exact HX.out)
      rw [hfin] at hF
      have HF := hid_of hF
      clear hF hfin hkp
      go_wp2
      exact HF.out

set_option maxRecDepth 20000 in
set_option maxHeartbeats 400000 in
theorem x_vacuum (h : XR own c w p s mo ph mv mm pt mw sl) (most : Int) (hmost : -9223372036854775808 ≤ most ∧ most ≤ 9223372036854775807) (hv : VOk s)
    (hR : ∀ w' sl' (ks : List ByteArray), ks.Pairwise blt → (∀ k, k ∈ ks ↔ 0 < spentX s k s.hor) → Kp (fun b => (own b).c = c) w w' → XR own c w' p (vacGo s.hor most ks s 0).1 mo ph mv mm pt mw sl' → R (.returned (.int .i64 (vacGo s.hor most ks s 0).2)) w') :
    Calls Tryz.prog 22 #[.pointer (some ⟨p, 0, none⟩), .int .i64 most] w R := by
  have c1 : w.cell? ⟨p, 1, none⟩ = some (.int .i64 s.hor) := cell_of h.store 1
  have c3 : w.cell? ⟨p, 0, none⟩ = some (.pointer (some ⟨ph, 0, none⟩)) := cell_of h.store 0
  have H := hid_of h
  have HR := hid_of hR
  have HV := hid_of hv
  have HMO := hid_of hmost
  have Hgo := hid_of (fun (w1 : World) (k1 : Kp (fun _ => False) w w1) => x_vacuum0 (R := fun e w' => ∃ n : Int, e = .returned (.int .i64 n) ∧ R (.returned (.int .i64 n)) w') (H.out.kept k1) s.hor most HMO.out HV.out (fun w' sl' ks hs hm hk hx => ⟨_, rfl, HR.out w' sl' ks hs hm ((k1.mono (fun _ _ h => h.elim)).trans hk (fun _ _ h => h)) hx⟩))
  clear h hR hv hmost
  go_enter Tryz.func22, Tryz.ntmps22
  go_wp2
  go_region_with (go_at_call 47; refine Calls.mono (Hgo.out _ (kp_dr (by simp))) ?_; rintro e w1 ⟨n, rfl, hn⟩; have HN := hid_of hn; clear hn)
  all_goals
    go_wp2_with fail
    go_ret
    exact HN.out

end

end Go.Proofs.YthbdpfccfcceiaaGreatDoor

namespace Go.Proofs.YthbdpfccfcceiaaGreatDoor
open Go.RowKit

structure TOk (s : XS) (n : Int) (t : XT) : Prop where
  num : 1 ≤ n ∧ n ≤ s.begun
  sees : s.hor ≤ t.sees ∧ t.sees ≤ s.now
  nw : t.nw ≤ 10
  keys : ∀ k, (t.wr k).isSome = true → isKey k = true
  pos : ∀ k, (t.wr k).isSome = true → 0 < t.nw
  vals : ∀ k v, t.wr k = some v → v.1.size ≤ 20

structure XOk (s : XS) : Prop where
  now : 0 ≤ s.now ∧ s.now ≤ 2000
  hor : 0 ≤ s.hor ∧ s.hor ≤ s.now
  begun : 0 ≤ s.begun
  up : ∀ k, (s.mom k).Pairwise (· < ·)
  mom : ∀ k m, m ∈ s.mom k → 1 ≤ m ∧ m ≤ s.now
  ver : ∀ k m, (s.ver k m).isSome = true ↔ m ∈ s.mom k
  key : ∀ k, s.mom k ≠ [] → isKey k = true
  tx : ∀ n t, s.txs n = some t → TOk s n t
  nm : (s.nm : Int) ≤ 10 * s.now
  nv : (s.nv : Int) ≤ 10 * s.now
  lgl : (s.log.lg.length : Int) ≤ s.now + s.hor
  lgb : ∀ b ∈ s.log.lg, b.length ≤ 400
  sy : s.log.sy ≤ bytesOf (filesB s.log.lg)

theorem len_le : ∀ {l : List Int} {a b : Int}, l.Pairwise (· < ·) → (∀ m ∈ l, a < m ∧ m ≤ b) → (l.length : Int) ≤ (b - a).toNat
  | [], _, _, _, _ => by simp only [List.length_nil]; omega
  | x :: r, a, b, h, hm => by
    obtain ⟨h1, h2⟩ := List.pairwise_cons.1 h
    have hx := hm x (by simp)
    have := len_le (a := x) (b := b) h2 (fun m hr => ⟨h1 m hr, (hm m (List.mem_cons_of_mem _ hr)).2⟩)
    rw [List.length_cons]
    omega

theorem wfI {a : Int} (h : -9223372036854775808 ≤ a ∧ a ≤ 9223372036854775807) : (Lit.int .i64 a).wf = true := by
  have e0 : IntKind.i64.min = -9223372036854775808 := rfl
  simp [Lit.wf]
  omega

section
variable {s : XS}

theorem XOk.len (h : XOk s) (k : ByteArray) : (s.mom k).length ≤ 2000 := by
  have h1 := len_le (a := 0) (b := s.now) (h.up k) (fun m hm => by have := h.mom k m hm; omega)
  have := h.now
  omega

theorem XOk.momOk (h : XOk s) (k : ByteArray) : MomOk s k := by
  have h1 := h.len k
  have hn := h.now
  exact ⟨by omega, h.up k, fun m hm => ⟨wfI (by have := h.mom k m hm; omega), (h.ver k m).2 hm⟩⟩

theorem XOk.keysW (h : XOk s) {n : Int} {t : XT} (e : s.txs n = some t) : ∀ k, (t.wr k).isSome = true → k.size ≤ 8 := fun k hk => isKey_le k ((h.tx n t e).keys k hk)
theorem XOk.keysM (h : XOk s) : ∀ k, s.mom k ≠ [] → k.size ≤ 8 := fun k hk => isKey_le k (h.key k hk)

theorem XOk.newTx (h : XOk s) : s.txs (s.begun + 1) = none := by
  cases e : s.txs (s.begun + 1) with
  | none => rfl
  | some t => have := (h.tx _ _ e).num; omega

theorem XOk.begin (h : XOk s) (n : Nat) : XOk { s with begun := s.begun + 1, txs := updI s.txs (s.begun + 1) (some ⟨s.now, fun _ => none, 0⟩), nopen := n } := by
  have hb := h.begun
  have hh := h.hor
  refine ⟨h.now, h.hor, by show 0 ≤ s.begun + 1; omega, h.up, h.mom, h.ver, h.key, fun n t e => ?_, h.nm, h.nv, h.lgl, h.lgb, h.sy⟩
  by_cases en : n = s.begun + 1
  · subst en
    simp only [updI_same, Option.some.injEq] at e
    subst e
    exact ⟨⟨by omega, Int.le_refl _⟩, ⟨hh.2, Int.le_refl _⟩, by simp, fun k hk => (by cases hk), fun k hk => (by cases hk), fun k v hk => (by cases hk)⟩
  · simp only [updI_other _ en] at e
    have := h.tx n t e
    exact ⟨⟨this.num.1, by show n ≤ s.begun + 1; have := this.num; omega⟩, this.sees, this.nw, this.keys, this.pos, this.vals⟩

theorem XOk.write (h : XOk s) {tx : Int} {t t' : XT} (e : s.txs tx = some t) {key : ByteArray} {v : ByteArray × Bool} (hk : isKey key = true) (hv : v.1.size ≤ 20) (hw : wrote t key v = some t') : XOk { s with txs := updI s.txs tx (some t') } := by
  have ht := h.tx tx t e
  refine ⟨h.now, h.hor, h.begun, h.up, h.mom, h.ver, h.key, fun n t1 e1 => ?_, h.nm, h.nv, h.lgl, h.lgb, h.sy⟩
  by_cases en : n = tx
  · subst en
    simp only [updI_same, Option.some.injEq] at e1
    subst e1
    have hkeys : ∀ k, ((updS t.wr key (some v)) k).isSome = true → isKey k = true := fun k hk' => by
      by_cases ek : k = key
      · subst ek; exact hk
      · rw [updS_other _ ek] at hk'; exact ht.keys k hk'
    have hvals : ∀ k u, (updS t.wr key (some v)) k = some u → u.1.size ≤ 20 := fun k u hu => by
      by_cases ek : k = key
      · subst ek; rw [updS_same] at hu; cases hu; exact hv
      · rw [updS_other _ ek] at hu; exact ht.vals k u hu
    unfold wrote at hw
    split at hw
    · rename_i h1
      cases hw
      exact ⟨ht.num, ht.sees, ht.nw, hkeys, fun k _ => ht.pos key h1, hvals⟩
    · split at hw
      · cases hw
        exact ⟨ht.num, ht.sees, by show t.nw + 1 ≤ 10; omega, hkeys, fun k _ => by show 0 < t.nw + 1; omega, hvals⟩
      · cases hw
  · simp only [updI_other _ en] at e1
    have := h.tx n t1 e1
    exact ⟨this.num, this.sees, this.nw, this.keys, this.pos, this.vals⟩

theorem XOk.close (h : XOk s) (tx : Int) (n : Nat) : XOk { s with txs := updI s.txs tx none, nopen := n } := by
  refine ⟨h.now, h.hor, h.begun, h.up, h.mom, h.ver, h.key, fun n t1 e1 => ?_, h.nm, h.nv, h.lgl, h.lgb, h.sy⟩
  by_cases en : n = tx
  · subst en
    simp only [updI_same] at e1
    cases e1
  · simp only [updI_other _ en] at e1
    have := h.tx n t1 e1
    exact ⟨this.num, this.sees, this.nw, this.keys, this.pos, this.vals⟩

/-- A store behind a commit. -/
def commd (s : XS) (wr : ByteArray → Option (ByteArray × Bool)) (txs : Int → Option XT) (nopen nv nm : Nat) : XS :=
  { s with now := s.now + 1, mom := fun k => if (wr k).isSome = true then s.mom k ++ [s.now + 1] else s.mom k, ver := fun k m => if m = s.now + 1 ∧ (wr k).isSome = true then wr k else s.ver k m, txs := txs, nopen := nopen, nv := nv, nm := nm }

theorem comm_eq (s : XS) (t : XT) (nv nm : Nat) (txs : Int → Option XT) (n : Nat) : { comm s t (fun _ => false) nv nm with txs := txs, nopen := n } = commd s t.wr txs n nv nm := by
  simp [comm, commd]

theorem XOk.commit (h : XOk s) {tx : Int} {t : XT} (e : s.txs tx = some t) (hn : s.now < 2000) {nv nm : Nat} (hnv : nv ≤ s.nv + t.nw) (hnm : nm ≤ s.nm + t.nw) (n : Nat) {l : XL} (hl : LogC s t.wr l) : XOk (commd { s with log := l } t.wr (updI s.txs tx none) n nv nm) := by
  obtain ⟨ws, hws, hw10, hlg, hsy⟩ := hl
  have ht := h.tx tx t e
  have hnow := h.now
  have hhor := h.hor
  have hnw := ht.nw
  refine ⟨⟨by show 0 ≤ s.now + 1; omega, by show s.now + 1 ≤ 2000; omega⟩, ⟨hhor.1, by show s.hor ≤ s.now + 1; omega⟩, h.begun, fun k => ?_, fun k m hm => ?_, fun k m => ?_, fun k hk => ?_, fun n t1 e1 => ?_, ?_, ?_, ?_, ?_, ?_⟩
  · simp only [commd]
    split
    · rw [List.pairwise_append]
      exact ⟨h.up k, by simp, fun a ha b hb => by simp at hb; have := h.mom k a ha; omega⟩
    · exact h.up k
  · simp only [commd] at hm ⊢
    split at hm
    · rcases List.mem_append.1 hm with h1 | h1
      · have := h.mom k m h1; omega
      · simp at h1; omega
    · have := h.mom k m hm; omega
  · simp only [commd]
    by_cases hw : (t.wr k).isSome = true
    · rw [if_pos hw]
      by_cases em : m = s.now + 1
      · subst em; simp [hw]
      · simp only [em, false_and, if_false, List.mem_append, List.mem_singleton, or_false]
        exact h.ver k m
    · rw [if_neg hw, if_neg (fun h => hw h.2)]
      exact h.ver k m
  · simp only [commd] at hk
    split at hk
    · rename_i hw; exact ht.keys k hw
    · exact h.key k hk
  · by_cases en : n = tx
    · subst en; simp [commd, updI_same] at e1
    · simp only [commd, updI_other _ en] at e1
      have := h.tx n t1 e1
      exact ⟨this.num, ⟨this.sees.1, by show t1.sees ≤ s.now + 1; have := this.sees; omega⟩, this.nw, this.keys, this.pos, this.vals⟩
  · have := h.nm
    show (nm : Int) ≤ 10 * (s.now + 1)
    omega
  · have := h.nv
    show (nv : Int) ≤ 10 * (s.now + 1)
    omega
  · have := h.lgl
    show (l.lg.length : Int) ≤ s.now + 1 + s.hor
    rw [hlg]; simp; omega
  · intro b hb
    have hb' : b ∈ l.lg := hb
    rw [hlg] at hb'
    rcases List.mem_append.1 hb' with h1 | h1
    · exact h.lgb b h1
    · simp at h1; subst h1
      have := bodyC_length_le (s.now + 1).toNat ws (fun x hx => ⟨isKey_le x.1 (ht.keys x.1 (by rw [hws.at_ x hx]; rfl)), ht.vals x.1 x.2 (hws.at_ x hx)⟩)
      omega
  · show l.sy ≤ bytesOf (filesB l.lg)
    rw [hlg, hsy]
    exact Nat.le_trans h.sy (bytesOf_snoc _ _)

end

end Go.Proofs.YthbdpfccfcceiaaGreatDoor

namespace Go.Proofs.YthbdpfccfcceiaaGreatDoor
open Go.RowKit

structure Gone (s s' : XS) (h : Int) (c : ByteArray → Nat) : Prop where
  now : s'.now = s.now
  hor : s'.hor = s.hor
  begun : s'.begun = s.begun
  txs : s'.txs = s.txs
  nopen : s'.nopen = s.nopen
  log : s'.log = s.log
  bk : s'.bk = s.bk
  nv : s'.nv ≤ s.nv
  nm : s'.nm ≤ s.nm
  le : ∀ k, c k ≤ spentX s k h
  mom : ∀ k, s'.mom k = (s.mom k).drop (c k)
  ver : ∀ k m, s'.ver k m = if m ∈ (s.mom k).take (c k) then none else s.ver k m

theorem spentX_congr {s s' : XS} {k : ByteArray} (h1 : s'.mom k = s.mom k) (h2 : ∀ m, s'.ver k m = s.ver k m) (t : Int) : spentX s' k t = spentX s k t := by
  unfold spentX
  rw [h1]
  split
  · rfl
  · rw [h2]

theorem drop_other {s : XS} {k a : ByteArray} (n : Nat) (e : a ≠ k) (t : Int) : spentX (dropX s k n) a t = spentX s a t :=
  spentX_congr (by simp [dropX, updS, e]) (fun m => by simp [dropX, e]) t

theorem le_sum_map {c : ByteArray → Nat} : ∀ {l : List ByteArray} {k : ByteArray}, k ∈ l → c k ≤ (l.map c).sum
  | a :: r, k, h => by
    rw [List.map_cons, List.sum_cons]
    rcases List.mem_cons.1 h with e | h
    · rw [e]; omega
    · have := le_sum_map (c := c) h
      omega

theorem vac_char (h most : Int) : ∀ (ks : List ByteArray) (s : XS) (gone : Int), ks.Pairwise blt → (∀ k ∈ ks, 0 < spentX s k h) →
    ∃ c, Gone s (vacGo h most ks s gone).1 h c ∧ (∀ k, k ∉ ks → c k = 0) ∧ (vacGo h most ks s gone).2 = gone + ((ks.map c).sum : Nat) ∧ ((vacGo h most ks s gone).2 = gone ∨ (vacGo h most ks s gone).2 ≤ most) ∧ ((vacGo h most ks s gone).2 < most → ∀ k ∈ ks, c k = spentX s k h) ∧ (∀ k1 k2, k1 ∈ ks → blt k1 k2 → 0 < c k2 → c k1 = spentX s k1 h)
  | [], s, gone, _, _ => ⟨fun _ => 0, ⟨rfl, rfl, rfl, rfl, rfl, rfl, rfl, Nat.le_refl _, Nat.le_refl _, fun _ => Nat.zero_le _, fun _ => rfl, fun k m => by simp [vacGo]⟩, fun _ _ => rfl, by simp [vacGo], Or.inl rfl, fun _ k hk => (by cases hk), fun k1 _ hk => (by cases hk)⟩
  | k :: r, s, gone, hn, hp => by
    obtain ⟨hkl, hnr⟩ := List.pairwise_cons.1 hn
    have hkr : k ∉ r := fun h => blt_irrefl _ (hkl k h)
    have hk := hp k (by simp)
    by_cases hc : min (spentX s k h : Int) (most - gone) < 1
    · have e : vacGo h most (k :: r) s gone = (s, gone) := by rw [vacGo, if_pos hc]
      rw [e]
      refine ⟨fun _ => 0, ⟨rfl, rfl, rfl, rfl, rfl, rfl, rfl, Nat.le_refl _, Nat.le_refl _, fun _ => Nat.zero_le _, fun _ => rfl, fun k m => by simp⟩, fun _ _ => rfl, ?_, Or.inl rfl, fun hlt => ?_, fun _ _ _ _ h => absurd h (Nat.lt_irrefl 0)⟩
      · have : ((k :: r).map fun _ => 0).sum = 0 := by
          generalize k :: r = l
          induction l with
          | nil => rfl
          | cons a l ih => rw [List.map_cons, List.sum_cons, ih]
        rw [this]; simp
      · exfalso
        have : gone < most := hlt
        omega
    · obtain ⟨n, hn'⟩ : ∃ n : Nat, min (spentX s k h : Int) (most - gone) = n := ⟨(min (spentX s k h : Int) (most - gone)).toNat, by omega⟩
      have e : vacGo h most (k :: r) s gone = vacGo h most r (dropX s k n) (gone + n) := by rw [vacGo, if_neg hc, hn', Int.toNat_natCast]
      rw [e]
      have hr : ∀ a, a ∈ r → a ≠ k := fun a ha e => hkr (e ▸ ha)
      obtain ⟨c1, g, h0, h1, h2, h3, h4⟩ := vac_char h most r (dropX s k n) (gone + n) hnr (fun a ha => by rw [drop_other n (hr a ha)]; exact hp a (List.mem_cons_of_mem _ ha))
      have hck : c1 k = 0 := h0 k hkr
      have hle : n ≤ spentX s k h := by omega
      refine ⟨updS c1 k n, ⟨g.now, g.hor, g.begun, g.txs, g.nopen, g.log, g.bk, Nat.le_trans g.nv (Nat.sub_le _ _), Nat.le_trans g.nm ?_, fun a => ?_, fun a => ?_, fun a m => ?_⟩, fun a ha => ?_, ?_, ?_, fun hlt a ha => ?_, fun k1 k2 hk1 hb hc2 => ?_⟩
      · show (if n = (s.mom k).length then s.nm - 1 else s.nm) ≤ s.nm
        split <;> omega
      · by_cases ea : a = k
        · subst ea; rw [updS_same]; exact hle
        · rw [updS_other _ ea]
          have := g.le a
          rw [drop_other n ea] at this
          exact this
      · rw [g.mom]
        by_cases ea : a = k
        · subst ea
          rw [updS_same, hck]
          simp [dropX, updS]
        · rw [updS_other _ ea]
          simp [dropX, updS, ea]
      · rw [g.ver]
        by_cases ea : a = k
        · subst ea
          rw [updS_same, hck]
          simp [dropX]
        · rw [updS_other _ ea]
          simp [dropX, updS, ea]
      · have ea : a ≠ k := fun e => ha (by rw [e]; simp)
        rw [updS_other _ ea]
        exact h0 a (fun h => ha (List.mem_cons_of_mem _ h))
      · rw [h1, List.map_cons, List.sum_cons, updS_same]
        have : r.map (updS c1 k n) = r.map c1 := List.map_congr_left (fun a ha => updS_other _ (hr a ha) _)
        rw [this]
        omega
      · right
        rcases h2 with h | h <;> omega
      · rcases List.mem_cons.1 ha with rfl | ha'
        · rw [updS_same]
          rw [h1] at hlt
          omega
        · rw [updS_other _ (hr a ha'), h3 hlt a ha', drop_other n (hr a ha')]
      · have e2 : k2 ≠ k := fun e => by
          subst e
          rcases List.mem_cons.1 hk1 with e1 | h1
          · subst e1; exact blt_irrefl _ hb
          · exact blt_irrefl _ (blt_trans hb (hkl k1 h1))
        rw [updS_other _ e2] at hc2
        have hk2 : k2 ∈ r := Classical.byContradiction fun hn => by rw [h0 k2 hn] at hc2; omega
        rcases List.mem_cons.1 hk1 with e1 | hr1
        · subst e1
          rw [updS_same]
          have := le_sum_map (c := c1) hk2
          rw [h1] at h2
          omega
        · rw [updS_other _ (hr k1 hr1), h4 k1 k2 hr1 hb hc2, drop_other n (hr k1 hr1)]

section
variable {s s' : XS} {h : Int} {c : ByteArray → Nat}

theorem take_le (ok : XOk s) (k : ByteArray) {n : Nat} (hn : n ≤ spentX s k h) : ∀ m ∈ (s.mom k).take n, m ≤ h := by
  intro m hm
  have hc : n ≤ (s.mom k).countP (fun m => decide (m ≤ h)) := by
    unfold spentX at hn
    split at hn
    · omega
    · split at hn <;> omega
  have h1 : m ∈ (s.mom k).filter (fun m => decide (m ≤ h)) := by
    rw [filter_take _ _ (ok.up k)]
    exact List.take_subset_take_left _ hc hm
  simpa using (List.mem_filter.1 h1).2

theorem filter_drop (ok : XOk s) (k : ByteArray) {n : Nat} (hn : n ≤ spentX s k h) {t : Int} (ht : h ≤ t) :
    (s.mom k).filter (fun m => decide (m ≤ t)) = (s.mom k).take n ++ ((s.mom k).drop n).filter (fun m => decide (m ≤ t)) := by
  have h1 : ((s.mom k).take n).filter (fun m => decide (m ≤ t)) = (s.mom k).take n := by
    rw [List.filter_eq_self]
    intro m hm
    have := take_le ok k hn m hm
    simp; omega
  have e : s.mom k = (s.mom k).take n ++ (s.mom k).drop n := (List.take_append_drop _ _).symm
  conv => lhs; rw [e, List.filter_append, h1]

theorem not_take (ok : XOk s) (k : ByteArray) {n : Nat} {m : Int} (hm : m ∈ (s.mom k).drop n) : m ∉ (s.mom k).take n := fun h2 => by
  have hp := ok.up k
  rw [← List.take_append_drop n (s.mom k), List.pairwise_append] at hp
  have := hp.2.2 m h2 m hm
  omega

theorem XOk.gone (ok : XOk s) (g : Gone s s' h c) : XOk s' := by
  refine ⟨by rw [g.now]; exact ok.now, by rw [g.hor, g.now]; exact ok.hor, by rw [g.begun]; exact ok.begun, fun k => ?_, fun k m hm => ?_, fun k m => ?_, fun k hk => ?_, fun n t e => ?_, ?_, ?_, by rw [g.log, g.now, g.hor]; exact ok.lgl, by rw [g.log]; exact ok.lgb, by rw [g.log]; exact ok.sy⟩
  · rw [g.mom]; exact List.Pairwise.sublist (List.drop_sublist _ _) (ok.up k)
  · rw [g.mom] at hm; rw [g.now]; exact ok.mom k m (List.mem_of_mem_drop hm)
  · rw [g.ver, g.mom]
    by_cases hm : m ∈ (s.mom k).take (c k)
    · rw [if_pos hm]
      constructor
      · intro h; cases h
      · intro h; exact absurd hm (not_take ok k h)
    · rw [if_neg hm, ok.ver]
      constructor
      · intro h
        rw [← List.take_append_drop (c k) (s.mom k), List.mem_append] at h
        exact h.resolve_left hm
      · exact List.mem_of_mem_drop
  · rw [g.mom] at hk
    exact ok.key k (fun e => hk (by rw [e, List.drop_nil]))
  · rw [g.txs] at e
    have t1 := ok.tx n t e
    exact ⟨by rw [g.begun]; exact t1.num, by rw [g.hor, g.now]; exact t1.sees, t1.nw, t1.keys, t1.pos, t1.vals⟩
  · have := ok.nm; have := g.nm; rw [g.now]; omega
  · have := ok.nv; have := g.nv; rw [g.now]; omega

/-- Nothing that is told of differs. -/
def SameV (a b : ByteArray × Bool) : Prop := a.2 = b.2 ∧ (a.2 = true → a.1 = b.1)

theorem Gone.val (ok : XOk s) (g : Gone s s' h c) (k : ByteArray) {t : Int} (ht : h ≤ t) : SameV (valAt s' k t) (valAt s k t) := by
  have hf := filter_drop ok k (g.le k) ht
  unfold valAt
  rw [g.mom, hf]
  cases e : (((s.mom k).drop (c k)).filter (fun m => decide (m ≤ t))).getLast? with
  | some m =>
    have hm : m ∈ (s.mom k).drop (c k) := (List.mem_filter.1 (List.mem_of_getLast? e)).1
    have e2 : ((s.mom k).take (c k) ++ ((s.mom k).drop (c k)).filter (fun m => decide (m ≤ t))).getLast? = some m := by
      rw [List.getLast?_append, e]; rfl
    have hv : s'.ver k m = s.ver k m := by rw [g.ver, if_neg (not_take ok k hm)]
    simp only [e2, hv]
    exact ⟨rfl, fun _ => rfl⟩
  | none =>
    have hnil : ((s.mom k).drop (c k)).filter (fun m => decide (m ≤ t)) = [] := List.getLast?_eq_none_iff.1 e
    rw [hnil, List.append_nil]
    cases e3 : ((s.mom k).take (c k)).getLast? with
    | none => exact ⟨rfl, fun _ => rfl⟩
    | some m =>
      -- the last of those that went is a deletion
      have hne : (s.mom k).take (c k) ≠ [] := fun h0 => by rw [h0] at e3; cases e3
      have hlen : ((s.mom k).take (c k)).length = c k := by
        have h1 := g.le k
        have h2 := spentX_le s k h
        simp; omega
      have hfh := filter_drop ok k (g.le k) (Int.le_refl h)
      have hnilh : ((s.mom k).drop (c k)).filter (fun m => decide (m ≤ h)) = [] := by
        rw [List.filter_eq_nil_iff] at hnil ⊢
        intro a ha
        have := hnil a ha
        simp at this ⊢
        omega
      rw [hnilh, List.append_nil] at hfh
      have hcnt : (s.mom k).countP (fun m => decide (m ≤ h)) = c k := by rw [List.countP_eq_length_filter, hfh, hlen]
      have hc0 : 0 < c k := by rw [← hlen]; exact List.length_pos_iff.2 hne
      have hle := g.le k
      have hsp : spentX s k h = if ((s.ver k m).getD (eb, false)).2 = true then c k else c k - 1 := by
        unfold spentX
        rw [hfh, e3]
        simp only [hcnt]
      rw [hsp] at hle
      split at hle
      · rename_i hd
        cases hv : s.ver k m with
        | none => rw [hv] at hd; cases hd
        | some v =>
          rw [hv] at hd
          simp only [Option.getD_some] at hd
          refine ⟨?_, fun h => by cases h⟩
          simp only [hv, hd]
          rfl
      · omega

/-- What may still go. -/
theorem Gone.spent (ok : XOk s) (g : Gone s s' h c) (k : ByteArray) : spentX s' k h = spentX s k h - c k := by
  have hf := filter_drop ok k (g.le k) (Int.le_refl h)
  have hle := g.le k
  have hlen : ((s.mom k).take (c k)).length = c k := by
    have h2 := spentX_le s k h
    simp; omega
  have hcnt : (s.mom k).countP (fun m => decide (m ≤ h)) = c k + ((s.mom k).drop (c k)).countP (fun m => decide (m ≤ h)) := by
    rw [List.countP_eq_length_filter, hf, List.length_append, hlen, ← List.countP_eq_length_filter]
  have hub : spentX s k h ≤ (s.mom k).countP (fun m => decide (m ≤ h)) := by
    unfold spentX
    split
    · omega
    · split <;> omega
  cases e : (((s.mom k).drop (c k)).filter (fun m => decide (m ≤ h))).getLast? with
  | none =>
    have hnil := List.getLast?_eq_none_iff.1 e
    have h0 : ((s.mom k).drop (c k)).countP (fun m => decide (m ≤ h)) = 0 := by rw [List.countP_eq_length_filter, hnil]; rfl
    have : spentX s' k h = 0 := by
      unfold spentX
      rw [g.mom, e]
    omega
  | some m =>
    have hm : m ∈ (s.mom k).drop (c k) := (List.mem_filter.1 (List.mem_of_getLast? e)).1
    have e2 : ((s.mom k).filter (fun m => decide (m ≤ h))).getLast? = some m := by rw [hf, List.getLast?_append, e]; rfl
    have hv : s'.ver k m = s.ver k m := by rw [g.ver, if_neg (not_take ok k hm)]
    unfold spentX
    rw [g.mom, e, e2]
    simp only [hv, hcnt]
    split <;> omega

end

end Go.Proofs.YthbdpfccfcceiaaGreatDoor
