/-
  What a store tells at each moment from one to another: the law's told; that two such lists are the same.
  Retain, Stored, Vacuum and told of a store with no key but the six.
-/
import Derived.Test.YthbdpfccfcceiaaDoorI1
import Derived.Test.YthbdpfccfcceiaaDoorV3
import Derived.Test.YthbdpfccfcceiaaDoorV8
import Derived.Test.YthbdpfccfcceiaaDoorN1
import Derived.Test.YthbdpfccfcceiaaDoorI3
namespace Go.Proofs.YthbdpfccfcceiaaDoor
open Go.RowKit Go.Maps

theorem infoPairs : (Tryd.prog.info? 33).map (fun i => (i.zero, i.size, i.bytes)) = some (some (.slice none 0 0), 1, 24) := by kernel_rfl

/-- Lists of pairs in memory. -/
def ToldAt (lo hi : Nat) (w : World) (v : Value) (n : Nat) (L : Nat → List (ByteArray × ByteArray)) : Prop :=
  ∃ a cap, v = .slice a n cap ∧ hi ≤ w.heap.size ∧ (0 < n → ∃ g, a = some ⟨g, 0, none⟩ ∧ lo ≤ g ∧ g < hi ∧ ∀ j, j < n → ∃ v', w.cell? ⟨g, j, none⟩ = some v' ∧ PairsAt lo hi w v' (L j))

theorem ToldAt.kp {S : Nat → Prop} {lo hi n : Nat} {w w' : World} {v : Value} {L : Nat → List (ByteArray × ByteArray)} (h : ToldAt lo hi w v n L) (k : Kp S w w') (hs : ∀ b, lo ≤ b → b < hi → ¬ S b) : ToldAt lo hi w' v n L := by
  obtain ⟨a, cap, rfl, hh, h⟩ := h
  refine ⟨a, cap, rfl, Nat.le_trans hh k.size, fun hl => ?_⟩
  obtain ⟨g, rfl, h1, h2, h3⟩ := h hl
  refine ⟨g, rfl, h1, h2, fun j hj => ?_⟩
  obtain ⟨v', h4, h5⟩ := h3 j hj
  exact ⟨v', (k.cell (a := ⟨g, j, none⟩) (by show g < _; omega) (hs g h1 h2)).trans h4, h5.kp k hs⟩

theorem PairsAt.wide {lo hi hi' : Nat} {w : World} {v : Value} {l : List (ByteArray × ByteArray)} (h : PairsAt lo hi w v l) {lo' : Nat} (h1 : lo' ≤ lo) (h2 : hi ≤ hi') (h3 : hi' ≤ w.heap.size) : PairsAt lo' hi' w v l := by
  obtain ⟨a, cap, rfl, hh, h⟩ := h
  refine ⟨a, cap, rfl, h3, fun hl => ?_⟩
  obtain ⟨g, rfl, b1, b2, b3⟩ := h hl
  exact ⟨g, rfl, by omega, by omega, b3⟩

section
variable {R : Ending → World → Prop}

set_option maxRecDepth 20000 in
set_option maxHeartbeats 1000000 in
theorem told_walk (w : World) (p : Nat) (t0 t1 : Int) (hb : 0 ≤ t0 ∧ t0 ≤ t1 ∧ t1 < 100000) (f : Int → List (ByteArray × ByteArray))
    (H : ∀ t wr, Kp (fun _ => False) w wr → t0 ≤ t → t ≤ t1 → Calls Tryd.prog 12 #[.pointer (some ⟨p, 0, none⟩), .int .i64 t, .string ⟨#[]⟩, .string ⟨#[126]⟩] wr fun r w' => ∃ a cap, r = .returned (.tuple #[.slice a (f t).length cap, .int .i64 0]) ∧ Kp (fun _ => False) wr w' ∧ PairsAt wr.heap.size w'.heap.size w' (.slice a (f t).length cap) (f t))
    (hR : ∀ w' v, Kp (fun _ => False) w w' → ToldAt w.heap.size w'.heap.size w' v (t1 - t0 + 1).toNat (fun j => f (t0 + j)) → R (.returned (.tuple #[v, .bool true])) w') :
    Calls Tryd.prog 21 #[.pointer (some ⟨p, 0, none⟩), .int .i64 t0, .int .i64 t1] w R := by
  have HH := hid_of H
  have HR := hid_of hR
  obtain ⟨b0, b1, b2⟩ := hb
  obtain ⟨i0, hi, hz0, hz1, hz2⟩ := info_parts infoPairs
  clear H hR
  go_enter Tryd.func21, Tryd.ntmps21
  go_wp2
  go_loopw [8, 9, 10, 11] (fun v8 v9 _ _ wr => ∃ (i : Nat) (vs : List Value), t0 + i ≤ t1 + 1 ∧ v9 = .int .i64 (t0 + i) ∧ Kp (fun _ => False) w wr ∧ wr.ownsRow w.heap.size 33 1 v8 i vs ∧ ∀ j, j < i → ∃ v', vs[j]? = some v' ∧ PairsAt w.heap.size wr.heap.size wr v' (f (t0 + j)) ∧ (f (t0 + j) ≠ [] → v'.ownBlock ≠ v8.ownBlock))
    (fun _ v9 _ _ _ => (t1 + 1 - intOf v9).toNat)
  case atStart => exact ⟨0, [], by omega, by simp, Kp.refl _ _, World.ownsRow_nil _ _ _ _, fun j hj => by omega⟩
  case round =>
    obtain ⟨i, vs, hi1, rfl, hkp, hrow, hps⟩ := hrel
    have HPS := hid_of hps
    have HKP := hid_of hkp
    clear hps
    by_cases hlt : t0 + i ≤ t1
    · have HC := hid_of (HH.out (t0 + i) wr hkp (by omega) hlt)
      have HB := hid_of (show i < 100000 by omega)
      clear hkp
      go_wp2_with (first
        | (go_at_call 12; refine Calls.mono HC.out ?_; rintro r w2 ⟨a, cap, rfl, hk2, hp2⟩; have hrow2 := ownsRow_kp hrow hk2 (fun _ _ h => h); have HK2 := hid_of hk2; have HP2 := hid_of hp2; clear hk2 hp2)
        | (at_builtin; refine wpList_append_own_at _ rfl _ _ 48 rfl w.heap.size 33 i0 (.slice none 0 0) 1 24 Tryd.underlying48 hi hz0 hz1 hz2 rfl (by decide) _ _ _ rfl (hrow2.alloc _) ⟨w2.heap.size, 0, none⟩ 1 1 [.slice a (f (t0 + i)).length cap] rfl rfl (cell_one_new _ _ _) (by simp [Value.oneCell']) (by have := HB.out; unfold maxLen; omega) (by have := HB.out; omega) (by have := HKP.out.size; have := HK2.out.size; simp; omega) ?_; intro v' w3 hown' hgrow hnil hloc)
        | go_in)
      have hb8 : ∀ b, Value.ownBlock u8 = some b → w.heap.size ≤ b := fun b hb => (hrow2.lt b hb).1
      have K23 : Kp (fun b => Value.ownBlock u8 = some b) w2 w3 := (Kp.alloc (fun b => Value.ownBlock u8 = some b) w2 _).trans (Kp.of_grown (S := fun b => Value.ownBlock u8 = some b) hgrow (fun _ h => h)) (fun _ _ h => h)
      go_roundw
      case rel =>
        have hk13 : Kp (fun _ => False) w w3 := (HKP.out.trans HK2.out (fun _ _ h => h)).trans K23 (fun b hb h => by have := hb8 b h; omega)
        refine ⟨i + 1, vs ++ [.slice a (f (t0 + i)).length cap], by omega, by go_num, hk13, hown', fun j hj => ?_⟩
        have hlen : vs.length = i := by have := hrow.1; omega
        have hz1 := HKP.out.size
        have hz2 := HK2.out.size
        have hz3 := K23.size
        have apart : ∀ (x : Value) (l : List (ByteArray × ByteArray)), PairsAt w.heap.size w2.heap.size w2 x l → (l ≠ [] → x.ownBlock ≠ Value.ownBlock u8) → PairsAt w.heap.size w3.heap.size w3 x l ∧ (l ≠ [] → x.ownBlock ≠ v'.ownBlock) := fun x l hp hne => by
          obtain ⟨a', cap', rfl, hh, hp⟩ := hp
          refine ⟨⟨a', cap', rfl, Nat.le_refl _, fun hl => ?_⟩, fun hl => ?_⟩
          · obtain ⟨g, rfl, q1, q2, q3⟩ := hp hl
            have hgn : ¬ Value.ownBlock u8 = some g := fun e => hne hl (by rw [e]; rfl)
            exact ⟨g, rfl, q1, by omega, fun m hm => ⟨(K23.cell (a := ⟨g, m * 2, none⟩) q2 hgn).trans (q3 m hm).1, (K23.cell (a := ⟨g, m * 2 + 1, none⟩) q2 hgn).trans (q3 m hm).2⟩⟩
          · obtain ⟨g, rfl, q1, q2, q3⟩ := hp hl
            rcases hloc with e | e
            · rw [e]; exact hne hl
            · rw [e]
              simp [Value.ownBlock]
              omega
        by_cases e : j = i
        · rw [e]
          refine ⟨.slice a (f (t0 + i)).length cap, by rw [List.getElem?_append_right (by omega), hlen, Nat.sub_self]; rfl, ?_⟩
          refine apart _ _ (HP2.out.wide (lo' := w.heap.size) (hi' := w2.heap.size) hz1 (Nat.le_refl _) (Nat.le_refl _)) (fun hl => ?_)
          obtain ⟨a', cap', e', _, hp⟩ := HP2.out
          cases e'
          obtain ⟨g, rfl, q1, q2, q3⟩ := hp hl
          intro e
          have := (hrow.lt g (by rw [← e]; rfl)).2
          omega
        · obtain ⟨v'', h4, h5, h6⟩ := HPS.out j (by omega)
          refine ⟨v'', by rw [List.getElem?_append_left (by omega)]; exact h4, ?_⟩
          exact apart _ _ ((h5.kp HK2.out (fun _ _ _ h => h)).wide (Nat.le_refl _) hz2 (Nat.le_refl _)) h6
      case measure => simp [intOf]; omega
    · have hie : t0 + i = t1 + 1 := by omega
      have hF := HR.out wr u8 hkp ?_
      · have HF := hid_of hF
        clear hkp hF
        go_wp2
        exact HF.out
      · have hn : (t1 - t0 + 1).toNat = i := by omega
        rw [hn]
        have hlen : vs.length = i := by have := hrow.1; omega
        rcases hrow.2 with ⟨e, h0⟩ | ⟨g, cap, cur, e, hb, hg, hnc, _, hcs, ht⟩
        · exact ⟨none, 0, by rw [e, h0], Nat.le_refl _, fun h => by omega⟩
        · refine ⟨_, cap, e, Nat.le_refl _, fun _ => ⟨g, rfl, hb, block_lt hg, fun j hj => ?_⟩⟩
          obtain ⟨v', h4, h5, _⟩ := HPS.out j hj
          refine ⟨v', ?_, h5⟩
          rw [cell_of hg, ← Array.getElem?_toList, ← h4, ← ht, List.getElem?_take, if_pos (by omega)]

end

end Go.Proofs.YthbdpfccfcceiaaDoor

namespace Go.Proofs.YthbdpfccfcceiaaDoor
open Go.RowKit Go.Maps

theorem keys6_nodup : keys6.Nodup := by
  unfold List.Nodup
  exact keys6_sorted.imp (fun {a b} hab e => by subst e; exact blt_irrefl _ hab)

theorem sum_filter (c : ByteArray → Nat) (q : ByteArray → Bool) : ∀ l : List ByteArray, (∀ k ∈ l, q k = false → c k = 0) → (l.map c).sum = ((l.filter q).map c).sum
  | [], _ => rfl
  | k :: r, h => by
    have ih := sum_filter c q r (fun a ha => h a (List.mem_cons_of_mem _ ha))
    cases hk : q k
    · rw [List.filter_cons_of_neg (by simp [hk]), List.map_cons, List.sum_cons, h k (by simp) hk, ih]; omega
    · rw [List.filter_cons_of_pos hk, List.map_cons, List.sum_cons, List.map_cons, List.sum_cons, ih]

theorem sum_sub (f c : ByteArray → Nat) : ∀ l : List ByteArray, (∀ k ∈ l, c k ≤ f k) → (l.map fun k => f k - c k).sum + (l.map c).sum = (l.map f).sum
  | [], _ => rfl
  | k :: r, h => by
    have ih := sum_sub f c r (fun a ha => h a (List.mem_cons_of_mem _ ha))
    have hk := h k (by simp)
    simp only [List.map_cons, List.sum_cons]
    omega

section
variable {N : Nat → Prop} {w : World} {p : Nat} {s : XS}
variable {R : Ending → World → Prop}

theorem St.nv6 (h : St N w p s) (ok : XOk s) (six : Six s) : s.nv = (keys6.map fun k => (s.mom k).length).sum := by
  obtain ⟨own, ⟨mo, ph, mv, mm, pt, mw, sl, h⟩, hN⟩ := h
  exact h.nv_eq kPlace ok.up ok.ver keys6 keys6_nodup six

theorem e_told (h : St N w p s) (ok : XOk s) (six : Six s) (t0 : Int) (h0 : s.hor ≤ t0) (h1 : t0 ≤ s.now)
    (hR : ∀ w' v, Kp (fun _ => False) w w' → ToldAt w.heap.size w'.heap.size w' v (s.now - t0 + 1).toNat (fun j => pairs6 fun k => valAt s k (t0 + j)) → R (.returned (.tuple #[v, .bool true])) w') :
    Calls Tryd.prog 21 #[.pointer (some ⟨p, 0, none⟩), .int .i64 t0, .int .i64 s.now] w R := by
  have hh := ok.hor
  have hn := ok.now
  refine told_walk w p t0 s.now (by omega) (fun t => pairs6 fun k => valAt s k t) (fun t wr k h2 h3 => ?_) hR
  refine e_range (h.kept k) ok six t (by omega) h3 (fun w' v k' hp => ?_)
  obtain ⟨a, cap, rfl, r⟩ := hp
  exact ⟨a, cap, rfl, k', a, cap, rfl, r⟩

theorem e_retain (h : St N w p s) (ok : XOk s) (hno : ∀ n, s.txs n = none) (hnb : ∀ n, s.bk.un n = none) (t : Int) (h1 : s.hor ≤ t) (h2 : t ≤ s.now)
    (hR : ∀ w' l, (l.lg = if s.hor < t then s.log.lg ++ [bodyH t.toNat] else s.log.lg) → l.sy = s.log.sy → St N w' p { s with hor := t, log := l } → Kp (fun b => ¬ N b) w w' → R (.returned (.int .i64 0)) w') :
    Calls Tryd.prog 22 #[.pointer (some ⟨p, 0, none⟩), .int .i64 t] w R := by
  obtain ⟨own, ⟨mo, ph, mv, mm, pt, mw, sl, h⟩, hN⟩ := h
  have a1 := ok.now
  have a2 := ok.hor
  have a3 := ok.lgl
  refine x_retain h hN.tab hN.tabN t ⟨a2.1, a1.2⟩ (by omega) ok.lgb (fun h0 => by omega) (fun _ _ hp => ?_) (fun _ _ _ w' own' l k ho hl hs hx => ?_)
  · rcases hp with ⟨n, x, e, _⟩ | ⟨n, b, e, _⟩
    · rw [hno] at e; cases e
    · rw [hnb] at e; cases e
  · have h1 := St.up ⟨mo, ph, mv, mm, pt, mw, sl, h⟩ hN k ho ⟨_, _, _, _, _, _, _, hx⟩
    exact hR w' l hl hs h1.1 h1.2

theorem XOk.retain (ok : XOk s) (hno : ∀ n, s.txs n = none) {t : Int} (h1 : s.hor ≤ t) (h2 : t ≤ s.now) {l : XL} (hl : l.lg = if s.hor < t then s.log.lg ++ [bodyH t.toNat] else s.log.lg) (hs : l.sy = s.log.sy) : XOk { s with hor := t, log := l } := by
  have hh := ok.hor
  refine ⟨ok.now, ⟨by show 0 ≤ t; omega, h2⟩, ok.begun, ok.up, ok.mom, ok.ver, ok.key, fun n x e => ?_, ok.nm, ok.nv, ?_, ?_, ?_⟩
  · have e' : s.txs n = some x := e
    rw [hno] at e'; cases e'
  · have h3 := ok.lgl
    show (l.lg.length : Int) ≤ s.now + t
    rw [hl]
    split
    · simp; omega
    · omega
  · intro b hb
    have hb' : b ∈ l.lg := hb
    rw [hl] at hb'
    split at hb'
    · rcases List.mem_append.1 hb' with h3 | h3
      · exact ok.lgb b h3
      · simp at h3; subst h3; rw [bodyH_length]; omega
    · exact ok.lgb b hb'
  · show l.sy ≤ bytesOf (filesB l.lg)
    rw [hl, hs]
    split
    · exact Nat.le_trans ok.sy (bytesOf_snoc _ _)
    · exact ok.sy

theorem e_stored (h : St N w p s) (hR : R (.returned (.int .i64 s.nv)) w) : Calls Tryd.prog 23 #[.pointer (some ⟨p, 0, none⟩)] w R := by
  obtain ⟨own, ⟨mo, ph, mv, mm, pt, mw, sl, h⟩, hN⟩ := h
  exact x_stored h hR

theorem e_range_early (h : St N w p s) (ok : XOk s) (m : Int) (h1 : m < s.hor)
    (hR : R (.returned (.tuple #[.slice none 0 0, .int .i64 6])) w) :
    Calls Tryd.prog 12 #[.pointer (some ⟨p, 0, none⟩), .int .i64 m, .string ⟨#[]⟩, .string ⟨#[126]⟩] w R := by
  obtain ⟨own, ⟨mo, ph, mv, mm, pt, mw, sl, h⟩, hN⟩ := h
  exact x_range m _ _ (x_between h m _ _ ok.nmOk ok.momOk ok.keysM (fun _ => ⟨_, _, rfl, hR⟩) (fun h0 => absurd h1 h0) (fun h0 => absurd h1 h0))

theorem e_vacuum (h : St N w p s) (ok : XOk s) (six : Six s) (most : Int) (hm : I64 most)
    (hR : ∀ w' s' c (went : Nat), Gone s s' s.hor c → XOk s' → Six s' → St N w' p s' → Kp (fun b => ¬ N b) w w' → went = (keys6.map c).sum → s'.nv + went = s.nv → (went = 0 ∨ (went : Int) ≤ most) → ((went : Int) < most → ∀ k, spentX s' k s.hor = 0) → R (.returned (.int .i64 went)) w') :
    Calls Tryd.prog 24 #[.pointer (some ⟨p, 0, none⟩), .int .i64 most] w R := by
  have hnv := h.nv6 ok six
  obtain ⟨own, ⟨mo, ph, mv, mm, pt, mw, sl, h⟩, hN⟩ := h
  refine x_vacuum h most hm ⟨ok.momOk, ok.keysM, ok.nmOk⟩ (fun w' sl' ks hs hmem hk hx => ?_)
  obtain ⟨c, g, h0, h1, h2, h3, _⟩ := vac_char s.hor most ks s 0 hs (fun k hk => (hmem k).1 hk)
  generalize vacGo s.hor most ks s 0 = r at hx g h1 h2 h3
  have ok' := ok.gone g
  have six' : Six r.1 := fun k hk => six k (fun e => hk (by rw [g.mom, e, List.drop_nil]))
  have hS := St.up ⟨mo, ph, mv, mm, pt, mw, sl, h⟩ hN hk (fun _ _ => rfl) ⟨_, _, _, _, _, _, _, hx⟩
  have hkf : ks = keys6.filter (fun k => decide (0 < spentX s k s.hor)) := by
    refine sorted_same hs (List.Pairwise.filter _ keys6_sorted) (fun k => ?_)
    rw [List.mem_filter, hmem]
    constructor
    · intro hk
      exact ⟨six k (fun e => by rw [spentX_nil e] at hk; omega), by simpa using hk⟩
    · rintro ⟨_, hk⟩
      simpa using hk
  have hsum : (keys6.map c).sum = (ks.map c).sum := by
    rw [hkf]
    refine sum_filter c _ keys6 (fun k _ hq => ?_)
    have := g.le k
    have hq' : ¬ 0 < spentX s k s.hor := by simpa using hq
    omega
  have hnv' := hS.1.nv6 ok' six'
  have hss := sum_sub (fun k => (s.mom k).length) c keys6 (fun k _ => Nat.le_trans (g.le k) (spentX_le s k s.hor))
  have hmm : (keys6.map fun k => (r.1.mom k).length) = keys6.map fun k => (s.mom k).length - c k := List.map_congr_left (fun k _ => by rw [g.mom, List.length_drop])
  rw [hmm] at hnv'
  rw [h1, ← hsum, Int.zero_add]
  rw [h1, ← hsum, Int.zero_add] at h2 h3
  refine hR w' r.1 c _ g ok' six' hS.1 hS.2 rfl (by omega) (h2.imp (fun h => by omega) id) (fun hlt k => ?_)
  rw [g.spent ok k]
  by_cases hk : k ∈ ks
  · rw [h3 hlt k hk]; omega
  · have : ¬ 0 < spentX s k s.hor := fun h => hk ((hmem k).2 h)
    omega

set_option maxRecDepth 20000 in
set_option maxHeartbeats 1000000 in
theorem same_draws {lo hi lo' hi' : Nat} (va vb : Value) (l : List (ByteArray × ByteArray)) (ha : PairsAt lo hi w va l) (hb : PairsAt lo' hi' w vb l) (hl : l.length < 1000000) :
    Calls Tryd.prog 17 #[va, vb] w fun e w' => e = .returned (.bool true) ∧ ∃ q, w' = w.drewN q := by
  obtain ⟨a, cap, rfl, hh, ha⟩ := ha
  obtain ⟨b, cap', rfl, hh', hb⟩ := hb
  have HA := hid_of ha
  have HB := hid_of hb
  have hlb : (l.length : Int) < 1000000 := by omega
  clear ha hb hl hh hh'
  go_enter Tryd.func17, Tryd.ntmps17
  go_wp2
  go_loopw [5] (fun v5 wr => ∃ (i : Nat) (q : Nat), i ≤ l.length ∧ v5 = .int .i64 i ∧ wr = w.drewN q) (fun v5 _ => l.length - (intOf v5).toNat)
  case atStart => exact ⟨0, 0, Nat.zero_le _, rfl, rfl⟩
  case round =>
    obtain ⟨i, q, hile, rfl, rfl⟩ := hrel
    by_cases hlt : i < l.length
    · obtain ⟨g, rfl, hg1, hg2, hc⟩ := HA.out (fun h => by rw [h] at hlt; simp at hlt)
      obtain ⟨g', rfl, hg1', hg2', hc'⟩ := HB.out (fun h => by rw [h] at hlt; simp at hlt)
      have q0 := (hc i hlt).1
      have q1 := (hc i hlt).2
      have p0 := (hc' i hlt).1
      have p1 := (hc' i hlt).2
      have hlt' : (i : Int) < l.length := by omega
      generalize l[i].1 = x at q0 p0
      generalize l[i].2 = y at q1 p1
      generalize hW : w.drewN q = W
      have r0 : W.cell? ⟨g, i * 2, none⟩ = some (.string x) := by rw [← hW]; exact q0
      have r1 : W.cell? ⟨g, i * 2 + 1, none⟩ = some (.string y) := by rw [← hW]; exact q1
      have s0 : W.cell? ⟨g', i * 2, none⟩ = some (.string x) := by rw [← hW]; exact p0
      have s1 : W.cell? ⟨g', i * 2 + 1, none⟩ = some (.string y) := by rw [← hW]; exact p1
      have HW := hid_of hW
      clear hc hc' q0 q1 p0 p1 hW
      go_wp2
      go_quiet (fail)
      go_wp2
      go_roundw
      case rel => exact ⟨i + 1, q + nq, by omega, by go_num, by rw [← HW.out]; simp⟩
      case measure => simp [intOf]; omega
    · have hie : ¬ (i : Int) < l.length := by omega
      go_wp2
      go_ret
      exact ⟨rfl, q, rfl⟩

end

end Go.Proofs.YthbdpfccfcceiaaDoor
