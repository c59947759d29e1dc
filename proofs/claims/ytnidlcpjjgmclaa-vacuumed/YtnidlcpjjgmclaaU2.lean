/-
  Retain, Stored, Vacuum and told of a store with no key but the six.
-/
import Derived.Test.YtnidlcpjjgmclaaU1
namespace Go.Proofs.Ytnidlcpjjgmclaa
open Go.RowKit Go.Maps

theorem keys6_nodup : keys6.Nodup := by
  unfold List.Nodup
  exact keys6_sorted.imp (fun {a b} hab e => by subst e; exact blt_irrefl _ hab)

theorem sum_filter (c : ByteArray → Nat) (q : ByteArray → Bool) : ∀ l : List ByteArray, (∀ k ∈ l, q k = false → c k = 0) → (l.map c).sum = ((l.filter q).map c).sum
  | [], _ => rfl
  | k :: r, h => by
    have ih := sum_filter c q r (fun a ha => h a (List.mem_cons_of_mem _ ha))
    cases hk : q k
    · rw [List.filter_cons_of_neg (by simp [hk]), List.map_cons, List.sum_cons, h k (by simp) hk, ih]; omega
    · rw [List.filter_cons_of_pos hk, List.map_cons, List.sum_cons, List.map_cons, List.sum_cons, ih]

theorem sum_sub (f c : ByteArray → Nat) : ∀ l : List ByteArray, (∀ k ∈ l, c k ≤ f k) → (l.map fun k => f k - c k).sum + (l.map c).sum = (l.map f).sum
  | [], _ => rfl
  | k :: r, h => by
    have ih := sum_sub f c r (fun a ha => h a (List.mem_cons_of_mem _ ha))
    have hk := h k (by simp)
    simp only [List.map_cons, List.sum_cons]
    omega

section
variable {N : Nat → Prop} {w : World} {p : Nat} {s : XS}
variable {R : Ending → World → Prop}

theorem St.nv6 (h : St N w p s) (ok : XOk s) (six : Six s) : s.nv = (keys6.map fun k => (s.mom k).length).sum := by
  obtain ⟨own, ⟨mo, ph, mv, mm, pt, mw, sl, h⟩, hN⟩ := h
  exact h.nv_eq kPlace ok.up ok.ver keys6 keys6_nodup six

theorem e_told (h : St N w p s) (ok : XOk s) (six : Six s) (t0 : Int) (h0 : s.hor ≤ t0) (h1 : t0 ≤ s.now)
    (hR : ∀ w' v, Kp (fun _ => False) w w' → ToldAt w.heap.size w'.heap.size w' v (s.now - t0 + 1).toNat (fun j => pairs6 fun k => valAt s k (t0 + j)) → R (.returned (.tuple #[v, .bool true])) w') :
    Calls Try.prog 21 #[.pointer (some ⟨p, 0, none⟩), .int .i64 t0, .int .i64 s.now] w R := by
  have hh := ok.hor
  have hn := ok.now
  refine told_walk w p t0 s.now (by omega) (fun t => pairs6 fun k => valAt s k t) (fun t wr k h2 h3 => ?_) hR
  refine e_range (h.kept k) ok six t (by omega) h3 (fun w' v k' hp => ?_)
  obtain ⟨a, cap, rfl, r⟩ := hp
  exact ⟨a, cap, rfl, k', a, cap, rfl, r⟩

theorem e_retain (h : St N w p s) (hno : ∀ n, s.txs n = none) (t : Int) (h1 : s.hor ≤ t) (h2 : t ≤ s.now)
    (hR : ∀ w', St N w' p { s with hor := t } → Kp (fun b => ¬ N b) w w' → R (.returned (.int .i64 0)) w') :
    Calls Try.prog 22 #[.pointer (some ⟨p, 0, none⟩), .int .i64 t] w R := by
  obtain ⟨own, ⟨mo, ph, mv, mm, pt, mw, sl, h⟩, hN⟩ := h
  refine x_retain h t (fun h0 => by omega) (fun _ _ hp => ?_) (fun _ _ _ w' k hx => ?_)
  · obtain ⟨n, x, e, _⟩ := hp
    rw [hno] at e; cases e
  · have h1 := St.up ⟨mo, ph, mv, mm, pt, mw, sl, h⟩ hN k (fun _ _ => rfl) ⟨_, _, _, _, _, _, _, hx⟩
    exact hR w' h1.1 h1.2

theorem XOk.retain (ok : XOk s) (hno : ∀ n, s.txs n = none) {t : Int} (h1 : s.hor ≤ t) (h2 : t ≤ s.now) : XOk { s with hor := t } := by
  have hh := ok.hor
  refine ⟨ok.now, ⟨by show 0 ≤ t; omega, h2⟩, ok.begun, ok.up, ok.mom, ok.ver, ok.key, fun n x e => ?_, ok.nm, ok.nv⟩
  have e' : s.txs n = some x := e
  rw [hno] at e'; cases e'

theorem e_stored (h : St N w p s) (hR : R (.returned (.int .i64 s.nv)) w) : Calls Try.prog 23 #[.pointer (some ⟨p, 0, none⟩)] w R := by
  obtain ⟨own, ⟨mo, ph, mv, mm, pt, mw, sl, h⟩, hN⟩ := h
  exact x_stored h hR

theorem e_range_early (h : St N w p s) (ok : XOk s) (m : Int) (h1 : m < s.hor)
    (hR : R (.returned (.tuple #[.slice none 0 0, .int .i64 6])) w) :
    Calls Try.prog 12 #[.pointer (some ⟨p, 0, none⟩), .int .i64 m, .string ⟨#[]⟩, .string ⟨#[126]⟩] w R := by
  obtain ⟨own, ⟨mo, ph, mv, mm, pt, mw, sl, h⟩, hN⟩ := h
  exact x_range m _ _ (x_between h m _ _ ok.nmOk ok.momOk ok.keysM (fun _ => ⟨_, _, rfl, hR⟩) (fun h0 => absurd h1 h0) (fun h0 => absurd h1 h0))

theorem e_vacuum (h : St N w p s) (ok : XOk s) (six : Six s) (most : Int) (hm : I64 most)
    (hR : ∀ w' s' c (went : Nat), Gone s s' s.hor c → XOk s' → Six s' → St N w' p s' → Kp (fun b => ¬ N b) w w' → went = (keys6.map c).sum → s'.nv + went = s.nv → (went = 0 ∨ (went : Int) ≤ most) → ((went : Int) < most → ∀ k, spentX s' k s.hor = 0) → R (.returned (.int .i64 went)) w') :
    Calls Try.prog 24 #[.pointer (some ⟨p, 0, none⟩), .int .i64 most] w R := by
  have hnv := h.nv6 ok six
  obtain ⟨own, ⟨mo, ph, mv, mm, pt, mw, sl, h⟩, hN⟩ := h
  refine x_vacuum h most hm ⟨ok.momOk, ok.keysM, ok.nmOk⟩ (fun w' sl' ks hs hmem hk hx => ?_)
  obtain ⟨c, g, h0, h1, h2, h3, _⟩ := vac_char s.hor most ks s 0 hs (fun k hk => (hmem k).1 hk)
  generalize vacGo s.hor most ks s 0 = r at hx g h1 h2 h3
  have ok' := ok.gone g
  have six' : Six r.1 := fun k hk => six k (fun e => hk (by rw [g.mom, e, List.drop_nil]))
  have hS := St.up ⟨mo, ph, mv, mm, pt, mw, sl, h⟩ hN hk (fun _ _ => rfl) ⟨_, _, _, _, _, _, _, hx⟩
  have hkf : ks = keys6.filter (fun k => decide (0 < spentX s k s.hor)) := by
    refine sorted_same hs (List.Pairwise.filter _ keys6_sorted) (fun k => ?_)
    rw [List.mem_filter, hmem]
    constructor
    · intro hk
      exact ⟨six k (fun e => by rw [spentX_nil e] at hk; omega), by simpa using hk⟩
    · rintro ⟨_, hk⟩
      simpa using hk
  have hsum : (keys6.map c).sum = (ks.map c).sum := by
    rw [hkf]
    refine sum_filter c _ keys6 (fun k _ hq => ?_)
    have := g.le k
    have hq' : ¬ 0 < spentX s k s.hor := by simpa using hq
    omega
  have hnv' := hS.1.nv6 ok' six'
  have hss := sum_sub (fun k => (s.mom k).length) c keys6 (fun k _ => Nat.le_trans (g.le k) (spentX_le s k s.hor))
  have hmm : (keys6.map fun k => (r.1.mom k).length) = keys6.map fun k => (s.mom k).length - c k := List.map_congr_left (fun k _ => by rw [g.mom, List.length_drop])
  rw [hmm] at hnv'
  rw [h1, ← hsum, Int.zero_add]
  rw [h1, ← hsum, Int.zero_add] at h2 h3
  refine hR w' r.1 c _ g ok' six' hS.1 hS.2 rfl (by omega) (h2.imp (fun h => by omega) id) (fun hlt k => ?_)
  rw [g.spent ok k]
  by_cases hk : k ∈ ks
  · rw [h3 hlt k hk]; omega
  · have : ¬ 0 < spentX s k s.hor := fun h => hk ((hmem k).2 h)
    omega

set_option maxRecDepth 20000 in
set_option maxHeartbeats 1000000 in
theorem same_draws {lo hi lo' hi' : Nat} (va vb : Value) (l : List (ByteArray × ByteArray)) (ha : PairsAt lo hi w va l) (hb : PairsAt lo' hi' w vb l) (hl : l.length < 1000000) :
    Calls Try.prog 17 #[va, vb] w fun e w' => e = .returned (.bool true) ∧ ∃ q, w' = w.drewN q := by
  obtain ⟨a, cap, rfl, hh, ha⟩ := ha
  obtain ⟨b, cap', rfl, hh', hb⟩ := hb
  have HA := hid_of ha
  have HB := hid_of hb
  have hlb : (l.length : Int) < 1000000 := by omega
  clear ha hb hl hh hh'
  go_enter Try.func17, Try.ntmps17
  go_wp2
  go_loopw [5] (fun v5 wr => ∃ (i : Nat) (q : Nat), i ≤ l.length ∧ v5 = .int .i64 i ∧ wr = w.drewN q) (fun v5 _ => l.length - (intOf v5).toNat)
  case atStart => exact ⟨0, 0, Nat.zero_le _, rfl, rfl⟩
  case round =>
    obtain ⟨i, q, hile, rfl, rfl⟩ := hrel
    by_cases hlt : i < l.length
    · obtain ⟨g, rfl, hg1, hg2, hc⟩ := HA.out (fun h => by rw [h] at hlt; simp at hlt)
      obtain ⟨g', rfl, hg1', hg2', hc'⟩ := HB.out (fun h => by rw [h] at hlt; simp at hlt)
      have q0 := (hc i hlt).1
      have q1 := (hc i hlt).2
      have p0 := (hc' i hlt).1
      have p1 := (hc' i hlt).2
      have hlt' : (i : Int) < l.length := by omega
      generalize l[i].1 = x at q0 p0
      generalize l[i].2 = y at q1 p1
      generalize hW : w.drewN q = W
      have r0 : W.cell? ⟨g, i * 2, none⟩ = some (.string x) := by rw [← hW]; exact q0
      have r1 : W.cell? ⟨g, i * 2 + 1, none⟩ = some (.string y) := by rw [← hW]; exact q1
      have s0 : W.cell? ⟨g', i * 2, none⟩ = some (.string x) := by rw [← hW]; exact p0
      have s1 : W.cell? ⟨g', i * 2 + 1, none⟩ = some (.string y) := by rw [← hW]; exact p1
      have HW := hid_of hW
      clear hc hc' q0 q1 p0 p1 hW
      go_wp2
      go_quiet (fail)
      go_wp2
      go_roundw
      case rel => exact ⟨i + 1, q + nq, by omega, by go_num, by rw [← HW.out]; simp⟩
      case measure => simp [intOf]; omega
    · have hie : ¬ (i : Int) < l.length := by omega
      go_wp2
      go_ret
      exact ⟨rfl, q, rfl⟩

end

end Go.Proofs.Ytnidlcpjjgmclaa
