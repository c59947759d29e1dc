/-
  Retain, Stored, Vacuum and told of a store with no key but the six.
  Sync, Files, Crash and Recover, told of a store that lies beside all else.
-/
import Derived.Test.YthbdpfccfcceiaaGreatDoorV8I0U1
import Derived.Test.YthbdpfccfcceiaaGreatDoorF28
namespace Go.Proofs.YthbdpfccfcceiaaGreatDoor
open Go.RowKit Go.Maps

theorem keys6_nodup : keys6.Nodup := by
  unfold List.Nodup
  exact keys6_sorted.imp (fun {a b} hab e => by subst e; exact blt_irrefl _ hab)

theorem sum_filter (c : ByteArray → Nat) (q : ByteArray → Bool) : ∀ l : List ByteArray, (∀ k ∈ l, q k = false → c k = 0) → (l.map c).sum = ((l.filter q).map c).sum
  | [], _ => rfl
  | k :: r, h => by
    have ih := sum_filter c q r (fun a ha => h a (List.mem_cons_of_mem _ ha))
    cases hk : q k
    · rw [List.filter_cons_of_neg (by simp [hk]), List.map_cons, List.sum_cons, h k (by simp) hk, ih]; omega
    · rw [List.filter_cons_of_pos hk, List.map_cons, List.sum_cons, List.map_cons, List.sum_cons, ih]

theorem sum_sub (f c : ByteArray → Nat) : ∀ l : List ByteArray, (∀ k ∈ l, c k ≤ f k) → (l.map fun k => f k - c k).sum + (l.map c).sum = (l.map f).sum
  | [], _ => rfl
  | k :: r, h => by
    have ih := sum_sub f c r (fun a ha => h a (List.mem_cons_of_mem _ ha))
    have hk := h k (by simp)
    simp only [List.map_cons, List.sum_cons]
    omega

section
variable {N : Nat → Prop} {w : World} {p : Nat} {s : XS}
variable {R : Ending → World → Prop}

theorem St.nv6 (h : St N w p s) (ok : XOk s) (six : Six s) : s.nv = (keys6.map fun k => (s.mom k).length).sum := by
  obtain ⟨own, ⟨mo, ph, mv, mm, pt, mw, sl, h⟩, hN⟩ := h
  exact h.nv_eq kPlace ok.up ok.ver keys6 keys6_nodup six

theorem e_told (h : St N w p s) (ok : XOk s) (six : Six s) (t0 : Int) (h0 : s.hor ≤ t0) (h1 : t0 ≤ s.now)
    (hR : ∀ w' v, Kp (fun _ => False) w w' → ToldAt w.heap.size w'.heap.size w' v (s.now - t0 + 1).toNat (fun j => pairs6 fun k => valAt s k (t0 + j)) → R (.returned (.tuple #[v, .bool true])) w') :
    Calls Tryz.prog 18 #[.pointer (some ⟨p, 0, none⟩), .int .i64 t0, .int .i64 s.now] w R := by
  have hh := ok.hor
  have hn := ok.now
  refine told_walk w p t0 s.now (by omega) (fun t => pairs6 fun k => valAt s k t) (fun t wr k h2 h3 => ?_) hR
  refine e_range (h.kept k) ok six t (by omega) h3 (fun w' v k' hp => ?_)
  obtain ⟨a, cap, rfl, r⟩ := hp
  exact ⟨a, cap, rfl, k', a, cap, rfl, r⟩

theorem e_retain (h : St N w p s) (ok : XOk s) (hno : ∀ n, s.txs n = none) (hnb : ∀ n, s.bk.un n = none) (t : Int) (h1 : s.hor ≤ t) (h2 : t ≤ s.now)
    (hR : ∀ w' l, (l.lg = if s.hor < t then s.log.lg ++ [bodyH t.toNat] else s.log.lg) → l.sy = s.log.sy → St N w' p { s with hor := t, log := l } → Kp (fun b => ¬ N b) w w' → R (.returned (.int .i64 0)) w') :
    Calls Tryz.prog 21 #[.pointer (some ⟨p, 0, none⟩), .int .i64 t] w R := by
  obtain ⟨own, ⟨mo, ph, mv, mm, pt, mw, sl, h⟩, hN⟩ := h
  have a1 := ok.now
  have a2 := ok.hor
  have a3 := ok.lgl
  refine x_retain h hN.tab hN.tabN t ⟨a2.1, a1.2⟩ (by omega) ok.lgb (fun h0 => by omega) (fun _ _ hp => ?_) (fun _ _ _ w' own' l k ho hl hs hx => ?_)
  · rcases hp with ⟨n, x, e, _⟩ | ⟨n, b, e, _⟩
    · rw [hno] at e; cases e
    · rw [hnb] at e; cases e
  · have h1 := St.up ⟨mo, ph, mv, mm, pt, mw, sl, h⟩ hN k ho ⟨_, _, _, _, _, _, _, hx⟩
    exact hR w' l hl hs h1.1 h1.2

theorem XOk.retain (ok : XOk s) (hno : ∀ n, s.txs n = none) {t : Int} (h1 : s.hor ≤ t) (h2 : t ≤ s.now) {l : XL} (hl : l.lg = if s.hor < t then s.log.lg ++ [bodyH t.toNat] else s.log.lg) (hs : l.sy = s.log.sy) : XOk { s with hor := t, log := l } := by
  have hh := ok.hor
  refine ⟨ok.now, ⟨by show 0 ≤ t; omega, h2⟩, ok.begun, ok.up, ok.mom, ok.ver, ok.key, fun n x e => ?_, ok.nm, ok.nv, ?_, ?_, ?_⟩
  · have e' : s.txs n = some x := e
    rw [hno] at e'; cases e'
  · have h3 := ok.lgl
    show (l.lg.length : Int) ≤ s.now + t
    rw [hl]
    split
    · simp; omega
    · omega
  · intro b hb
    have hb' : b ∈ l.lg := hb
    rw [hl] at hb'
    split at hb'
    · rcases List.mem_append.1 hb' with h3 | h3
      · exact ok.lgb b h3
      · simp at h3; subst h3; rw [bodyH_length]; omega
    · exact ok.lgb b hb'
  · show l.sy ≤ bytesOf (filesB l.lg)
    rw [hl, hs]
    split
    · exact Nat.le_trans ok.sy (bytesOf_snoc _ _)
    · exact ok.sy

theorem e_stored (h : St N w p s) (hR : R (.returned (.int .i64 s.nv)) w) : Calls Tryz.prog 112 #[.pointer (some ⟨p, 0, none⟩)] w R := by
  obtain ⟨own, ⟨mo, ph, mv, mm, pt, mw, sl, h⟩, hN⟩ := h
  exact x_stored h hR

theorem e_range_early (h : St N w p s) (ok : XOk s) (m : Int) (h1 : m < s.hor)
    (hR : R (.returned (.tuple #[.slice none 0 0, .int .i64 6])) w) :
    Calls Tryz.prog 27 #[.pointer (some ⟨p, 0, none⟩), .int .i64 m, .string ⟨#[]⟩, .string ⟨#[126]⟩] w R := by
  obtain ⟨own, ⟨mo, ph, mv, mm, pt, mw, sl, h⟩, hN⟩ := h
  exact x_range m _ _ (x_between h m _ _ ok.nmOk ok.momOk ok.keysM (fun _ => ⟨_, _, rfl, hR⟩) (fun h0 => absurd h1 h0) (fun h0 => absurd h1 h0))

theorem e_vacuum (h : St N w p s) (ok : XOk s) (six : Six s) (most : Int) (hm : I64 most)
    (hR : ∀ w' s' c (went : Nat), Gone s s' s.hor c → XOk s' → Six s' → St N w' p s' → Kp (fun b => ¬ N b) w w' → went = (keys6.map c).sum → s'.nv + went = s.nv → (went = 0 ∨ (went : Int) ≤ most) → ((went : Int) < most → ∀ k, spentX s' k s.hor = 0) → R (.returned (.int .i64 went)) w') :
    Calls Tryz.prog 22 #[.pointer (some ⟨p, 0, none⟩), .int .i64 most] w R := by
  have hnv := h.nv6 ok six
  obtain ⟨own, ⟨mo, ph, mv, mm, pt, mw, sl, h⟩, hN⟩ := h
  refine x_vacuum h most hm ⟨ok.momOk, ok.keysM, ok.nmOk⟩ (fun w' sl' ks hs hmem hk hx => ?_)
  obtain ⟨c, g, h0, h1, h2, h3, _⟩ := vac_char s.hor most ks s 0 hs (fun k hk => (hmem k).1 hk)
  generalize vacGo s.hor most ks s 0 = r at hx g h1 h2 h3
  have ok' := ok.gone g
  have six' : Six r.1 := fun k hk => six k (fun e => hk (by rw [g.mom, e, List.drop_nil]))
  have hS := St.up ⟨mo, ph, mv, mm, pt, mw, sl, h⟩ hN hk (fun _ _ => rfl) ⟨_, _, _, _, _, _, _, hx⟩
  have hkf : ks = keys6.filter (fun k => decide (0 < spentX s k s.hor)) := by
    refine sorted_same hs (List.Pairwise.filter _ keys6_sorted) (fun k => ?_)
    rw [List.mem_filter, hmem]
    constructor
    · intro hk
      exact ⟨six k (fun e => by rw [spentX_nil e] at hk; omega), by simpa using hk⟩
    · rintro ⟨_, hk⟩
      simpa using hk
  have hsum : (keys6.map c).sum = (ks.map c).sum := by
    rw [hkf]
    refine sum_filter c _ keys6 (fun k _ hq => ?_)
    have := g.le k
    have hq' : ¬ 0 < spentX s k s.hor := by simpa using hq
    omega
  have hnv' := hS.1.nv6 ok' six'
  have hss := sum_sub (fun k => (s.mom k).length) c keys6 (fun k _ => Nat.le_trans (g.le k) (spentX_le s k s.hor))
  have hmm : (keys6.map fun k => (r.1.mom k).length) = keys6.map fun k => (s.mom k).length - c k := List.map_congr_left (fun k _ => by rw [g.mom, List.length_drop])
  rw [hmm] at hnv'
  rw [h1, ← hsum, Int.zero_add]
  rw [h1, ← hsum, Int.zero_add] at h2 h3
  refine hR w' r.1 c _ g ok' six' hS.1 hS.2 rfl (by omega) (h2.imp (fun h => by omega) id) (fun hlt k => ?_)
  rw [g.spent ok k]
  by_cases hk : k ∈ ks
  · rw [h3 hlt k hk]; omega
  · have : ¬ 0 < spentX s k s.hor := fun h => hk ((hmem k).2 h)
    omega

set_option maxRecDepth 20000 in
set_option maxHeartbeats 1000000 in
theorem same_draws {lo hi lo' hi' : Nat} (va vb : Value) (l : List (ByteArray × ByteArray)) (ha : PairsAt lo hi w va l) (hb : PairsAt lo' hi' w vb l) (hl : l.length < 1000000) :
    Calls Tryz.prog 19 #[va, vb] w fun e w' => e = .returned (.bool true) ∧ ∃ q, w' = w.drewN q := by
  obtain ⟨a, cap, rfl, hh, ha⟩ := ha
  obtain ⟨b, cap', rfl, hh', hb⟩ := hb
  have HA := hid_of ha
  have HB := hid_of hb
  have hlb : (l.length : Int) < 1000000 := by omega
  clear ha hb hl hh hh'
  go_enter Tryz.func19, Tryz.ntmps19
  go_wp2
  go_loopw [5] (fun v5 wr => ∃ (i : Nat) (q : Nat), i ≤ l.length ∧ v5 = .int .i64 i ∧ wr = w.drewN q) (fun v5 _ => l.length - (intOf v5).toNat)
  case atStart => exact ⟨0, 0, Nat.zero_le _, rfl, rfl⟩
  case round =>
    obtain ⟨i, q, hile, rfl, rfl⟩ := hrel
    by_cases hlt : i < l.length
    · obtain ⟨g, rfl, hg1, hg2, hc⟩ := HA.out (fun h => by rw [h] at hlt; simp at hlt)
      obtain ⟨g', rfl, hg1', hg2', hc'⟩ := HB.out (fun h => by rw [h] at hlt; simp at hlt)
      have q0 := (hc i hlt).1
      have q1 := (hc i hlt).2
      have p0 := (hc' i hlt).1
      have p1 := (hc' i hlt).2
      have hlt' : (i : Int) < l.length := by omega
      generalize l[i].1 = x at q0 p0
      generalize l[i].2 = y at q1 p1
      generalize hW : w.drewN q = W
      have r0 : W.cell? ⟨g, i * 2, none⟩ = some (.string x) := by rw [← hW]; exact q0
      have r1 : W.cell? ⟨g, i * 2 + 1, none⟩ = some (.string y) := by rw [← hW]; exact q1
      have s0 : W.cell? ⟨g', i * 2, none⟩ = some (.string x) := by rw [← hW]; exact p0
      have s1 : W.cell? ⟨g', i * 2 + 1, none⟩ = some (.string y) := by rw [← hW]; exact p1
      have HW := hid_of hW
      clear hc hc' q0 q1 p0 p1 hW
      go_wp2
      go_quiet (fail)
      go_wp2
      go_roundw
      case rel => exact ⟨i + 1, q + nq, by omega, by go_num, by rw [← HW.out]; simp⟩
      case measure => simp [intOf]; omega
    · have hie : ¬ (i : Int) < l.length := by omega
      go_wp2
      go_ret
      exact ⟨rfl, q, rfl⟩

end

end Go.Proofs.YthbdpfccfcceiaaGreatDoor

namespace Go.Proofs.YthbdpfccfcceiaaGreatDoor
open Go.RowKit

section
variable {N : Nat → Prop} {w w' : World} {p : Nat} {s : XS}
variable {R : Ending → World → Prop}

theorem e_sync (h : St N w p s) (ok : XOk s) (hR : ∀ w', St N w' p (synced s) → Kp (fun b => ¬ N b) w w' → R (.returned (.tuple #[])) w') :
    Calls Tryz.prog 14 #[.pointer (some ⟨p, 0, none⟩)] w R := by
  obtain ⟨own, hx, hN⟩ := h
  refine x_sync hx ok (fun w' k _ hx' => ?_)
  have h1 := St.up hx hN k (fun _ _ => rfl) hx'
  exact hR w' h1.1 h1.2

theorem e_files (h : St N w p s) (ok : XOk s) (hR : ∀ v' lv' w', FR w.heap.size w' v' (filesB s.log.lg) lv' → Kp (fun _ => False) w w' → R (.returned v') w') :
    Calls Tryz.prog 20 #[.pointer (some ⟨p, 0, none⟩)] w R := by
  obtain ⟨own, hx, hN⟩ := h
  exact x_files hx ok hR

theorem e_crash (h : St N w p s) (ok : XOk s) (keep : Int) (hkeep : -9223372036854775808 ≤ keep ∧ keep ≤ 9223372036854775807)
    (hR : ∀ v' lv' w', FR w.heap.size w' v' (firstB (filesB s.log.lg) (leftN s.log.sy (bytesOf (filesB s.log.lg)) keep)) lv' → Kp (fun _ => False) w w' → R (.returned v') w') :
    Calls Tryz.prog 17 #[.pointer (some ⟨p, 0, none⟩), .int .i64 keep] w R := by
  obtain ⟨own, hx, hN⟩ := h
  exact x_crash hx ok keep hkeep hR

theorem BR.rdN {base : Nat} {v : Value} {bs : List UInt8} (h : BR base w v bs) : ∃ g, RdN w v bs g ∧ (g < w.heap.size ∨ bs = []) := by
  rcases h.2 with ⟨e, h0⟩ | ⟨g, cap, cur, e, _, hg, hn, hr⟩
  · have hb : bs = [] := List.eq_nil_of_length_eq_zero h0
    refine ⟨0, ⟨none, 0, by rw [e, h0], by omega, fun hne => absurd hb hne⟩, Or.inr hb⟩
  · obtain ⟨q, cap2, e2, hc⟩ := h.rd
    have hlt := (Array.getElem?_eq_some_iff.1 hg).1
    refine ⟨g, ⟨some ⟨g, 0, none⟩, cap, e, hn, fun hne => ⟨hlt, 0, rfl, fun j hj => ?_⟩⟩, Or.inl hlt⟩
    obtain ⟨g2, o2, e3, hc2⟩ := hc hne
    rw [e] at e2
    injection e2 with e2 _ _
    rw [e3] at e2
    injection e2 with e2
    injection e2 with e4 e5
    subst e4; subst e5
    exact hc2 j hj

theorem FR.fin {base : Nat} {v : Value} {fs : List (List UInt8)} {lv : List Value} (h : FR base w v fs lv) (hl : fs.length ≤ 1000000) (hs : ∀ f ∈ fs, f.length ≤ 1000000) (h0 : 0 < w.heap.size) : FIn w v fs (fun b => b < w.heap.size) := by
  obtain ⟨a, cap, e⟩ := ownsRow_slice h.row
  refine ⟨a, cap, e, hl, fun hne => ?_⟩
  obtain ⟨g, cap2, cur, e2, hg, _⟩ := ownsRow_some h.row (List.length_pos_iff.2 hne)
  have hlt := (Array.getElem?_eq_some_iff.1 hg).1
  rw [e] at e2
  injection e2 with e2 _ _
  subst e2
  refine ⟨g, 0, rfl, hlt, hlt, fun i f hf => ?_⟩
  have hi : i < lv.length := by rw [h.len]; exact (List.getElem?_eq_some_iff.1 hf).1
  have hu := List.getElem?_eq_getElem hi
  have hb := h.at_ i _ f hu hf
  obtain ⟨g1, hr, hg1⟩ := hb.rdN
  obtain ⟨b, c, e3⟩ := ownsRow_slice hb
  have hc := World.ownsRow.cells h.row (g := g) (by rw [e]; rfl) i _ hu
  rw [addr_add, Nat.zero_add] at hc
  rw [e3] at hc hr
  rw [Nat.zero_add]
  rcases hg1 with hg1 | hg1
  · exact ⟨b, _, c, g1, hc, hr, hg1, hs f (List.mem_of_getElem? hf)⟩
  · refine ⟨b, _, c, 0, hc, ?_, h0, hs f (List.mem_of_getElem? hf)⟩
    obtain ⟨p, cap, e4, h5, _⟩ := hr
    exact ⟨p, cap, e4, h5, fun hne => absurd hg1 hne⟩

/-- A store, made of what a crash has left. -/
theorem e_recover {es : List (List W3)} {n : Nat} (hT : Tab w) (hE : ∀ ws ∈ es, ComOk ws) (hl : es.length ≤ 2000) (v : Value) (lv : List Value) {base : Nat} (hv : FR base w v (firstB (filesB (lgF 1 es)) n) lv)
    (hR : ∀ w' p k s, St (fun b => b < w.heap.size) w' p s → Kp (fun _ => False) w w' → XOk s → HistE es k s → (∀ n, s.txs n = none) → s.begun = 0 → s.nopen = 0 → s.log.sy = bytesOf (filesB s.log.lg) → (∀ a, a ≤ es.length → sizeB (lgF 1 es) a ≤ n → a ≤ k) → R (.returned (.tuple #[.pointer (some ⟨p, 0, none⟩), .int .i64 0])) w') :
    Calls Tryz.prog 16 #[v] w R := by
  have hfl : (firstB (filesB (lgF 1 es)) n).length ≤ 1000000 := by
    have := firstB_length_le (filesB (lgF 1 es)) n
    rw [filesB_length, lgF_length] at this
    omega
  refine x_recover (own := fun _ => ⟨0, 9, 0, eb⟩) (c := 2) hT (fun _ _ => by simp) v _ (hv.fin hfl (crash_small hE) (by have := hT.lt.1; omega)) (crash_fine hE hl) (fun hd => absurd hd (crash_whole hE hl (hist_new es _))) (fun w' own' s' k ho hN hx ok ht hb hg hr => ?_)
  obtain ⟨a, h1, h2⟩ := crash_hist hE hl (hist_new es _) hr
  refine hR w' _ a (synced s') ⟨own', hx, fun b hb => ⟨Nat.lt_of_lt_of_le hb k.size, by rw [ho b hb]; simp⟩, hT.kept k, hN⟩ k ok ⟨h1.now, h1.hor, h1.mom, h1.ver, h1.lg, h1.le⟩ ht hg ?_ rfl h2
  obtain ⟨mo, ph, mv, mm, pt, mw, sl, hxr⟩ := hx
  refine hxr.opn.card kInt [] List.nodup_nil (fun x => ⟨fun h => (by cases h), fun h => ?_⟩)
  unfold encI at h
  split at h
  · rename_i n
    have : (synced s').txs n = none := ht n
    dsimp only at h
    rw [this] at h
    cases h
  · cases h

end

end Go.Proofs.YthbdpfccfcceiaaGreatDoor
