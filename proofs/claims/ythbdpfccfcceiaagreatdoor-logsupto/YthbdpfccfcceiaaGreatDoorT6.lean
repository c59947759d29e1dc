/-
  The tie of stage 2: what is told at a moment; who pins; which versions go, by the document and by the program.
-/
import Derived.Test.YthbdpfccfcceiaaGreatDoorT2G2Z1
import Derived.Test.YthbdpfccfcceiaaGreatDoorR16R17R18
import Derived.Test.YthbdpfccfcceiaaGreatDoorR14V1V3V4V5
import Derived.Test.YthbdpfccfcceiaaGreatDoorV7E1V8
import Derived.Test.YthbdpfccfcceiaaGreatDoorT0T1C3J2J3N1
namespace Go.Proofs.YthbdpfccfcceiaaGreatDoor
open Go.RowKit

section
variable {s : XS} {y : YS}

theorem Tied.told (h : Tied s y) (hy : YI y) (t : Int) : ToldBy y.l t (fun k => valAt s k t) := by
  intro k r ha
  have hup := (moms_up hy.up k).filter (fun m => decide (m ≤ t))
  rcases ha with ⟨hno, rfl⟩ | ⟨b, hb, hbest, ha⟩
  · have e1 : (s.mom k).filter (fun m => decide (m ≤ t)) = [] := by
      rw [List.filter_eq_nil_iff, h.mom]
      intro m hm
      obtain ⟨v, hv, e1, e2⟩ := mem_moms.1 hm
      obtain ⟨j, hj, rfl⟩ := List.getElem_of_mem hv
      intro hle
      have hle : m ≤ t := by simpa using hle
      have := hno j hj hj
      rw [Bool.eq_false_iff] at this
      exact this (fits_iff.2 ⟨e1, by omega⟩)
    have e2 : valAt s k t = (eb, false) := by simp [valAt, e1]
    show _ = (valAt s k t).2 ∧ (_ → _ = (valAt s k t).1)
    rw [e2]
    exact ⟨rfl, fun h => by cases h⟩
  · obtain ⟨ek, et⟩ := fits_iff.1 hbest.fit
    have hm : y.l[b].t ∈ momsOf y.l k := mem_moms.2 ⟨_, List.getElem_mem hb, ek, rfl⟩
    obtain ⟨z, e, hz, hle⟩ := last_top hup (x := y.l[b].t) (List.mem_filter.2 ⟨hm, by simpa using et⟩)
    obtain ⟨hz1, hz2⟩ := List.mem_filter.1 hz
    obtain ⟨v, hv, e1, e2⟩ := mem_moms.1 hz1
    obtain ⟨j, hj, rfl⟩ := List.getElem_of_mem hv
    have hz3 : z ≤ t := by simpa using hz2
    have h5 := hbest.top j hj hj (fits_iff.2 ⟨e1, by omega⟩)
    have hzb : z = y.l[b].t := by omega
    have hv := ver_at hy.up hb
    rw [ek] at hv
    have e2 : valAt s k t = (y.l[b].s, !y.l[b].gone) := by
      unfold valAt
      rw [h.mom, e, hzb]
      simp only [h.ver, hv]
    show _ = (valAt s k t).2 ∧ (_ → _ = (valAt s k t).1)
    rw [e2]
    rcases ha with ⟨hg, rfl⟩ | ⟨hg, rfl⟩
    · exact ⟨by simp [hg], fun h => by cases h⟩
    · exact ⟨by simp [hg], fun _ => rfl⟩

theorem verOf_some {l : List YV} (h : l.Pairwise (fun a b => a.t ≤ b.t ∧ (a.t = b.t → a.key ≠ b.key))) {k : ByteArray} {m : Int} : (verOf l k m).isSome = true ↔ m ∈ momsOf l k := by
  rw [mem_moms]
  constructor
  · intro hs
    unfold verOf at hs
    rw [Option.isSome_map] at hs
    obtain ⟨v, hv⟩ := Option.isSome_iff_exists.1 hs
    have h1 : v.key = k ∧ v.t = m := by simpa using List.find?_some hv
    exact ⟨v, List.mem_of_find?_eq_some hv, h1⟩
  · rintro ⟨v, hv, rfl, rfl⟩
    obtain ⟨b, hb, rfl⟩ := List.getElem_of_mem hv
    rw [ver_at h hb]; rfl

theorem Tied.ok (h : Tied s y) (hy : YI y) : XOk s := by
  have hn := h.now
  refine ⟨by rw [hn]; exact hy.now, by rw [h.hor, hn]; exact hy.hor, by rw [h.begun]; omega, fun k => by rw [h.mom]; exact moms_up hy.up k, fun k m hm => ?_, fun k m => ?_, fun k hk => ?_, fun n t e => ?_, by rw [hn]; exact h.nm, by rw [hn]; exact h.nv, by rw [hn, h.hor]; exact h.lgl, h.lgb, h.sy⟩
  · rw [h.mom] at hm
    obtain ⟨v, hv, e1, e2⟩ := mem_moms.1 hm
    have := hy.ver v hv
    omega
  · rw [h.ver, h.mom]; exact verOf_some hy.up
  · rw [h.mom] at hk
    obtain ⟨v, hv, e1⟩ := moms_ne.1 hk
    rw [← e1]; exact (hy.ver v hv).2.2
  · rw [h.txs] at e
    obtain ⟨j, rfl, hj, ho, rfl⟩ := txOf_some e
    have ht := hy.txs _ (List.getElem_mem hj)
    have hp := hy.pin _ (List.getElem_mem hj) ho
    refine ⟨⟨by omega, by rw [h.begun]; omega⟩, ⟨by rw [h.hor]; exact hp, by rw [hn]; exact ht.sees.2⟩, ht.len, fun k hk => ?_, fun k hk => ?_, fun k v hk => ?_⟩
    · obtain ⟨v, hv, rfl⟩ := wrOf_mem.1 hk
      exact (ht.ok v hv).1
    · obtain ⟨v, hv, _⟩ := wrOf_mem.1 hk
      exact List.length_pos_of_mem hv
    · obtain ⟨u, hu, _, rfl⟩ := wrOf_val hk
      exact (ht.ok u hu).2

theorem pin_iff (h : Tied s y) (t : Int) : pinX s t ↔ PinY y t := by
  constructor
  · rintro (⟨n, x, e, hlt⟩ | ⟨n, b, e, _⟩)
    · rw [h.txs] at e
      obtain ⟨j, rfl, hj, ho, rfl⟩ := txOf_some e
      exact ⟨j, hj, ho, hlt⟩
    · rw [h.nob] at e; cases e
  · rintro ⟨j, hj, ho, hlt⟩
    exact Or.inl ⟨(j : Int) + 1, xtOf y.txs[j], by rw [h.txs, txOf_at hj ho], hlt⟩

theorem Tied.retained (h : Tied s y) (t : Int) (h1 : ¬ t < y.hor) {l : XL} (hl : l.lg = if s.hor < t then s.log.lg ++ [bodyH t.toNat] else s.log.lg) (hs : l.sy = s.log.sy) : Tied { s with hor := t, log := l } (horY y t) := by
  have hh := h.hor
  refine ⟨h.now, h.begun, fun n => h.txs n, h.nopen, h.mom, h.ver, h.nv, h.nm, rfl, ?_, ?_, ?_, h.nob, ?_, ?_, ?_⟩
  · have h3 := h.lgl
    show (l.lg.length : Int) ≤ y.now + t
    rw [hl]
    split
    · simp; omega
    · omega
  · intro b hb
    have hb' : b ∈ l.lg := hb
    rw [hl] at hb'
    split at hb'
    · rcases List.mem_append.1 hb' with h3 | h3
      · exact h.lgb b h3
      · simp at h3; subst h3; rw [bodyH_length]; omega
    · exact h.lgb b hb'
  · show l.sy ≤ bytesOf (filesB l.lg)
    rw [hl, hs]
    split
    · exact Nat.le_trans h.sy (bytesOf_snoc _ _)
    · exact h.sy
  · show (if y.hor < t then y.lg ++ [bodyH t.toNat] else y.lg) = l.lg
    rw [hl, h.hor, h.lg]
  · show y.syn = (l.sy : Int)
    rw [hs]
    exact h.syn
  · show ∀ b ∈ (if y.hor < t then y.lg ++ [bodyH t.toNat] else y.lg), b ≠ []
    intro b hb
    split at hb
    · rcases List.mem_append.1 hb with h3 | h3
      · exact h.lgn b h3
      · simp at h3; subst h3; simp [bodyH]
    · exact h.lgn b hb

theorem YI.retained (hy : YI y) {t : Int} (h1 : ¬ t < y.hor) (h2 : ¬ y.now < t) (hp : ¬ PinY y t) : YI (horY y t) := by
  have hh := hy.hor
  refine ⟨hy.now, hy.len, hy.ver, hy.up, hy.txs, hy.opn, ⟨by show 0 ≤ t; omega, by show t ≤ y.now; omega⟩, fun x hx ho => ?_, hy.bku, ?_⟩
  · obtain ⟨j, hj, rfl⟩ := List.getElem_of_mem hx
    have hnl : ¬ (y.txs[j]).sees < t := fun hlt => hp ⟨j, hj, ho, hlt⟩
    show t ≤ (y.txs[j]).sees
    omega
  · show LgV (if y.hor < t then y.lg ++ [bodyH t.toNat] else y.lg) t y.now
    by_cases q : y.hor < t
    · rw [if_pos q]
      exact hy.lgv.horizon hh.1 q (by omega)
    · rw [if_neg q, show t = y.hor by omega]
      exact hy.lgv

theorem keys_cover : ∀ l : List YV, ∃ ks : List ByteArray, ks.Nodup ∧ (∀ v ∈ l, v.key ∈ ks)
  | [] => ⟨[], List.nodup_nil, fun v hv => by cases hv⟩
  | a :: r => by
    obtain ⟨ks, h1, h2⟩ := keys_cover r
    by_cases h : a.key ∈ ks
    · exact ⟨ks, h1, fun v hv => by
        rcases List.mem_cons.1 hv with rfl | hv
        · exact h
        · exact h2 v hv⟩
    · exact ⟨a.key :: ks, List.nodup_cons.2 ⟨h, h1⟩, fun v hv => by
        rcases List.mem_cons.1 hv with rfl | hv
        · simp
        · exact List.mem_cons_of_mem _ (h2 v hv)⟩

theorem sum_ind (a : ByteArray → Nat) (K : ByteArray) : ∀ ks : List ByteArray, ks.Nodup → K ∈ ks → (ks.map fun k => a k + if K = k then 1 else 0).sum = (ks.map a).sum + 1
  | k :: r, hn, hm => by
    obtain ⟨h1, h2⟩ := List.nodup_cons.1 hn
    simp only [List.map_cons, List.sum_cons]
    rcases List.mem_cons.1 hm with e | hm
    · subst e
      have : (r.map fun k => a k + if K = k then 1 else 0) = r.map a := List.map_congr_left (fun k hk => by
        have : ¬ K = k := fun e => h1 (e ▸ hk)
        simp [this])
      rw [this]; simp; omega
    · have hne : ¬ K = k := fun e => h1 (e ▸ hm)
      rw [sum_ind a K r h2 hm]; simp [hne]; omega

theorem zero_sum : ∀ ks : List ByteArray, (ks.map fun _ => 0).sum = 0
  | [] => rfl
  | _ :: r => by rw [List.map_cons, List.sum_cons, zero_sum r]

theorem moms_sum : ∀ (l : List YV) (ks : List ByteArray), ks.Nodup → (∀ v ∈ l, v.key ∈ ks) → (ks.map fun k => (momsOf l k).length).sum = l.length
  | [], ks, _, _ => by
    have : (ks.map fun k => (momsOf [] k).length) = ks.map fun _ => 0 := rfl
    rw [this]
    exact zero_sum ks
  | a :: r, ks, hn, hc => by
    have e : ∀ k, (momsOf (a :: r) k).length = (momsOf r k).length + if a.key = k then 1 else 0 := fun k => by
      unfold momsOf
      by_cases h : a.key = k
      · rw [List.filter_cons_of_pos (by simpa using h)]; simp [h]
      · rw [List.filter_cons_of_neg (by simpa using h)]; simp [h]
    simp only [e]
    rw [sum_ind _ _ ks hn (hc a (by simp)), moms_sum r ks hn (fun v hv => hc v (List.mem_cons_of_mem _ hv))]
    rfl

theorem Tied.count {own : Nat → Lab} {c : Nat} {w : World} {p mo ph mv mm : Nat} {pt mw : Int → Nat} {sl : ByteArray → Value} (h : Tied s y) (hy : YI y) (X : XR own c w p s mo ph mv mm pt mw sl) : s.nv = y.l.length := by
  obtain ⟨ks, h1, h2⟩ := keys_cover y.l
  have ok := h.ok hy
  rw [X.nv_eq kPlace ok.up ok.ver ks h1 (fun k hk => by
    rw [h.mom] at hk
    obtain ⟨v, hv, e⟩ := moms_ne.1 hk
    rw [← e]; exact h2 v hv), ← moms_sum y.l ks h1 h2]
  congr 1
  exact List.map_congr_left (fun k _ => by rw [h.mom])

/-- The program's plain state as a document's list of versions tells it. -/
structure VerY (s : XS) (y : YS) : Prop where
  mom : ∀ k, s.mom k = momsOf y.l k
  ver : ∀ k m, s.ver k m = verOf y.l k m
  hor : s.hor = y.hor

theorem sorted_head {l : List Int} (h : l.Pairwise (· < ·)) {m0 : Int} {r : List Int} (e : l = m0 :: r) : ∀ m ∈ l, m0 ≤ m := by
  subst e
  intro m hm
  rcases List.mem_cons.1 hm with rfl | hm
  · exact Int.le_refl _
  · have := (List.pairwise_cons.1 h).1 m hm; omega

theorem VerY.gone (h : VerY s y) (hy : YI y) {v : YV} (hv : v ∈ y.l) : s.ver v.key v.t = some (v.s, v.gone) := by
  obtain ⟨b, hb, rfl⟩ := List.getElem_of_mem hv
  rw [h.ver, ver_at hy.up hb]

/-- The first version of a key of which one may go may go. -/
theorem may_first (h : VerY s y) (hy : YI y) (ok : XOk s) {k : ByteArray} (hp : 0 < spentX s k s.hor) : ∃ v ∈ y.l, v.key = k ∧ MayY y v ∧ ∀ v' ∈ y.l, v'.key = k → v.t ≤ v'.t := by
  cases hm : s.mom k with
  | nil => rw [spentX_nil hm] at hp; omega
  | cons m0 r =>
    have hhead := sorted_head (ok.up k) hm
    obtain ⟨v, hv, ek, et⟩ := mem_moms.1 (show m0 ∈ momsOf y.l k by rw [← h.mom, hm]; simp)
    have hfirst : ∀ v' ∈ y.l, v'.key = k → v.t ≤ v'.t := fun v' hv' e => by
      rw [et]
      exact hhead _ (by rw [h.mom]; exact mem_moms.2 ⟨v', hv', e, rfl⟩)
    refine ⟨v, hv, ek, ?_, hfirst⟩
    have hft := filter_take (s.mom k) s.hor (ok.up k)
    unfold spentX at hp
    cases e : ((s.mom k).filter (fun m => decide (m ≤ s.hor))).getLast? with
    | none => rw [e] at hp; simp at hp
    | some m =>
      rw [e] at hp
      simp only at hp
      obtain ⟨hm1, hm2⟩ := List.mem_filter.1 (List.mem_of_getLast? e)
      have hmh : m ≤ s.hor := by simpa using hm2
      have hle := hhead m hm1
      by_cases hlt : m0 < m
      · obtain ⟨v', hv', ek', et'⟩ := mem_moms.1 (show m ∈ momsOf y.l k by rw [← h.mom]; exact hm1)
        refine Or.inl ⟨v', hv', by rw [ek', ek], by omega, ?_⟩
        have := h.hor; omega
      · have hme : m = m0 := by omega
        have hcnt : (s.mom k).countP (fun m => decide (m ≤ s.hor)) ≤ 1 := by
          rw [List.countP_eq_length_filter]
          have hup := (ok.up k).filter (fun m => decide (m ≤ s.hor))
          cases hF : (s.mom k).filter (fun m => decide (m ≤ s.hor)) with
          | nil => simp
          | cons a q =>
            cases q with
            | nil => simp
            | cons b q' =>
              rw [hF] at hup e
              have ha : a ∈ s.mom k := (List.mem_filter.1 (show a ∈ (s.mom k).filter _ by rw [hF]; simp)).1
              have h0 := hhead a ha
              have hlast : m ∈ b :: q' := by
                rw [List.getLast?_cons_cons] at e
                exact List.mem_of_getLast? e
              have := (List.pairwise_cons.1 hup).1 m hlast
              omega
        have hd : ((s.ver k m).getD (eb, false)).2 = true := by
          cases hd : ((s.ver k m).getD (eb, false)).2
          · rw [hd] at hp; simp at hp; omega
          · rfl
        have hv' := h.gone hy hv
        rw [ek, et, ← hme] at hv'
        rw [hv'] at hd
        refine Or.inr ⟨hd, by have := h.hor; omega, fun v' hv' e => ?_⟩
        have := hfirst v' hv' (e.trans ek)
        omega

theorem may_spent (h : VerY s y) (hy : YI y) (ok : XOk s) {v : YV} (hv : v ∈ y.l) (hm : MayY y v) : 0 < spentX s v.key s.hor := by
  have hmem : v.t ∈ s.mom v.key := by rw [h.mom]; exact mem_moms.2 ⟨v, hv, rfl, rfl⟩
  have hup := (ok.up v.key).filter (fun m => decide (m ≤ s.hor))
  have hhor := h.hor
  have inF : ∀ v' ∈ y.l, v'.key = v.key → v'.t ≤ s.hor → v'.t ∈ (s.mom v.key).filter (fun m => decide (m ≤ s.hor)) := fun v' hv' e hl =>
    List.mem_filter.2 ⟨by rw [h.mom]; exact mem_moms.2 ⟨v', hv', e, rfl⟩, by simpa using hl⟩
  unfold spentX
  rw [List.countP_eq_length_filter]
  have two : ∀ {F : List Int} {a b : Int}, F.Pairwise (· < ·) → a ∈ F → b ∈ F → a < b → 2 ≤ F.length := fun {F a b} _ ha hb hab => by
    cases F with
    | nil => cases ha
    | cons x q =>
      cases q with
      | nil =>
        simp at ha hb
        omega
      | cons _ _ => simp
  cases e : ((s.mom v.key).filter (fun m => decide (m ≤ s.hor))).getLast? with
  | none =>
    exfalso
    have hnil := List.getLast?_eq_none_iff.1 e
    rcases hm with ⟨v', hv', e1, h1, h2⟩ | ⟨_, h2, _⟩
    · have := inF v' hv' e1 (by omega)
      rw [hnil] at this; cases this
    · have := inF v hv rfl (by omega)
      rw [hnil] at this; cases this
  | some m =>
    simp only
    rcases hm with ⟨v', hv', e1, h1, h2⟩ | ⟨hg, h2, hf⟩
    · have := two hup (inF v hv rfl (by omega)) (inF v' hv' e1 (by omega)) h1
      split <;> omega
    · have hvF := inF v hv rfl (by omega)
      have hmF := List.mem_of_getLast? e
      by_cases hmt : m = v.t
      · rw [hmt, h.gone hy hv]
        simp only [Option.getD_some, hg, if_true]
        exact List.length_pos_of_mem hvF
      · obtain ⟨z, e2, _, hle⟩ := last_top hup hvF
        rw [e] at e2
        injection e2 with e2
        have := two hup hvF hmF (by omega)
        split <;> omega

theorem best_is (h : VerY s y) (hy : YI y) (ok : XOk s) {b : Nat} (hb : BestV y y.l.length b) (hbl : b < y.l.length) : 0 < spentX s (y.l[b]).key s.hor ∧ (∀ v' ∈ y.l, v'.key = (y.l[b]).key → (y.l[b]).t ≤ v'.t) ∧ ∀ k, blt k (y.l[b]).key → spentX s k s.hor = 0 := by
  have hp := may_spent h hy ok (List.getElem_mem hbl) hb.may
  refine ⟨hp, ?_, fun k hk => ?_⟩
  · obtain ⟨v, hv, ek, hm, hf⟩ := may_first h hy ok hp
    obtain ⟨j, hj, rfl⟩ := List.getElem_of_mem hv
    have := hb.top j hj hj hm
    have hle : (y.l[b]).t ≤ (y.l[j]).t := by
      have hnl : ¬ (y.l[j]).t < (y.l[b]).t := fun hlt => this (Or.inr ⟨ek, hlt⟩)
      omega
    intro v' hv' e
    have := hf v' hv' e
    omega
  · have hn : ¬ 0 < spentX s k s.hor := fun hp' => by
      obtain ⟨v, hv, ek, hm, _⟩ := may_first h hy ok hp'
      obtain ⟨j, hj, rfl⟩ := List.getElem_of_mem hv
      exact hb.top j hj hj hm (Or.inl (by rw [ek]; exact hk))
    omega

theorem none_is (h : VerY s y) (hy : YI y) (ok : XOk s) (hn : NoneV y y.l.length) (k : ByteArray) : spentX s k s.hor = 0 := by
  have hn : ¬ 0 < spentX s k s.hor := fun hp => by
    obtain ⟨v, hv, ek, hm, _⟩ := may_first h hy ok hp
    obtain ⟨j, hj, rfl⟩ := List.getElem_of_mem hv
    exact hn j hj hj hm
  omega

theorem YI.erased (hy : YI y) (b : Nat) : YI { y with l := y.l.eraseIdx b } := by
  have hs : (y.l.eraseIdx b).Sublist y.l := List.eraseIdx_sublist _ _
  refine ⟨hy.now, ?_, fun v hv => hy.ver v (hs.subset hv), hy.up.sublist hs, hy.txs, hy.opn, hy.hor, hy.pin, hy.bku, hy.lgv⟩
  have := hs.length_le
  have := hy.len
  show ((y.l.eraseIdx b).length : Int) ≤ 10 * y.now
  omega

theorem moms_erase : ∀ {l : List YV} {b : Nat} (hb : b < l.length) (k : ByteArray), l.Pairwise (fun a b => a.t ≤ b.t ∧ (a.t = b.t → a.key ≠ b.key)) → (∀ v' ∈ l, v'.key = (l[b]).key → (l[b]).t ≤ v'.t) →
    momsOf (l.eraseIdx b) k = if k = (l[b]).key then (momsOf l k).drop 1 else momsOf l k
  | a :: r, 0, _, k, _, _ => by
    show momsOf r k = if k = a.key then (momsOf (a :: r) k).drop 1 else momsOf (a :: r) k
    by_cases h : k = a.key
    · rw [if_pos h]
      unfold momsOf
      rw [List.filter_cons_of_pos (by simp [h])]
      rfl
    · rw [if_neg h]
      unfold momsOf
      rw [List.filter_cons_of_neg (by simp; exact fun e => h e.symm)]
  | a :: r, b + 1, hb, k, hu, hf => by
    have hb' : b < r.length := by simpa using hb
    obtain ⟨h1, h2⟩ := List.pairwise_cons.1 hu
    have ih := moms_erase hb' k h2 (fun v' hv' e => hf v' (List.mem_cons_of_mem _ hv') e)
    have hne : a.key ≠ (r[b]).key := fun e => by
      have h3 := hf a (by simp) e
      have h4 := h1 r[b] (List.getElem_mem hb')
      have h5 : (r[b]).t ≤ a.t := h3
      exact h4.2 (by omega) e
    show momsOf (a :: r.eraseIdx b) k = if k = (r[b]).key then (momsOf (a :: r) k).drop 1 else momsOf (a :: r) k
    by_cases hk : k = (r[b]).key
    · rw [if_pos hk] at ih ⊢
      have hak : ¬ a.key = k := fun e => hne (e.trans hk)
      unfold momsOf at ih ⊢
      rw [List.filter_cons_of_neg (by simpa using hak), List.filter_cons_of_neg (by simpa using hak)]
      exact ih
    · rw [if_neg hk] at ih ⊢
      unfold momsOf at ih ⊢
      by_cases hak : a.key = k
      · rw [List.filter_cons_of_pos (by simpa using hak), List.filter_cons_of_pos (by simpa using hak), List.map_cons, List.map_cons, ih]
      · rw [List.filter_cons_of_neg (by simpa using hak), List.filter_cons_of_neg (by simpa using hak), ih]

theorem ver_erase : ∀ {l : List YV} {b : Nat} (hb : b < l.length) (k : ByteArray) (m : Int), l.Pairwise (fun a b => a.t ≤ b.t ∧ (a.t = b.t → a.key ≠ b.key)) →
    verOf (l.eraseIdx b) k m = if k = (l[b]).key ∧ m = (l[b]).t then none else verOf l k m
  | a :: r, 0, _, k, m, hu => by
    obtain ⟨h1, h2⟩ := List.pairwise_cons.1 hu
    show verOf r k m = if k = a.key ∧ m = a.t then none else verOf (a :: r) k m
    by_cases h : k = a.key ∧ m = a.t
    · rw [if_pos h]
      unfold verOf
      rw [List.find?_eq_none.2]; rfl
      intro v hv
      have h3 := h1 v hv
      simp only [decide_eq_true_eq]
      rintro ⟨e1, e2⟩
      exact h3.2 (by rw [e2, h.2]) (by rw [e1, h.1])
    · rw [if_neg h]
      unfold verOf
      rw [List.find?_cons_of_neg (by simp only [decide_eq_true_eq]; exact fun ⟨e1, e2⟩ => h ⟨e1.symm, e2.symm⟩)]
  | a :: r, b + 1, hb, k, m, hu => by
    have hb' : b < r.length := by simpa using hb
    obtain ⟨h1, h2⟩ := List.pairwise_cons.1 hu
    have ih := ver_erase hb' k m h2
    show verOf (a :: r.eraseIdx b) k m = if k = (r[b]).key ∧ m = (r[b]).t then none else verOf (a :: r) k m
    unfold verOf at ih ⊢
    by_cases hak : a.key = k ∧ a.t = m
    · have hn : ¬ (k = (r[b]).key ∧ m = (r[b]).t) := fun ⟨e1, e2⟩ => (h1 r[b] (List.getElem_mem hb')).2 (by rw [hak.2, e2]) (by rw [hak.1, e1])
      rw [if_neg hn, List.find?_cons_of_pos (by simpa using hak), List.find?_cons_of_pos (by simpa using hak)]
    · rw [List.find?_cons_of_neg (by simpa using hak), List.find?_cons_of_neg (by simpa using hak), ih]

/-- The first ones go first, key by key. -/
def Greedy (s : XS) (h : Int) (c : ByteArray → Nat) : Prop := ∀ k1 k2, blt k1 k2 → 0 < c k2 → c k1 = spentX s k1 h

theorem updS_sum (c : ByteArray → Nat) (k : ByteArray) : ∀ ks : List ByteArray, ks.Nodup → k ∈ ks → (ks.map (updS c k (c k + 1))).sum = (ks.map c).sum + 1 := fun ks hn hm => by
  have : (ks.map (updS c k (c k + 1))) = ks.map fun a => c a + if k = a then 1 else 0 := List.map_congr_left (fun a _ => by
    by_cases e : a = k
    · subst e; rw [updS_same]; simp
    · rw [updS_other _ e]
      have : ¬ k = a := fun e' => e e'.symm
      simp [this])
  rw [this]
  exact sum_ind c k ks hn hm

theorem vacY_char (h : VerY s y) (hy : YI y) (ok : XOk s) {ks : List ByteArray} (hnd : ks.Nodup) (hks : ∀ k, 0 < spentX s k s.hor → k ∈ ks) {n : Nat} : ∀ {y' : YS}, VacY n y y' →
    ∃ c, Gone s { s with mom := momsOf y'.l, ver := verOf y'.l } s.hor c ∧ Greedy s s.hor c ∧ (ks.map c).sum = n ∧ YI y' ∧ y'.now = y.now ∧ y'.hor = y.hor ∧ y'.txs = y.txs := by
  induction n with
  | zero =>
    intro y' hv
    have hv : y' = y := hv
    subst hv
    refine ⟨fun _ => 0, ⟨rfl, rfl, rfl, rfl, rfl, rfl, rfl, Nat.le_refl _, Nat.le_refl _, fun _ => Nat.zero_le _, fun k => (h.mom k).symm, fun k m => ?_⟩, fun _ _ _ h => absurd h (Nat.lt_irrefl 0), ?_, hy, rfl, rfl, rfl⟩
    · simp; exact (h.ver k m).symm
    · clear hnd hks
      induction ks with
      | nil => rfl
      | cons a r ih => rw [List.map_cons, List.sum_cons, ih]
  | succ n ih =>
    rintro y' ⟨y1, b, hv, hb, rfl⟩
    obtain ⟨c, g, hg, hs, hy1, e1, e2, e3⟩ := ih hv
    have ok1 : XOk { s with mom := momsOf y1.l, ver := verOf y1.l } := ok.gone g
    have hV1 : VerY { s with mom := momsOf y1.l, ver := verOf y1.l } y1 := ⟨fun _ => rfl, fun _ _ => rfl, h.hor.trans e2.symm⟩
    have hbl := hb.lt
    obtain ⟨p1, p2, p3⟩ := best_is hV1 hy1 ok1 hb hbl
    have hm1 := g.mom (y1.l[b]).key
    have hsp := fun k => g.spent ok k
    have hck : c (y1.l[b]).key < spentX s (y1.l[b]).key s.hor := by
      have := hsp (y1.l[b]).key
      have hp : 0 < spentX { s with mom := momsOf y1.l, ver := verOf y1.l } (y1.l[b]).key s.hor := p1
      omega
    -- its moment is the first that is left
    have hhead : ∃ r, momsOf y1.l (y1.l[b]).key = (y1.l[b]).t :: r := by
      have hmem : (y1.l[b]).t ∈ momsOf y1.l (y1.l[b]).key := mem_moms.2 ⟨_, List.getElem_mem hbl, rfl, rfl⟩
      cases hm : momsOf y1.l (y1.l[b]).key with
      | nil => rw [hm] at hmem; cases hmem
      | cons m0 r =>
        obtain ⟨v, hv, ek, et⟩ := mem_moms.1 (show m0 ∈ momsOf y1.l (y1.l[b]).key by rw [hm]; simp)
        have h1 := p2 v hv ek
        have h2 := sorted_head (moms_up hy1.up _) hm _ hmem
        have : m0 = (y1.l[b]).t := by omega
        exact ⟨r, by rw [this]⟩
    obtain ⟨r, hr⟩ := hhead
    have hdrop : (s.mom (y1.l[b]).key).drop (c (y1.l[b]).key) = (y1.l[b]).t :: r := by rw [← hm1]; exact hr
    have htake : (s.mom (y1.l[b]).key).take (c (y1.l[b]).key + 1) = (s.mom (y1.l[b]).key).take (c (y1.l[b]).key) ++ [(y1.l[b]).t] := by
      rw [List.take_add, hdrop]; rfl
    refine ⟨updS c (y1.l[b]).key (c (y1.l[b]).key + 1), ⟨rfl, rfl, rfl, rfl, rfl, rfl, rfl, Nat.le_refl _, Nat.le_refl _, fun k => ?_, fun k => ?_, fun k m => ?_⟩, fun k1 k2 hb12 hc2 => ?_, ?_, hy1.erased b, e1, e2, e3⟩
    · by_cases e : k = (y1.l[b]).key
      · rw [e, updS_same]; omega
      · rw [updS_other _ e]; exact g.le k
    · show momsOf (y1.l.eraseIdx b) k = _
      rw [moms_erase hbl k hy1.up p2]
      by_cases e : k = (y1.l[b]).key
      · rw [if_pos e, e, updS_same, ← List.drop_drop, ← g.mom]
      · rw [if_neg e, updS_other _ e, ← g.mom]
    · show verOf (y1.l.eraseIdx b) k m = _
      rw [ver_erase hbl k m hy1.up]
      have hgv : verOf y1.l k m = if m ∈ (s.mom k).take (c k) then none else s.ver k m := g.ver k m
      by_cases e : k = (y1.l[b]).key
      · subst e
        rw [updS_same, htake]
        by_cases em : m = (y1.l[b]).t
        · rw [if_pos ⟨rfl, em⟩, if_pos (by rw [em]; simp)]
        · rw [if_neg (fun h => em h.2), hgv]
          simp [em]
      · rw [if_neg (fun h => e h.1), updS_other _ e]
        exact hgv
    · by_cases e2 : k2 = (y1.l[b]).key
      · subst e2
        have hne : k1 ≠ (y1.l[b]).key := fun e => blt_irrefl _ (e ▸ hb12)
        rw [updS_other _ hne]
        have h0 : spentX { s with mom := momsOf y1.l, ver := verOf y1.l } k1 s.hor = 0 := p3 k1 hb12
        have := hsp k1
        have := g.le k1
        omega
      · rw [updS_other _ e2] at hc2
        have h1 := hg k1 k2 hb12 hc2
        have hne : k1 ≠ (y1.l[b]).key := fun e => by
          rw [e] at h1; omega
        rw [updS_other _ hne]; exact h1
    · rw [updS_sum c _ ks hnd (hks _ (by omega)), hs]

theorem greedy_le {h : Int} {c d : ByteArray → Nat} (hc : ∀ k, c k ≤ spentX s k h) (hd : ∀ k, d k ≤ spentX s k h) (gc : Greedy s h c) (gd : Greedy s h d) {k : ByteArray} (hk : c k < d k) : ∀ a, c a ≤ d a := fun a => by
  by_cases e : a = k
  · subst e; omega
  · rcases blt_total e with hb | hb
    · have := gd a k hb (by omega)
      have := hc a
      omega
    · have h0 : ¬ 0 < c a := fun h => by
        have := gc k a hb h
        have := hd k
        omega
      omega

theorem sum_lt {c d : ByteArray → Nat} : ∀ {ks : List ByteArray}, (∀ k ∈ ks, c k ≤ d k) → (∃ k ∈ ks, c k < d k) → (ks.map c).sum < (ks.map d).sum
  | [], _, h => by obtain ⟨k, hk, _⟩ := h; cases hk
  | a :: r, hle, h => by
    simp only [List.map_cons, List.sum_cons]
    have ha := hle a (by simp)
    have hr : ∀ k ∈ r, c k ≤ d k := fun k hk => hle k (List.mem_cons_of_mem _ hk)
    have hsum : ∀ l : List ByteArray, (∀ k ∈ l, c k ≤ d k) → (l.map c).sum ≤ (l.map d).sum := fun l => by
      induction l with
      | nil => intro _; simp
      | cons x q ih =>
        intro hq
        simp only [List.map_cons, List.sum_cons]
        have := ih (fun k hk => hq k (List.mem_cons_of_mem _ hk))
        have := hq x (by simp)
        omega
    obtain ⟨k, hk, hlt⟩ := h
    rcases List.mem_cons.1 hk with e | hk
    · subst e
      have := hsum r hr
      omega
    · have := sum_lt hr ⟨k, hk, hlt⟩
      omega

theorem greedy_same {h : Int} {c d : ByteArray → Nat} (hc : ∀ k, c k ≤ spentX s k h) (hd : ∀ k, d k ≤ spentX s k h) (gc : Greedy s h c) (gd : Greedy s h d) {ks : List ByteArray} (hks : ∀ k, 0 < spentX s k h → k ∈ ks) (hsum : (ks.map c).sum = (ks.map d).sum) : c = d := by
  funext k
  have no : ∀ {c d : ByteArray → Nat}, (∀ k, c k ≤ spentX s k h) → (∀ k, d k ≤ spentX s k h) → Greedy s h c → Greedy s h d → (ks.map c).sum = (ks.map d).sum → ¬ c k < d k := fun hc hd gc gd hs hlt => by
    have hle := greedy_le hc hd gc gd hlt
    have := sum_lt (ks := ks) (fun a _ => hle a) ⟨k, hks k (by have := hd k; omega), hlt⟩
    omega
  have h1 := no hc hd gc gd hsum
  have h2 := no hd hc gd gc hsum.symm
  omega

theorem sum_mono {c d : ByteArray → Nat} : ∀ (l : List ByteArray), (∀ k ∈ l, c k ≤ d k) → (l.map c).sum ≤ (l.map d).sum
  | [], _ => by simp
  | x :: q, hq => by
    simp only [List.map_cons, List.sum_cons]
    have := sum_mono q (fun k hk => hq k (List.mem_cons_of_mem _ hk))
    have := hq x (by simp)
    omega

/-- Of both the same versions go. -/
theorem vac_tied (h : Tied s y) (hy : YI y) {most : Int} {ks : List ByteArray} (hs : ks.Pairwise blt) (hmem : ∀ k, k ∈ ks ↔ 0 < spentX s k s.hor) {n : Nat} {y' : YS} (hv : VacY n y y') (hn1 : (n : Int) ≤ most ∨ n = 0) (hn2 : (n : Int) < most → NoneV y' y'.l.length) :
    (vacGo s.hor most ks s 0).2 = n ∧ Tied (vacGo s.hor most ks s 0).1 y' ∧ YI y' ∧ y'.txs = y.txs ∧ y'.now = y.now ∧ y'.hor = y.hor := by
  have ok := h.ok hy
  have hV : VerY s y := ⟨h.mom, h.ver, h.hor⟩
  have hnd : ks.Nodup := by
    unfold List.Nodup
    exact hs.imp (fun {a b} hab e => by subst e; exact blt_irrefl _ hab)
  obtain ⟨d, gd, hgd, hsd, hy', e1, e2, e3⟩ := vacY_char hV hy ok hnd (fun k hk => (hmem k).2 hk) hv
  obtain ⟨c, gc, h0, h1, h2, h3, h4⟩ := vac_char s.hor most ks s 0 hs (fun k hk => (hmem k).1 hk)
  generalize vacGo s.hor most ks s 0 = r at gc h1 h2 h3 ⊢
  have hgc : Greedy s s.hor c := fun k1 k2 hb hc2 => by
    by_cases hk : k1 ∈ ks
    · exact h4 k1 k2 hk hb hc2
    · have : ¬ 0 < spentX s k1 s.hor := fun h => hk ((hmem k1).2 h)
      rw [h0 k1 hk]; omega
  -- as many
  have hT1 := sum_mono ks (fun k _ => gc.le k)
  have hT2 := sum_mono ks (fun k _ => gd.le k)
  have hall1 : r.2 < most → (ks.map c).sum = (ks.map fun k => spentX s k s.hor).sum := fun hlt => by
    congr 1
    exact List.map_congr_left (fun k hk => h3 hlt k hk)
  have hall2 : (n : Int) < most → (ks.map d).sum = (ks.map fun k => spentX s k s.hor).sum := fun hlt => by
    congr 1
    refine List.map_congr_left (fun k _ => ?_)
    have ok' := ok.gone gd
    have hz := none_is (s := { s with mom := momsOf y'.l, ver := verOf y'.l }) ⟨fun _ => rfl, fun _ _ => rfl, h.hor.trans e2.symm⟩ hy' ok' (hn2 hlt) k
    have hz' : spentX { s with mom := momsOf y'.l, ver := verOf y'.l } k s.hor = 0 := hz
    have := gd.spent ok k
    have := gd.le k
    omega
  have hrn : r.2 = n := by
    rw [h1] at h2 hall1 ⊢
    by_cases hA : (0 : Int) + ((ks.map c).sum : Nat) < most
    · have := hall1 hA
      by_cases hB : (n : Int) < most
      · have := hall2 hB; omega
      · omega
    · by_cases hB : (n : Int) < most
      · have := hall2 hB; omega
      · omega
  have hcd : c = d := greedy_same (ks := ks) gc.le gd.le hgc hgd (fun k hk => (hmem k).2 hk) (by rw [h1] at hrn; omega)
  subst hcd
  refine ⟨hrn, ⟨by rw [gc.now, e1]; exact h.now, by rw [gc.begun, e3]; exact h.begun, fun m => ?_, by rw [gc.nopen, e3]; exact h.nopen, fun k => ?_, fun k m => ?_, ?_, ?_, by rw [gc.hor, e2]; exact h.hor, by rw [gc.log, e1, e2]; exact h.lgl, by rw [gc.log]; exact h.lgb, by rw [gc.log]; exact h.sy, by rw [gc.bk]; exact h.nob, by rw [gc.log, hv.same.1]; exact h.lg, by rw [gc.log, hv.same.2]; exact h.syn, by rw [hv.same.1]; exact h.lgn⟩, hy', e3, e1, e2⟩
  · rw [gc.txs, h.txs]
    unfold txOf thereY
    rw [e3]
  · rw [gc.mom]; exact (gd.mom k).symm
  · rw [gc.ver]; exact (gd.ver k m).symm
  · have := gc.nv; have := h.nv; rw [e1]; omega
  · have := gc.nm; have := h.nm; rw [e1]; omega

end

end Go.Proofs.YthbdpfccfcceiaaGreatDoor
