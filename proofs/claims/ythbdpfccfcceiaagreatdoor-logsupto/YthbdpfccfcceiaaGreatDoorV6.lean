/-
  A key's first versions go: (*History).dropFirst, told of the store's plain state.
-/
import Derived.Test.YthbdpfccfcceiaaGreatDoorR14V1V3V4V5
import Derived.Test.YthbdpfccfcceiaaGreatDoorC2L1L2Q1Q2
import Derived.Deep.RegionLaw
namespace Go.Proofs.YthbdpfccfcceiaaGreatDoor
open Go.RowKit Go.Maps Go.Sort

theorem fmap.drop_get {P : Program} {k : TypeId} {w : World} {b n : Nat} {f : Value → Option Value} (h : fmap w P k b n f) {m : Nat} (e : n = m) : fmap w P k b m f := e ▸ h

section
variable {w : World}

theorem putInts_take (cur : Array Value) (d : List Int) (n : Nat) (hn : d.length = n) (hc : n ≤ cur.size) : (putCells (Value.int .i64) 0 d.toArray cur).toList.take n = d.map (Value.int .i64) := by
  apply List.ext_getElem?
  intro i
  rw [List.getElem?_take]
  by_cases hi : i < n
  · rw [if_pos hi, Array.getElem?_toList]
    simp only [putCells, Array.getElem?_mapIdx]
    rw [Array.getElem?_eq_getElem (by omega), List.getElem?_map, List.getElem?_eq_getElem (by omega)]
    simp [hn, hi]
  · rw [if_neg hi, List.getElem?_map, List.getElem?_eq_none (by omega)]; rfl

theorem heap_putInts {W : World} {g : Nat} {cur : Array Value} {e : TypeId} {fz : Nat × Nat} (h : W.heap[g]? = some (.cells cur e fz)) (d : Array Int) : (putRow (Value.int .i64) W g 0 d).heap[g]? = some (.cells (putCells (Value.int .i64) 0 d cur) e fz) := by
  simp [putRow, mapBlock, Array.getElem?_modify, h, onCells]

theorem heap_putInts_other {W : World} {g b : Nat} (h : b ≠ g) (d : Array Int) : (putRow (Value.int .i64) W g 0 d).heap[b]? = W.heap[b]? := by
  simp [putRow, mapBlock, Array.getElem?_modify, Ne.symm h]

theorem kp_putInts (w : World) (n g : Nat) (d : Array Int) : Kp (fun b => b = g) w (putRow (Value.int .i64) (Sort.ahead w n) g 0 d) := by
  refine ⟨rfl, rfl, rfl, by simp [putRow, mapBlock, Sort.ahead], fun b hb hne => ?_⟩
  rw [heap_putInts_other hne]; rfl

theorem holds_ints {zs : List Int} {g : Nat} {cur : Array Value} {e : TypeId} (hg : w.heap[g]? = some (.cells cur e (0, 0))) (ht : cur.toList.take zs.length = zs.map (Value.int .i64)) : Holds (Value.int .i64) w g 0 zs.toArray := by
  intro j hj
  simp at hj
  refine ⟨?_, by simp [World.frozen?, hg]⟩
  rw [Nat.zero_add, cell_of hg, ← Array.getElem?_toList]
  have h1 : (cur.toList.take zs.length)[j]? = (zs.map (Value.int .i64))[j]? := by rw [ht]
  rw [List.getElem?_take, if_pos hj, List.getElem?_map, List.getElem?_eq_getElem hj] at h1
  rw [h1]
  simp [hj]

/-- The first of a row go. -/
theorem delete_row {zs : List Int} {g cap n : Nat} (h : w.ownsRow 0 3 1 (.slice (some ⟨g, 0, none⟩) zs.length cap) zs.length (zs.map (Value.int .i64))) (hn : n ≤ zs.length) {R : Ending → World → Prop}
    (hR : ∀ w', Kp (fun b => b = g) w w' → w'.ownsRow 0 3 1 (.slice (some ⟨g, 0, none⟩) (zs.length - n) cap) (zs.length - n) ((zs.drop n).map (Value.int .i64)) → R (.returned (.slice (some ⟨g, 0, none⟩) (zs.length - n) cap)) w') :
    Calls Tryz.prog 135 #[.slice (some ⟨g, 0, none⟩) zs.length cap, .int .i64 0, .int .i64 n] w R := by
  rcases h.2 with ⟨h0, _⟩ | ⟨g', cap', cur, e, hb, hg, hnc, hm, hcs, ht⟩
  · cases h0
  · cases e
    rw [Nat.mul_one] at ht hcs
    have hc := Tryz.slices_Delete_int g 0 cap 0 n zs w (holds_ints hg ht) hnc (by unfold maxLen at hm; omega) (Nat.zero_le _) hn
    refine hc.mono ?_
    rintro e w' ⟨rfl, q, rfl⟩
    rw [Nat.sub_zero]
    refine hR _ (kp_putInts w q g _) ⟨by simp, Or.inr ⟨g, cap, _, rfl, hb, heap_putInts hg _, by omega, hm, by simp [putCells, hcs], ?_⟩⟩
    have h1 := putInts_take cur (zs.take 0 ++ zs.drop n ++ List.replicate (n - 0) 0) zs.length (by simp; omega) (by omega)
    rw [Nat.sub_zero] at h1
    rw [Nat.mul_one]
    have h2 : ∀ l : List Value, l.take (zs.length - n) = (l.take zs.length).take (zs.length - n) := fun l => by rw [List.take_take, Nat.min_eq_left (by omega)]
    rw [h2, h1]
    simp only [List.take_zero, List.nil_append, List.map_append]
    rw [List.take_left' (by simp)]

end

theorem del_encP (g : ByteArray → Int → Option Value) (k : ByteArray) (m : Int) : IsDel (encP g) (.agg #[.string k, .int .i64 m]) (encP (updP g k m none)) := by
  refine ⟨by simp [encP, updP], fun x hx => ?_⟩
  unfold encP
  split
  · rename_i cs
    split
    · rename_i s n hcs
      have : ¬ (s = k ∧ n = m) := fun ⟨e1, e2⟩ => hx (by
        subst e1; subst e2
        have : cs = #[.string s, .int .i64 n] := by apply Array.toList_inj.1; simpa using hcs
        rw [this])
      simp [updP, this]
    · rfl
  · rfl
theorem del_encS (g : ByteArray → Option Value) (k : ByteArray) : IsDel (encS g) (.string k) (encS (updS g k none)) := by
  refine ⟨by simp [encS, updS], fun x hx => ?_⟩
  cases x <;> simp [encS]
  rename_i s
  have : s ≠ k := fun e => hx (by rw [e])
  simp [updS, this]

section
variable {R : Ending → World → Prop}

set_option maxRecDepth 20000 in
set_option maxHeartbeats 1000000 in
theorem drop_walk (ph mv mm nm nv : Nat) (f : Value → Option Value) (fvd : Nat → Value → Option Value) (key : ByteArray) (w : World) (c0 : w.cell? ⟨ph, 0, none⟩ = some (.map (some mv))) (c1 : w.cell? ⟨ph, 1, none⟩ = some (.map (some mm)))
    (hown : fmap w Tryz.prog 9 mm nm f) (hver : fmap w Tryz.prog 225 mv nv (fvd 0)) (hne : mv ≠ mm) (hnm : nm < 1000000) (hlen : key.size ≤ 8) (g cap : Nat) (zs : List Int) (n : Nat) (hn1 : 1 ≤ n) (hn2 : n ≤ zs.length) (hl : zs.length < 1000000)
    (hf : f (.string key) = some (.slice (some ⟨g, 0, none⟩) zs.length cap)) (hrow : w.ownsRow 0 3 1 (.slice (some ⟨g, 0, none⟩) zs.length cap) zs.length (zs.map (Value.int .i64))) (hgp : g ≠ ph)
    (hz : ∀ m ∈ zs, (Lit.int .i64 m).wf = true) (hdel : ∀ i, i < n → IsDel (fvd i) (.agg #[.string key, .int .i64 (zs.getD i 0)]) (fvd (i + 1))) (hthere : ∀ i, i < n → (fvd i (.agg #[.string key, .int .i64 (zs.getD i 0)])).isSome = true)
    {f1 f2 : Value → Option Value} (hf1 : IsDel f (.string key) f1) (hf2 : IsPut f (.string key) (.slice (some ⟨g, 0, none⟩) (zs.length - n) cap) f2)
    (h1 : n = zs.length → ∀ w', Kp (fun b => b = mv ∨ b = mm ∨ b = g) w w' → fmap w' Tryz.prog 225 mv (nv - n) (fvd n) → fmap w' Tryz.prog 9 mm (nm - 1) f1 → R (.returned (.tuple #[])) w')
    (h2 : n < zs.length → ∀ w', Kp (fun b => b = mv ∨ b = mm ∨ b = g) w w' → fmap w' Tryz.prog 225 mv (nv - n) (fvd n) → fmap w' Tryz.prog 9 mm nm f2 → w'.ownsRow 0 3 1 (.slice (some ⟨g, 0, none⟩) (zs.length - n) cap) (zs.length - n) ((zs.drop n).map (Value.int .i64)) → R (.returned (.tuple #[])) w') :
    Calls Tryz.prog 82 #[.pointer (some ⟨ph, 0, none⟩), .string key, .int .i64 n] w R := by
  have hkey : Hid _ := WideMaps.keyOf_string_mk Tryz.underlying9 (show key.size ≤ maxLen by unfold maxLen; omega)
  have H1 := hid_of h1
  have H2 := hid_of h2
  have HD := hid_of hdel
  have HT := hid_of hthere
  have HZ := hid_of hz
  have HROW := hid_of hrow
  have HVER := hid_of hver
  have HOWN := hid_of hown
  have HF1 := hid_of hf1
  have HF2 := hid_of hf2
  have HF := hid_of hf
  have HNE := hid_of hne
  have HGP := hid_of hgp
  have HNM := hid_of hnm
  have HL8 := hid_of hlen
  obtain ⟨g', cap', hv', hc⟩ := ownsRow_cells hrow (fun h => by rw [h] at hn2; simp at hn2; omega)
  have hcap : n ≤ cap := by
    rcases hrow.2 with ⟨h0, _⟩ | ⟨g', cap', cur, e, _, _, hnc, _⟩
    · cases h0
    · cases e; omega
  have hcm : (cap : Int) ≤ 9223372036854775807 := by
    rcases hrow.2 with ⟨h0, _⟩ | ⟨g', cap', cur, e, _, _, hnc, hm, _⟩
    · cases h0
    · cases e; unfold maxLen at hm; omega
  cases hv'
  have HC := hid_of hc
  have hgv : g ≠ mv := fun e => ownsRow_ne hver hrow (by rw [e]; rfl)
  have hgm : g ≠ mm := fun e => ownsRow_ne hown hrow (by rw [e]; rfl)
  have q0 : ph ≠ mv := fun e => by subst e; rw [hver.noCell] at c0; cases c0
  have q1 : ph ≠ mm := fun e => by subst e; rw [hown.noCell] at c0; cases c0
  have hlg : g < w.heap.size := by
    rcases hrow.2 with ⟨h0, _⟩ | ⟨g', cap', cur, e, _, hg, _⟩
    · cases h0
    · cases e; exact block_lt hg
  have hph : ph < w.heap.size := World.block_lt_of_cell? w _ c0
  have HQ := hid_of (And.intro hgv (And.intro hgm (And.intro q0 (And.intro q1 (And.intro hlg hph)))))
  have hfd : (f (.string key)).getD (.slice none 0 0) = .slice (some ⟨g, 0, none⟩) zs.length cap := by rw [hf]; rfl
  have HCC := hid_of (And.intro c0 c1)
  have b1 : (n : Int) ≤ zs.length := by omega
  have b2 : (zs.length : Int) < 1000000 := by omega
  have b3 : (zs.length : Int) ≤ cap := by
    rcases hrow.2 with ⟨h0, _⟩ | ⟨g', cap', cur, e, _, _, hnc, _⟩
    · cases h0
    · cases e; omega
  generalize hL : zs.length = L at hfd b1 b2 b3
  have HL := hid_of hL
  clear h1 h2 hdel hthere hz hrow hver hf1 hf2 hf hne hgp hnm hlen hc hgv hgm q0 q1 hlg hph hL hl hn2
  go_enter Tryz.func82, Tryz.ntmps82
  go_wp2_with (first
    | (at_lookup; refine wpL_lookup _ rfl _ _ 207 rfl 9 26 kStr Tryz.underlying207 (zInts _) mm nm f rfl hown (.string key) _ rfl hkey.out _ hfd ?_)
    | go_in)
  clear hown hfd c0 c1
  go_loopw [8, 19] (fun _ v19 wr => ∃ i : Nat, i ≤ n ∧ v19 = .int .i64 i ∧ Kp (fun b => b = mv) w wr ∧ fmap wr Tryz.prog 225 mv (nv - i) (fvd i))
    (fun _ v19 _ => n - (intOf v19).toNat)
  case atStart => exact ⟨0, Nat.zero_le _, rfl, Kp.refl _ _, HVER.out⟩
  case round =>
    obtain ⟨i, hile, rfl, hkp, hfm⟩ := hrel
    have HKP := hid_of hkp
    by_cases hlt : i < n
    · have hltz : i < zs.length := by have := HL.out; omega
      have hck : wr.cell? ⟨g, i, none⟩ = some (.int .i64 (zs.getD i 0)) := (hkp.cell (a := ⟨g, i, none⟩) HQ.out.2.2.2.2.1 HQ.out.1).trans (HC.out i hltz)
      have hmem : zs.getD i 0 ∈ zs := by
        simp only [List.getD, List.getElem?_eq_getElem hltz, Option.getD_some]
        exact List.getElem_mem _
      obtain ⟨kl, hkl⟩ := keyPlace key (zs.getD i 0) (by have := HL8.out; unfold maxLen; omega) (HZ.out _ hmem)
      have e0 : wr.cell? ⟨ph, 0, none⟩ = some (.map (some mv)) := (hkp.cell (a := ⟨ph, 0, none⟩) HQ.out.2.2.2.2.2 HQ.out.2.2.1).trans HCC.out.1
      have HKL := hid_of hkl
      have hdi := hid_of (HD.out i hlt)
      have hti := hid_of (HT.out i hlt)
      have d1 : (i : Int) < n := by omega
      generalize zs.getD i 0 = m at hck HKL hdi hti hkl hmem
      clear hkp hkl hmem
      go_wp2_with (first
        | (at_delete; refine wpL_delete _ rfl _ _ 206 225 rfl 138 kPlace Tryz.underlying206 mv (nv - i) _ rfl hfm (.agg #[.string key, .int .i64 m]) _ rfl HKL.out hdi.out ?_; intro w1 hown1 hturn1)
        | go_in)
      go_roundw
      case rel =>
        refine ⟨i + 1, by omega, by go_num, HKP.out.trans (Kp.of_turned (S := fun b => b = mv) hturn1 rfl) (fun _ _ h => h), ?_⟩
        rw [if_pos hti.out] at hown1
        exact hown1.drop_get (by omega)
      case measure => simp [intOf]; omega
    · have hie : i = n := by omega
      subst hie
      have d1 : ¬ (i : Int) < i := by omega
      have e1 : wr.cell? ⟨ph, 1, none⟩ = some (.map (some mm)) := (hkp.cell (a := ⟨ph, 1, none⟩) HQ.out.2.2.2.2.2 HQ.out.2.2.1).trans HCC.out.2
      have hmo : fmap wr Tryz.prog 9 mm nm f := hkp.fmap HOWN.out (fun e => HNE.out e.symm)
      have HFM := hid_of hfm
      clear hfm
      by_cases he : i = L
      · have d2 : ((i : Int) == (L : Int)) = true := by simp; omega
        have HE := hid_of he
        clear he
        go_wp2_with (first
          | (at_delete; refine wpL_delete _ rfl _ _ 207 9 rfl 26 kStr Tryz.underlying207 mm nm _ rfl hmo (.string key) _ rfl hkey.out HF1.out ?_; intro w1 hown1 hturn1)
          | go_in)
        rw [HF.out] at hown1
        first | go_ret2 | go_ret | go_end0
        refine H1.out (by rw [HL.out, HE.out]) w1 ((HKP.out.mono (fun _ _ h => Or.inl h)).trans (Kp.of_turned (S := fun b => b = mm) hturn1 rfl) (fun _ _ h => Or.inr (Or.inl h))) (HFM.out.of_block (mapTurned_block hturn1 mv HNE.out)) hown1
      · have d2 : ((i : Int) == (L : Int)) = false := by simp; omega
        have hrw : wr.ownsRow 0 3 1 (.slice (some ⟨g, 0, none⟩) zs.length cap) zs.length (zs.map (Value.int .i64)) := ownsRow_kp HROW.out hkp (fun b hb e => HQ.out.1 (by rw [← e]; simpa [Value.ownBlock] using hb))
        have hrd : wr.drew.ownsRow 0 3 1 (.slice (some ⟨g, 0, none⟩) zs.length cap) zs.length (zs.map (Value.int .i64)) := ownsRow_kp hrw (Kp.drew (fun _ => False) _) (fun _ _ h => h)
        have HDE := hid_of (fun (R : Ending → World → Prop) => delete_row (n := i) (R := R) hrd (by have := HL.out; omega))
        rw [HL.out] at HDE
        have HE := hid_of (show i < zs.length by have := HL.out; omega)
        have hkd : Kp (fun b => b = mv) w wr.drew := hkp.trans (Kp.drew (fun _ => False) _) (fun _ _ h => h.elim)
        have HKD := hid_of hkd
        have hmd := hid_of hmo.drew
        have e2 : wr.drew.cell? ⟨ph, 1, none⟩ = some (.map (some mm)) := e1
        have HE2 := hid_of e2
        clear he hkp hrw hrd hkd hmo e2
        go_wp2_with fail
        go_region_with (go_at_call 135; refine HDE.out _ (fun w5 k5 row5 => ?_); have z1 : w5.cell? ⟨ph, 1, none⟩ = some (.map (some mm)) := (k5.cell (a := ⟨ph, 1, none⟩) (Nat.lt_of_lt_of_le HQ.out.2.2.2.2.2 HKD.out.size) (fun e => HGP.out e.symm)).trans HE2.out; obtain ⟨w6, hrun6, hf6, ht6⟩ := (k5.fmap hmd.out (fun e => HQ.out.2.1 e.symm)).store kStr Tryz.underlying207 (by have := HNM.out; unfold maxLen; omega) hkey.out _ (by have := HF2.out; rw [HL.out] at this; exact this); rw [HF.out] at hf6; have HFIN := hid_of (H2.out HE.out w6 (((HKD.out.mono (fun _ _ h => Or.inl h)).trans (k5.mono (S' := fun b => b = mv ∨ b = mm ∨ b = g) (fun _ _ h => Or.inr (Or.inr h))) (fun _ _ h => h)).trans (Kp.of_turned (S := fun b => b = mm) ht6 rfl) (fun _ _ h => Or.inr (Or.inl h))) ((k5.fmap HFM.out.drew (fun e => HQ.out.1 e.symm)).of_block (mapTurned_block ht6 mv HNE.out)) hf6 (ownsRow_kp (by have := row5; rw [← HL.out] at this; exact this) (S := fun b => b = mm) (Kp.of_turned ht6 rfl) (fun b hb e => HQ.out.2.1 (by rw [← e]; simpa [Value.ownBlock] using hb)))); clear hf6 ht6 row5 k5)
        all_goals
          clear hrun6 z1
          try go_wp2_with fail
          try go_end0
          exact HFIN.out

end

/-- A store of which the first versions of a key are gone. -/
def dropX (s : XS) (k : ByteArray) (n : Nat) : XS :=
  { s with mom := updS s.mom k ((s.mom k).drop n), ver := fun a m => if a = k ∧ m ∈ (s.mom k).take n then none else s.ver a m, nv := s.nv - n, nm := if n = (s.mom k).length then s.nm - 1 else s.nm }

theorem spentX_le (s : XS) (k : ByteArray) (t : Int) : spentX s k t ≤ (s.mom k).length := by
  have h := List.countP_le_length (p := fun m => decide (m ≤ t)) (l := s.mom k)
  unfold spentX
  split
  · omega
  · split <;> omega

section
variable {own own' : Nat → Lab} {c : Nat} {w w' : World} {p : Nat} {s : XS} {mo ph mv mm : Nat} {pt mw : Int → Nat} {sl : ByteArray → Value}
variable {R : Ending → World → Prop}

theorem MomOk.drop {k : ByteArray} {n : Nat} (h : ∀ k, MomOk s k) (a : ByteArray) : MomOk (dropX s k n) a := by
  have ha := h a
  by_cases e : a = k
  · subst e
    have hm : (dropX s a n).mom a = (s.mom a).drop n := by simp [dropX, updS]
    have hnd : ∀ m, m ∈ (s.mom a).drop n → m ∉ (s.mom a).take n := fun m h1 h2 => by
      have hp := ha.up
      rw [← List.take_append_drop n (s.mom a), List.pairwise_append] at hp
      have := hp.2.2 m h2 m h1
      omega
    refine ⟨by rw [hm, List.length_drop]; have := ha.len; omega, by rw [hm]; exact List.Pairwise.sublist (List.drop_sublist _ _) ha.up, fun m h1 => ?_⟩
    rw [hm] at h1
    have h2 := ha.ver m (List.mem_of_mem_drop h1)
    refine ⟨h2.1, ?_⟩
    show (if a = a ∧ m ∈ (s.mom a).take n then none else s.ver a m).isSome = true
    rw [if_neg (fun h => hnd m h1 h.2)]
    exact h2.2
  · have hm : (dropX s k n).mom a = s.mom a := by simp [dropX, updS, e]
    refine ⟨by rw [hm]; exact ha.len, by rw [hm]; exact ha.up, fun m h1 => ?_⟩
    rw [hm] at h1
    have h2 := ha.ver m h1
    refine ⟨h2.1, ?_⟩
    show (if a = k ∧ m ∈ (s.mom k).take n then none else s.ver a m).isSome = true
    rw [if_neg (fun h => e h.1)]
    exact h2.2

theorem x_drop (h : XR own c w p s mo ph mv mm pt mw sl) (key : ByteArray) (n : Nat) (hn1 : 1 ≤ n) (hn2 : n ≤ (s.mom key).length) (hlen : key.size ≤ 8) (hm : MomOk s key) (hnm : s.nm < 1000000)
    (hR : ∀ w' sl', Kp (fun b => b = mv ∨ b = mm ∨ (sl key).ownBlock = some b) w w' → XR own c w' p (dropX s key n) mo ph mv mm pt mw sl' → (∀ k, (dropX s key n).mom k ≠ [] → (sl' k).ownBlock = (sl k).ownBlock) → R (.returned (.tuple #[])) w') :
    Calls Tryz.prog 82 #[.pointer (some ⟨ph, 0, none⟩), .string key, .int .i64 n] w R := by
  have c0 : w.cell? ⟨ph, 0, none⟩ = some (.map (some mv)) := cell_of h.hist 0
  have c1 : w.cell? ⟨ph, 1, none⟩ = some (.map (some mm)) := cell_of h.hist 1
  have hne : mv ≠ mm := lab_ne (own := own) (by rw [h.ownV, h.ownM]; simp)
  have hmk : s.mom key ≠ [] := fun e => by rw [e] at hn2; simp at hn2; omega
  obtain ⟨g, cap, hv, hc⟩ := ownsRow_cells (h.row key hmk) hmk
  have hrow := h.row key hmk
  rw [hv] at hrow
  have hog : own g = ⟨c, 7, 0, key⟩ := h.ownR key hmk g (by rw [hv]; rfl)
  have hf : (encS fun k => if s.mom k = [] then none else some (sl k)) (.string key) = some (.slice (some ⟨g, 0, none⟩) (s.mom key).length cap) := by rw [encS_at, if_neg hmk, hv]
  have hat : ∀ i (hi : i < (s.mom key).length), (s.mom key).getD i 0 = (s.mom key)[i] := fun i hi => by simp [List.getD, hi]
  have tks : ∀ i (hi : i < (s.mom key).length), (s.mom key).take (i + 1) = (s.mom key).take i ++ [(s.mom key).getD i 0] := fun i hi => by rw [hat i hi]; exact List.take_succ_eq_append_getElem hi
  have hnin : ∀ i (hi : i < (s.mom key).length), (s.mom key).getD i 0 ∉ (s.mom key).take i := fun i hi h1 => by
    rw [hat i hi] at h1
    obtain ⟨j, hj, e⟩ := List.getElem_of_mem h1
    have hj' : j < i := by simp at hj; omega
    rw [List.getElem_take] at e
    have := (List.pairwise_iff_getElem.1 hm.up) j i (by omega) hi hj'
    omega
  have lp := block_lt h.store; have lh := block_lt h.hist; have lo := h.opn.lt; have lv := h.vers.lt; have lm := h.moms.lt
  have kpw : ∀ {w'}, Kp (fun b => b = mv ∨ b = mm ∨ b = g) w w' → Kp (fun b => b = mv ∨ b = mm ∨ (sl key).ownBlock = some b) w w' := fun hk => hk.mono (fun b _ h' => h'.imp id (fun h' => h'.imp id (fun e => by rw [hv, e]; rfl)))
  have old : ∀ {w'}, Kp (fun b => b = mv ∨ b = mm ∨ b = g) w w' → ∀ b, b < w.heap.size → own b ≠ ⟨c, 3, 0, eb⟩ → own b ≠ ⟨c, 4, 0, eb⟩ → own b ≠ ⟨c, 7, 0, key⟩ → w'.heap[b]? = w.heap[b]? := fun hk b hb e1 e2 e3 =>
    hk.block b hb (fun hb => by
      rcases hb with hb | hb | hb
      · exact e1 (by rw [hb, h.ownV])
      · exact e2 (by rw [hb, h.ownM])
      · exact e3 (by rw [hb, hog]))
  have fin : ∀ {w'} (sl' : ByteArray → Value), Kp (fun b => b = mv ∨ b = mm ∨ b = g) w w' → (∀ k, k ≠ key → sl' k = sl k) →
      fmap w' Tryz.prog 225 mv (s.nv - n) (encP fun a m => ((dropX s key n).ver a m).map encVer) → fmap w' Tryz.prog 9 mm (dropX s key n).nm (encS fun k => if (dropX s key n).mom k = [] then none else some (sl' k)) →
      ((s.mom key).drop n ≠ [] → (sl' key).ownBlock = some g ∧ w'.ownsRow 0 3 1 (sl' key) ((s.mom key).drop n).length (((s.mom key).drop n).map (Value.int .i64))) → R (.returned (.tuple #[])) w' := fun {w'} sl' hk hsl hfv hfm hr => by
    have mk : ∀ k, k ≠ key → (dropX s key n).mom k = s.mom k := fun k e => by simp [dropX, updS, e]
    have mkk : (dropX s key n).mom key = (s.mom key).drop n := by simp [dropX, updS]
    refine hR w' sl' (kpw hk) ⟨h.ownP, h.ownO, h.ownH, h.ownV, h.ownM, ?_, ?_, ?_, h.ownT, ?_, ?_, hfv, hfm, ?_, ?_, h.log.frame (fun b hlt _ hk' => old hk b hlt (fun e => by rw [e] at hk'; simp at hk') (fun e => by rw [e] at hk'; simp at hk') (fun e => by rw [e] at hk'; simp at hk')) (fun _ _ _ _ => rfl), h.bks.frame (fun b hlt _ hk' => old hk b hlt (fun e => by rw [e] at hk'; simp at hk') (fun e => by rw [e] at hk'; simp at hk') (fun e => by rw [e] at hk'; simp at hk')) (fun _ _ _ _ => rfl)⟩ ?_
    · exact (old hk p lp (by rw [h.ownP]; simp) (by rw [h.ownP]; simp) (by rw [h.ownP]; simp)).trans h.store
    · exact (old hk ph lh (by rw [h.ownH]; simp) (by rw [h.ownH]; simp) (by rw [h.ownH]; simp)).trans h.hist
    · exact h.opn.of_block (old hk mo lo (by rw [h.ownO]; simp) (by rw [h.ownO]; simp) (by rw [h.ownO]; simp))
    · intro n t1 e1
      have hl := (h.ownT n t1 e1).1
      exact (old hk _ (block_lt (h.tx n t1 e1)) (by rw [hl]; simp) (by rw [hl]; simp) (by rw [hl]; simp)).trans (h.tx n t1 e1)
    · intro n t1 e1
      have hl := (h.ownT n t1 e1).2
      exact (h.wr n t1 e1).of_block (old hk _ (h.wr n t1 e1).lt (by rw [hl]; simp) (by rw [hl]; simp) (by rw [hl]; simp))
    · intro k hk' b e
      by_cases ek : k = key
      · subst ek
        rw [mkk] at hk'
        rw [(hr hk').1] at e
        cases e
        exact hog
      · rw [mk k ek] at hk'
        rw [hsl k ek] at e
        exact h.ownR k hk' b e
    · intro k hk'
      by_cases ek : k = key
      · subst ek
        rw [mkk] at hk' ⊢
        exact (hr hk').2
      · rw [mk k ek] at hk' ⊢
        rw [hsl k ek]
        have h0 := h.row k hk'
        refine ⟨h0.1, ?_⟩
        rcases h0.2 with h1 | ⟨g1, cap1, cur, e, hg0, hg, r⟩
        · exact Or.inl h1
        · have hl := h.ownR k hk' g1 (by rw [e]; rfl)
          exact Or.inr ⟨g1, cap1, cur, e, hg0, (old hk g1 (block_lt hg) (by rw [hl]; simp) (by rw [hl]; simp) (by rw [hl]; simp [ek])).trans hg, r⟩
    · intro k hk'
      by_cases ek : k = key
      · subst ek
        rw [mkk] at hk'
        rw [(hr hk').1, hv]; rfl
      · rw [hsl k ek]
  have hf1 : IsDel (encS fun k => if s.mom k = [] then none else some (sl k)) (.string key) (encS fun k => if updS s.mom key [] k = [] then none else some (sl k)) := by
    have e : (fun k => if updS s.mom key [] k = [] then none else some (sl k)) = updS (fun k => if s.mom k = [] then none else some (sl k)) key none := by
      funext k
      by_cases ek : k = key
      · subst ek; simp [updS]
      · simp [updS, ek]
    rw [e]; exact del_encS _ _
  have hf2 : (s.mom key).drop n ≠ [] → IsPut (encS fun k => if s.mom k = [] then none else some (sl k)) (.string key) (.slice (some ⟨g, 0, none⟩) ((s.mom key).length - n) cap) (encS fun k => if updS s.mom key ((s.mom key).drop n) k = [] then none else some (updS sl key (.slice (some ⟨g, 0, none⟩) ((s.mom key).length - n) cap) k)) := fun hd => by
    have e : (fun k => if updS s.mom key ((s.mom key).drop n) k = [] then none else some (updS sl key (.slice (some ⟨g, 0, none⟩) ((s.mom key).length - n) cap) k)) = updS (fun k => if s.mom k = [] then none else some (sl k)) key (some (.slice (some ⟨g, 0, none⟩) ((s.mom key).length - n) cap)) := by
      funext k
      by_cases ek : k = key
      · subst ek; simp only [updS, if_true, if_neg hd]
      · simp [updS, ek]
    rw [e]; exact put_encS _ _ _
  obtain ⟨f2, hf2', hf2e⟩ : ∃ f2, IsPut (encS fun k => if s.mom k = [] then none else some (sl k)) (.string key) (.slice (some ⟨g, 0, none⟩) ((s.mom key).length - n) cap) f2 ∧ ((s.mom key).drop n ≠ [] → f2 = encS fun k => if updS s.mom key ((s.mom key).drop n) k = [] then none else some (updS sl key (.slice (some ⟨g, 0, none⟩) ((s.mom key).length - n) cap) k)) := by
    by_cases hd : (s.mom key).drop n = []
    · exact ⟨_, put_encS _ _ _, fun h => absurd hd h⟩
    · exact ⟨_, hf2 hd, fun _ => rfl⟩
  refine drop_walk ph mv mm s.nm s.nv _ (fun i => encP fun a m => (if a = key ∧ m ∈ (s.mom key).take i then none else s.ver a m).map encVer) key w c0 c1 h.moms (by simpa using h.vers) hne hnm hlen g cap (s.mom key) n hn1 hn2 hm.len hf hrow (lab_ne (own := own) (by rw [hog, h.ownH]; simp)) (fun m hmm => (hm.ver m hmm).1) (fun i hi => ?_) (fun i hi => ?_) hf1 hf2' (fun e w' hk hfv hfm => ?_) (fun hlt w' hk hfv hfm hr => ?_)
  · have hi' : i < (s.mom key).length := by omega
    have e : (fun a m => (if a = key ∧ m ∈ (s.mom key).take (i + 1) then none else s.ver a m).map encVer) = updP (fun a m => (if a = key ∧ m ∈ (s.mom key).take i then none else s.ver a m).map encVer) key ((s.mom key).getD i 0) none := by
      funext a m
      rw [tks i hi']
      by_cases ea : a = key
      · by_cases em : m = (s.mom key).getD i 0
        · simp [updP, ea, em]
        · simp only [updP, ea, em, true_and, and_false, if_false, List.mem_append, List.mem_singleton, or_false]
      · simp [updP, ea]
    rw [e]; exact del_encP _ _ _
  · have hi' : i < (s.mom key).length := by omega
    rw [encP_at, if_neg (fun h => hnin i hi' h.2), Option.isSome_map]
    refine (hm.ver _ ?_).2
    rw [hat i hi']; exact List.getElem_mem _
  · have hd : (s.mom key).drop n = [] := by rw [e, List.drop_length]
    refine fin sl hk (fun _ _ => rfl) hfv ?_ (fun h => absurd hd h)
    show fmap w' Tryz.prog 9 mm (if n = (s.mom key).length then s.nm - 1 else s.nm) (encS fun k => if updS s.mom key ((s.mom key).drop n) k = [] then none else some (sl k))
    rw [if_pos e, hd]; exact hfm
  · have hd : (s.mom key).drop n ≠ [] := fun e => by have := congrArg List.length e; simp at this; omega
    refine fin (updS sl key (.slice (some ⟨g, 0, none⟩) ((s.mom key).length - n) cap)) hk (fun k ek => updS_other _ ek _) hfv ?_ (fun _ => ⟨by rw [updS_same]; rfl, ?_⟩)
    · show fmap w' Tryz.prog 9 mm (if n = (s.mom key).length then s.nm - 1 else s.nm) (encS fun k => if updS s.mom key ((s.mom key).drop n) k = [] then none else some (updS sl key (.slice (some ⟨g, 0, none⟩) ((s.mom key).length - n) cap) k))
      rw [if_neg (by omega), ← hf2e hd]; exact hfm
    · rw [updS_same, List.length_drop]; exact hr

end

end Go.Proofs.YthbdpfccfcceiaaGreatDoor
