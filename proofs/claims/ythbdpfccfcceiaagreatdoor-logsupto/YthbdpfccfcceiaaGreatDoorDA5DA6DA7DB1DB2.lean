/-
  The document's answer: how many bytes; Sync.
  The document's answer: Sync, Crash.
  The document's answer: what a crash leaves.
  The document's answer: bytes that are taken apart (Taker).
  The document's answer: a text and a version that are taken.
-/
import Derived.Test.YthbdpfccfcceiaaGreatDoorG14DA4
import Derived.BigQuiet
namespace Go.Proofs.YthbdpfccfcceiaaGreatDoor
open Go.RowKit

section
variable {R : Ending → World → Prop}

set_option maxRecDepth 20000 in
set_option maxHeartbeats 1000000 in
theorem dsize {base : Nat} (v : Value) (fs : List (List UInt8)) (lv : List Value) (w : World) (h : FR base w v fs lv) (hl : bytesOf fs ≤ 1000000000) (hfl : fs.length ≤ 1100000)
    (hR : R (.returned (.int .i64 (bytesOf fs : Nat))) w) :
    Calls Tryz.prog 167 #[v] w R := by
  have H := hid_of h
  have HR := hid_of hR
  have HL := hid_of hl
  obtain ⟨pu, cu, rfl⟩ := ownsRow_slice h.row
  have hfl' : (fs.length : Int) ≤ 1100000 := by omega
  clear h hR hl
  go_enter Tryz.func167, Tryz.ntmps167
  go_wp2
  go_loop [3, 4] (fun v3 v4 => ∃ k : Nat, k ≤ fs.length ∧ v4 = .int .i64 k ∧ v3 = .int .i64 (bytesOf (fs.take k) : Nat)) (fun _ v4 => fs.length - (intOf v4).toNat)
  case atStart => exact ⟨0, Nat.zero_le _, rfl, rfl⟩
  case round =>
    obtain ⟨k, hk, rfl, rfl⟩ := hrel
    by_cases hlt : k < fs.length
    · have hlt' : (k : Int) < fs.length := by omega
      obtain ⟨g, cap, cur, er, _, _⟩ := ownsRow_some H.out.row (by omega)
      injection er with er eb ec
      subst er
      clear eb ec
      have hkl : k < lv.length := by rw [H.out.len]; exact hlt
      have hc := World.ownsRow.cells H.out.row (g := g) rfl k _ (List.getElem?_eq_getElem hkl)
      rw [addr_add, Nat.zero_add] at hc
      obtain ⟨f, hf⟩ : ∃ f, fs[k]? = some f := ⟨fs[k], List.getElem?_eq_getElem hlt⟩
      have hb := H.out.at_ k _ f (List.getElem?_eq_getElem hkl) hf
      obtain ⟨p1, c1, e1⟩ := ownsRow_slice hb
      rw [e1] at hc
      have HS := hid_of (bytesOf_take fs k f hf)
      have hs := bytesOf_take fs k f hf
      have hle := bytesOf_take_le fs (k + 1)
      have hb1 : ((bytesOf (fs.take k) : Nat) : Int) + (f.length : Int) ≤ 1000000000 := by have := HL.out; omega
      generalize bytesOf (fs.take k) = S at HS hs hb1 ⊢
      generalize f.length = F at HS hs hb1 hc
      clear hle hs hf hb e1
      go_wp2
      go_round
      case rel => exact ⟨k + 1, by omega, by go_num, by rw [HS.out]; go_num⟩
      case measure => simp [intOf]; omega
    · have hk' : k = fs.length := by omega
      subst hk'
      have HF := hid_of HR.out
      rw [List.take_length]
      generalize bytesOf fs = S at HF ⊢
      go_wp2
      exact HF.out

end

end Go.Proofs.YthbdpfccfcceiaaGreatDoor

namespace Go.Proofs.YthbdpfccfcceiaaGreatDoor
open Go.RowKit

theorem files_small {lg : List (List UInt8)} (hl : lg.length ≤ 5000) (hb : ∀ b ∈ lg, b ≠ [] ∧ b.length ≤ 400) : (∀ f ∈ filesB lg, f ≠ []) ∧ bytesOf (filesB lg) ≤ 2085000 ∧ (filesB lg).length ≤ 2000 := by
  have h2 := bytesOf_filesB_le lg 400 (fun b h => (hb b h).2)
  have h3 : lg.length * 417 ≤ 5000 * 417 := Nat.mul_le_mul_right _ hl
  refine ⟨fun f hf => (filesB_ok lg (by omega) (fun b h => (hb b h).2) f hf).1, by omega, ?_⟩
  rw [filesB_length]
  omega

section
variable {R : Ending → World → Prop}

set_option maxRecDepth 20000 in
set_option maxHeartbeats 1000000 in
theorem dsync (p : Nat) (cs : Array Value) (T : TypeId) (v : Value) (lg : List (List UInt8)) (w : World) (hp : w.heap[p]? = some (.cells cs T (0, 0))) (c4 : cs[4]? = some v) (h5 : 5 < cs.size) (hv : LgIn w v lg) (hl : lg.length ≤ 5000) (hb : ∀ b ∈ lg, b ≠ [] ∧ b.length ≤ 400)
    (hR : ∀ w1, Kp (fun _ => False) w w1 → R (.returned (.tuple #[])) (w1.setCell ⟨p, 5, none⟩ (.int .i64 (bytesOf (filesB lg) : Nat)))) :
    Calls Tryz.prog 115 #[.pointer (some ⟨p, 0, none⟩)] w R := by
  obtain ⟨_, f2, f3⟩ := files_small hl hb
  have HR := hid_of hR
  have HV := hid_of hv
  have HL := hid_of hl
  have HB := hid_of hb
  have HP := hid_of hp
  have HF2 := hid_of f2
  have HF3 := hid_of f3
  obtain ⟨a0, cap0, rfl, _⟩ := hv
  have d4 : w.cell? ⟨p, 4, none⟩ = some (.slice a0 lg.length cap0) := (cell_of hp 4).trans c4
  have C5 : Hid (∀ w1, Kp (fun _ => False) w w1 → w1.cell? ⟨p, 5, none⟩ = some cs[5] ∧ w1.frozen? ⟨p, 5, none⟩ = false) := fun w1 k => by
    have hq := (k.block p (block_lt hp) (fun e => e)).trans hp
    exact ⟨(cell_of hq 5).trans (Array.getElem?_eq_getElem h5), frozen_at hq 5⟩
  clear hR hl hb hp c4 f2 f3
  go_enter Tryz.func115, Tryz.ntmps115
  go_wp2_with (first
    | (go_at_call 114; refine dfiles _ lg _ HV.out HL.out HB.out (fun v1 lv1 w1 hf1 hk1 => ?_); have HX := hid_of hf1; have HRF := hid_of (HR.out w1 hk1); obtain ⟨z5, zf⟩ := C5.out w1 hk1; obtain ⟨a1, c1, rfl⟩ := ownsRow_slice hf1.row; clear hf1 hk1)
    | (go_at_call 167; refine dsize _ _ _ _ HX.out (by have := HF2.out; omega) (by have := HF3.out; omega) ?_)
    | go_in)
  first
    | (refine bodyPost_ret (results_none rfl _ _ _) rfl ?_; exact HRF.out)
    | exact HRF.out

/-- What a crash leaves, by the document. -/
def leftD (sy total : Nat) (keep : Int) : Nat := if max keep 0 < (total : Int) - sy then (sy + max keep 0).toNat else total

theorem leftD_eq {sy total : Nat} (h : sy ≤ total) (keep : Int) : leftD sy total keep = leftN sy total keep := by
  unfold leftD leftN
  split <;> omega

end

end Go.Proofs.YthbdpfccfcceiaaGreatDoor

namespace Go.Proofs.YthbdpfccfcceiaaGreatDoor
open Go.RowKit

/-- Rows that may be read, in a row of the call's own. -/
structure OutR (base : Nat) (w : World) (v : Value) (fs : List (List UInt8)) (lv : List Value) : Prop where
  row : w.ownsRow base 48 1 v fs.length lv
  at_ : ∀ (i : Nat) u f, lv[i]? = some u → fs[i]? = some f → ∃ g, RdN w u f g ∧ base ≤ g ∧ g < w.heap.size ∧ v.ownBlock ≠ some g ∧ ∃ b n c, u = .slice b n c

theorem OutR.len {base : Nat} {w : World} {v : Value} {fs : List (List UInt8)} {lv : List Value} (h : OutR base w v fs lv) : lv.length = fs.length := by simpa using h.row.1

theorem OutR.kept {base : Nat} {w w' : World} {v : Value} {fs : List (List UInt8)} {lv : List Value} (h : OutR base w v fs lv) (k : Kp (fun _ => False) w w') : OutR base w' v fs lv :=
  ⟨ownsRow_kp h.row k (fun _ _ e => e), fun i u f hu hf => by
    obtain ⟨g, h1, h2, h3, h4, h5⟩ := h.at_ i u f hu hf
    exact ⟨g, h1.kp k (fun e => e), h2, Nat.lt_of_lt_of_le h3 k.size, h4, h5⟩⟩

theorem OutR.nil (base : Nat) (w : World) : OutR base w (.slice none 0 0) [] [] := ⟨World.ownsRow_nil _ _ _ _, fun i u f hu => by simp at hu⟩

/-- One more. -/
theorem OutR.snoc {base : Nat} {w w2 : World} {v v2 u : Value} {fs : List (List UInt8)} {lv : List Value} {f : List UInt8} {g : Nat} (h : OutR base w v fs lv) (hu : RdN w u f g) (hg : base ≤ g ∧ g < w.heap.size) (hgv : v.ownBlock ≠ some g) (hs : ∃ b n c, u = .slice b n c)
    (hrow : w2.ownsRow base 48 1 v2 (fs.length + 1) (lv ++ [u])) (hk : Kp (fun b => v.ownBlock = some b) w w2) (hloc : v2.ownBlock = v.ownBlock ∨ v2.ownBlock = some w.heap.size) : OutR base w2 v2 (fs ++ [f]) (lv ++ [u]) := by
  have hl := h.len
  have out : ∀ {g : Nat}, g < w.heap.size → v.ownBlock ≠ some g → v2.ownBlock ≠ some g := fun hg hv e => by
    rcases hloc with h1 | h1
    · rw [h1] at e; exact hv e
    · rw [h1] at e; injection e with e; omega
  refine ⟨by simpa using hrow, fun i x y hx hy => ?_⟩
  rcases Nat.lt_trichotomy i lv.length with hi | hi | hi
  · rw [List.getElem?_append_left hi] at hx
    rw [List.getElem?_append_left (by omega)] at hy
    obtain ⟨g0, a1, a2, a3, a4, a5⟩ := h.at_ i x y hx hy
    exact ⟨g0, a1.kp hk a4, a2, Nat.lt_of_lt_of_le a3 hk.size, out a3 a4, a5⟩
  · subst hi
    simp at hx
    rw [hl] at hy
    simp at hy
    subst hx; subst hy
    exact ⟨g, hu.kp hk hgv, hg.1, Nat.lt_of_lt_of_le hg.2 hk.size, out hg.2 hgv, hs⟩
  · rw [List.getElem?_eq_none (by simp; omega)] at hx; cases hx

theorem firstB_zero (fs : List (List UInt8)) (n : Nat) : firstB (fs.take 0) n = [] := by simp [firstB]

section
variable {R : Ending → World → Prop}

set_option maxRecDepth 20000 in
set_option maxHeartbeats 4000000 in
theorem dcrash (p : Nat) (cs : Array Value) (T : TypeId) (v : Value) (lg : List (List UInt8)) (sy : Nat) (keep : Int) (w : World) (hp : w.heap[p]? = some (.cells cs T (0, 0))) (c4 : cs[4]? = some v) (c5 : cs[5]? = some (.int .i64 (sy : Nat))) (hv : LgIn w v lg) (hl : lg.length ≤ 5000) (hb : ∀ b ∈ lg, b ≠ [] ∧ b.length ≤ 400) (hsy : sy ≤ bytesOf (filesB lg)) (hk1 : -9223372036854775808 ≤ keep ∧ keep ≤ 9223372036854775807)
    (hR : ∀ v' lv' w', OutR w.heap.size w' v' (firstB (filesB lg) (leftN sy (bytesOf (filesB lg)) keep)) lv' → Kp (fun _ => False) w w' → R (.returned v') w') :
    Calls Tryz.prog 116 #[.pointer (some ⟨p, 0, none⟩), .int .i64 keep] w R := by
  obtain ⟨f1, f2, f3⟩ := files_small hl hb
  have HR := hid_of hR
  have HV := hid_of hv
  have HL := hid_of hl
  have HB := hid_of hb
  have HF1 := hid_of f1
  have HF2 := hid_of f2
  have HF3 := hid_of f3
  have HSY := hid_of hsy
  obtain ⟨a0, cap0, rfl, _⟩ := hv
  have d4 : w.cell? ⟨p, 4, none⟩ = some (.slice a0 lg.length cap0) := (cell_of hp 4).trans c4
  have C5 : Hid (∀ w1, Kp (fun _ => False) w w1 → w1.cell? ⟨p, 5, none⟩ = some (.int .i64 (sy : Nat))) := fun w1 k => by
    have hq := (k.block p (block_lt hp) (fun e => e)).trans hp
    exact (cell_of hq 5).trans c5
  clear hR hl hb hp c4 c5
  generalize hfs : filesB lg = fs at HR HF1 HF2 HF3 HSY f1 f2 f3 hsy
  generalize hN : bytesOf fs = N at HR HF2 HSY f2 hsy
  have HN := hid_of hN
  have HFS := hid_of hfs
  have hN' : (N : Int) ≤ 2085000 := by omega
  have hsy' : (sy : Int) ≤ N := by omega
  have h3' : (fs.length : Int) ≤ 2000 := by omega
  clear hN hfs f1 f2 f3 hsy
  have hk0 : Hid (-9223372036854775808 ≤ keep ∧ keep ≤ 9223372036854775807) := hk1
  obtain ⟨M, hM⟩ : ∃ M, leftN sy N keep = M := ⟨_, rfl⟩
  rw [hM] at HR
  have HM := hid_of hM
  have hMM : (M : Int) ≤ 2085000 := by have := leftN_le HSY.out keep; omega
  have HMM := hid_of hMM
  unfold leftN at hM
  have h5a : (0 : Int) ≤ sy := by omega
  by_cases q1 : keep < 0 <;> by_cases q2 : max keep 0 < (N : Int) - sy
  all_goals (
    first
      | (have q3 : max keep 0 = 0 := by omega
         rw [q3] at q2
         have HMS : Hid ((M : Int) = if (0 : Int) < (N : Int) - sy then (sy : Int) else N) := by show _ = _; split <;> omega
         have hMS := HMS.out
         first | rw [if_pos q2] at hMS | rw [if_neg q2] at hMS
         have q5 : (0 : Int) ≤ (N : Int) - sy := by omega
         first | have q6 : sy < N := by omega | have q6 : ¬ sy < N := by omega
         first | have q7 : (sy : Int) < N := by omega | have q7 : ¬ (sy : Int) < N := by omega)
      | (have q3 : max keep 0 = keep := by omega
         rw [q3] at q2
         have HMS : Hid ((M : Int) = if keep < (N : Int) - sy then (sy : Int) + keep else N) := by show _ = _; split <;> omega
         have hMS := HMS.out
         first | rw [if_pos q2] at hMS | rw [if_neg q2] at hMS
         have q5 : (0 : Int) ≤ keep := by omega)
    clear hM q3 HMS
    have HMS := hid_of hMS
    clear hMS
    go_enter Tryz.func116, Tryz.ntmps116
    go_wp2_with (first
      | (go_at_call 114; refine dfiles _ lg _ HV.out HL.out HB.out (fun v1 lv1 w1 hf1 hk1 => ?_); rw [HFS.out] at hf1; have HX := hid_of hf1; have HK1 := hid_of hk1; have z5 := C5.out w1 hk1; obtain ⟨a1, c1, rfl⟩ := ownsRow_slice hf1.row; clear hf1 hk1)
      | (go_at_call 167; refine dsize _ _ _ _ HX.out (by rw [HN.out]; have := HF2.out; omega) (by have := HF3.out; omega) ?_; rw [HN.out])
      | go_in)
    go_loopw [6, 7, 8, 9] (fun v6 v7 v8 _ wr => ∃ (k : Nat) (lv : List Value), k ≤ fs.length ∧ v8 = .int .i64 k ∧ v6 = .int .i64 (M - bytesOf (fs.take k) : Nat) ∧ Kp (fun _ => False) w1 wr ∧ (∀ b, v7.ownBlock = some b → w1.heap.size ≤ b) ∧ OutR w.heap.size wr v7 (firstB (fs.take k) M) lv) (fun _ _ v8 _ _ => fs.length - (intOf v8).toNat)
    case atStart => exact ⟨0, [], Nat.zero_le _, rfl, by have := HMS.out; simp [bytesOf]; omega, Kp.refl _ _, (fun b e => by cases e), (by rw [firstB_zero]; exact OutR.nil _ _)⟩
    case round =>
      obtain ⟨k, lv, hk, rfl, rfl, hkp, hnew, hout⟩ := hrel
      by_cases hlt : k < fs.length
      · by_cases hz : M - bytesOf (fs.take k) = 0
        · have HF : Hid (R (.returned u7) wr) := HR.out u7 lv wr (by rw [firstB_done fs M k (by omega)]; exact hout) (HK1.out.trans hkp (fun _ _ h => h))
          rw [hz]
          have hlt' : (k : Int) < fs.length := by omega
          clear hout hnew hkp
          go_wp2_with fail
          exact HF.out
        · have hlt' : (k : Int) < fs.length := by omega
          have hzp : (0 : Int) < ((M - bytesOf (fs.take k) : Nat) : Int) := by omega
          obtain ⟨f, hf⟩ : ∃ f, fs[k]? = some f := ⟨fs[k], List.getElem?_eq_getElem hlt⟩
          have hfne := HF1.out f (List.mem_of_getElem? hf)
          have hkl : k < lv1.length := by rw [HX.out.len]; exact hlt
          have hbr := HX.out.at_ k _ f (List.getElem?_eq_getElem hkl) hf
          obtain ⟨ga, ca, cua, eqa, _, _⟩ := ownsRow_some HX.out.row (by omega)
          injection eqa with eqa eqb eqc
          subst eqa
          clear eqb eqc
          have hc0 := World.ownsRow.cells HX.out.row (g := ga) rfl k _ (List.getElem?_eq_getElem hkl)
          rw [addr_add, Nat.zero_add] at hc0
          have hc := (hkp.cell (a := ⟨ga, k, none⟩) (World.block_lt_of_cell? _ _ hc0) (fun e => e)).trans hc0
          obtain ⟨gu, cu, eu⟩ := hbr.form hfne
          rw [eu] at hc hbr
          have HBR := hid_of (hbr.kept hkp)
          have hfc : f.length ≤ cu := by
            rcases hbr.2 with ⟨e, _⟩ | ⟨_, c2, _, e, _, _, h2, _⟩
            · cases e
            · injection e with _ _ e3; omega
          have HFC := hid_of hfc
          have hfl : f.length ≤ 2085000 := by have := length_le_bytesOf (List.mem_of_getElem? hf); have := HN.out; have := HF2.out; omega
          have hfl' : (f.length : Int) ≤ 2085000 := by omega
          have HFN := hid_of hfne
          have HB := hid_of (bytesOf_take fs k f hf)
          have HST := hid_of (firstB_step fs M k f hf (by omega))
          have HGU : Hid (gu < w1.heap.size ∧ w.heap.size ≤ gu) := by have := hbr.lt gu rfl; exact ⟨this.2, this.1⟩
          have HKP := hid_of hkp
          have HNEW := hid_of hnew
          have HOUT := hid_of hout
          have HLEN : Hid ((firstB (fs.take k) M).length ≤ 1100000) := by
            have h1 := firstB_length_le (fs.take k) M
            have h2 := List.length_take_le k fs
            have h3 := HF3.out
            show _ ≤ _; omega
          have HZ : Hid (bytesOf (fs.take k) < M) := by show _ < _; omega
          obtain ⟨Q, hQ⟩ : ∃ Q, M - bytesOf (fs.take k) = Q := ⟨_, rfl⟩
          have HQ := hid_of hQ
          rw [hQ] at hzp HST ⊢
          have hQl : (Q : Int) ≤ 2085000 := by have := HMM.out; omega
          clear hz hout hkp hnew hbr hf hfne hc0 eu hfl hQ hlt hk hkl hfc
          by_cases hcut : Q < f.length
          · have hcut' : (Q : Int) < f.length := by omega
            have hcc : (Q : Int) ≤ cu := by have := HFC.out; omega
            have HTK : Hid ((f.take Q).length = Q) := by show _ = _; rw [List.length_take]; omega
            have HRD : Hid (RdN wr (.slice (some ⟨gu, 0, none⟩) Q cu) (f.take Q) gu) := by
              refine ⟨_, cu, by rw [HTK.out], by rw [HTK.out]; omega, fun _ => ⟨Nat.lt_of_lt_of_le HGU.out.1 HKP.out.size, 0, rfl, fun j hj => ?_⟩⟩
              obtain ⟨pb, cb, e, hrd⟩ := HBR.out.rd
              obtain ⟨g2, o2, e2, hcc⟩ := hrd HFN.out
              rw [e2] at e
              injection e with e _ _
              injection e with e
              injection e with e1 e3 _
              subst e1; subst e3
              rw [HTK.out] at hj
              rw [hcc j (by omega)]
              simp [List.getD, hj]
            have HCL := hid_of hcut
            clear hcut
            go_wp2_with (first
              | (at_builtin; refine wpF_append _ rfl _ _ rfl w.heap.size u7 _ lv rfl (HOUT.out.kept (Kp.alloc (fun _ => False) wr (.cells #[.slice (some ⟨gu, 0, none⟩) Q cu] 48))).row wr.heap.size (.slice (some ⟨gu, 0, none⟩) Q cu) rfl (cell_of (heap_alloc_new wr _) 0) rfl HLEN.out (by have := HK1.out.size; have := HKP.out.size; simp; omega) ?_; intro vq wq hrowq hkq hlocq; have HRQ := hid_of hrowq; have HKQ := hid_of hkq; have HLQ := hid_of hlocq; clear hrowq hkq hlocq)
              | go_in)
            go_roundw
            case rel =>
              refine ⟨k + 1, lv ++ [.slice (some ⟨gu, 0, none⟩) Q cu], by omega, by go_num, ?_, ?_, ?_, ?_⟩
              · have h1 := HB.out
                have h2 := HQ.out
                have h3 := HCL.out
                rw [show M - bytesOf (fs.take (k + 1)) = 0 by omega]
                go_num
              · exact (HKP.out.trans (Kp.alloc (fun _ => False) wr _) (fun _ _ h => h)).trans HKQ.out (fun b hb e => by have := HNEW.out b e; omega)
              · intro b e
                rcases HLQ.out with h | h
                · rw [h] at e; exact HNEW.out b e
                · rw [h] at e; injection e with e; have := HKP.out.size; simp at e; omega
              · rw [HST.out]
                refine OutR.snoc (g := gu) (HOUT.out.kept (Kp.alloc (fun _ => False) wr (.cells #[.slice (some ⟨gu, 0, none⟩) Q cu] 48))) (HRD.out.kp (Kp.alloc (fun _ => False) wr (.cells #[.slice (some ⟨gu, 0, none⟩) Q cu] 48)) (fun e => e)) ⟨HGU.out.2, ?_⟩ ?_ ⟨_, _, _, rfl⟩ HRQ.out HKQ.out HLQ.out
                · have := HGU.out.1; have := HKP.out.size; simp; omega
                · intro e; have := HNEW.out gu e; have := HGU.out.1; omega
            case measure => simp [intOf]; omega
          · have hcut' : ¬ (Q : Int) < f.length := by omega
            have hcut2 : (f.length : Int) ≤ Q := by omega
            have HTK : Hid (f.take Q = f) := List.take_of_length_le (by omega)
            have HRD : Hid (RdN wr (.slice (some ⟨gu, 0, none⟩) f.length cu) f gu) := by
              refine ⟨_, cu, rfl, HFC.out, fun _ => ⟨Nat.lt_of_lt_of_le HGU.out.1 HKP.out.size, 0, rfl, fun j hj => ?_⟩⟩
              obtain ⟨pb, cb, e, hrd⟩ := HBR.out.rd
              obtain ⟨g2, o2, e2, hcc⟩ := hrd HFN.out
              rw [e2] at e
              injection e with e _ _
              injection e with e
              injection e with e1 e3 _
              subst e1; subst e3
              exact hcc j hj
            have HCL := hid_of hcut
            clear hcut
            go_wp2_with (first
              | (at_builtin; refine wpF_append _ rfl _ _ rfl w.heap.size u7 _ lv rfl (HOUT.out.kept (Kp.alloc (fun _ => False) wr (.cells #[.slice (some ⟨gu, 0, none⟩) f.length cu] 48))).row wr.heap.size (.slice (some ⟨gu, 0, none⟩) f.length cu) rfl (cell_of (heap_alloc_new wr _) 0) rfl HLEN.out (by have := HK1.out.size; have := HKP.out.size; simp; omega) ?_; intro vq wq hrowq hkq hlocq; have HRQ := hid_of hrowq; have HKQ := hid_of hkq; have HLQ := hid_of hlocq; clear hrowq hkq hlocq)
              | go_in)
            go_roundw
            case rel =>
              refine ⟨k + 1, lv ++ [.slice (some ⟨gu, 0, none⟩) f.length cu], by omega, by go_num, ?_, ?_, ?_, ?_⟩
              · have h1 := HB.out
                have h2 := HQ.out
                have h3 := HCL.out
                rw [show ((M - bytesOf (fs.take (k + 1)) : Nat) : Int) = (Q : Int) - f.length by omega]
              · exact (HKP.out.trans (Kp.alloc (fun _ => False) wr _) (fun _ _ h => h)).trans HKQ.out (fun b hb e => by have := HNEW.out b e; omega)
              · intro b e
                rcases HLQ.out with h | h
                · rw [h] at e; exact HNEW.out b e
                · rw [h] at e; injection e with e; have := HKP.out.size; simp at e; omega
              · rw [HST.out, HTK.out]
                refine OutR.snoc (g := gu) (HOUT.out.kept (Kp.alloc (fun _ => False) wr (.cells #[.slice (some ⟨gu, 0, none⟩) f.length cu] 48))) (HRD.out.kp (Kp.alloc (fun _ => False) wr (.cells #[.slice (some ⟨gu, 0, none⟩) f.length cu] 48)) (fun e => e)) ⟨HGU.out.2, ?_⟩ ?_ ⟨_, _, _, rfl⟩ HRQ.out HKQ.out HLQ.out
                · have := HGU.out.1; have := HKP.out.size; simp; omega
                · intro e; have := HNEW.out gu e; have := HGU.out.1; omega
            case measure => simp [intOf]; omega
      · have hk' : k = fs.length := by omega
        subst hk'
        rw [List.take_length] at hout ⊢
        have HF : Hid (R (.returned u7) wr) := HR.out u7 lv wr hout (HK1.out.trans hkp (fun _ _ h => h))
        clear hout hnew hkp
        go_wp2_with fail
        exact HF.out)

end

end Go.Proofs.YthbdpfccfcceiaaGreatDoor

namespace Go.Proofs.YthbdpfccfcceiaaGreatDoor
open Go.RowKit Go.Maps Go.Lib

/-- The document's Taker, plainly. -/
structure TS where
  B : List UInt8
  at_ : Nat
  bad : Bool

def TS.some (t : TS) (n : Nat) : List UInt8 × TS := if t.bad = true ∨ t.B.length - t.at_ < n then ([], { t with bad := true }) else ((t.B.drop t.at_).take n, { t with at_ := t.at_ + n })
def TS.one (t : TS) : Nat × TS := (((t.some 1).1.getD 0 0).toNat, (t.some 1).2)
def TS.four (t : TS) : Nat × TS := (t.one.1 + 256 * (t.one.2.one.1 + 256 * (t.one.2.one.2.one.1 + 256 * t.one.2.one.2.one.2.one.1)), t.one.2.one.2.one.2.one.2)
def TS.text (t : TS) : ByteArray × TS := (strB (t.one.2.some t.one.1).1, (t.one.2.some t.one.1).2)

structure TkAt (w : World) (r : Nat) (t : TS) (v : Value) (g : Nat) : Prop where
  blk : w.heap[r]? = some (.cells #[v, .int .i64 (t.at_ : Nat), .bool t.bad] 307 (0, 0))
  rd : RdN w v t.B g
  ne : g ≠ r
  le : t.at_ ≤ t.B.length

theorem TkAt.kp {S : Nat → Prop} {w w' : World} {r : Nat} {t : TS} {v : Value} {g : Nat} (h : TkAt w r t v g) (hk : Kp S w w') (h1 : ¬ S r) (h2 : ¬ S g) : TkAt w' r t v g :=
  ⟨(hk.block r (block_lt h.blk) h1).trans h.blk, h.rd.kp hk h2, h.ne, h.le⟩
theorem TkAt.wrong {w : World} {r : Nat} {t : TS} {v : Value} {g : Nat} (h : TkAt w r t v g) : TkAt (w.setCell ⟨r, 2, none⟩ (.bool true)) r { t with bad := true } v g :=
  ⟨heap_set h.blk _, h.rd.kp (Kp.setCell (S := fun b => b = r) w _ _ rfl) h.ne, h.ne, h.le⟩
theorem TkAt.on {w : World} {r : Nat} {t : TS} {v : Value} {g n : Nat} (h : TkAt w r t v g) (hn : n ≤ t.B.length) : TkAt (w.setCell ⟨r, 1, none⟩ (.int .i64 (n : Nat))) r { t with at_ := n } v g :=
  ⟨heap_set h.blk _, h.rd.kp (Kp.setCell (S := fun b => b = r) w _ _ rfl) h.ne, h.ne, hn⟩

section
variable {R : Ending → World → Prop}

set_option maxRecDepth 20000 in
set_option maxHeartbeats 1000000 in
theorem dsome (r : Nat) (t : TS) (v : Value) (g n : Nat) (w : World) (h : TkAt w r t v g) (hn : n ≤ 1100000) (hl : t.B.length ≤ 1100000)
    (hR : ∀ w' v', TkAt w' r (t.some n).2 v g → RdN w' v' (t.some n).1 g → Kp (fun b => b = r) w w' → R (.returned v') w') :
    Calls Tryz.prog 245 #[.pointer (some ⟨r, 0, none⟩), .int .i64 n] w R := by
  have H := hid_of h
  have c1 : w.cell? ⟨r, 1, none⟩ = some (.int .i64 (t.at_ : Nat)) := cell_of h.blk 1
  have c2 : w.cell? ⟨r, 2, none⟩ = some (.bool t.bad) := cell_of h.blk 2
  have f1 := frozen_at h.blk 1
  have f2 := frozen_at h.blk 2
  have hn' : (n : Int) ≤ 1100000 := by omega
  have hl' : (t.B.length : Int) ≤ 1100000 := by omega
  have hle : (t.at_ : Int) ≤ t.B.length := by have := h.le; omega
  obtain ⟨p, cap, rfl, hcap, hc⟩ := h.rd
  have c0 : w.cell? ⟨r, 0, none⟩ = some (.slice p t.B.length cap) := cell_of h.blk 0
  by_cases q : t.bad = true ∨ t.B.length - t.at_ < n
  · have e : t.some n = ([], { t with bad := true }) := by simp [TS.some, q]
    rw [e] at hR
    have HR : Hid (∀ w1, Kp (fun _ => False) w w1 → R (.returned (.slice none 0 0)) (w1.setCell ⟨r, 2, none⟩ (.bool true))) := fun w1 k1 => hR _ (.slice none 0 0) (h.kp k1 (fun e => e) (fun e => e)).wrong ⟨none, 0, rfl, Nat.le_refl _, fun e => absurd rfl e⟩ ((k1.mono (fun _ _ e => e.elim)).trans (Kp.setCell (S := fun b => b = r) w1 _ _ rfl) (fun _ _ e => e))
    clear h hR hc e
    by_cases q1 : t.bad = true
    · rw [q1] at c2
      clear q
      go_enter Tryz.func245, Tryz.ntmps245
      go_wp2_with fail
      go_quiet (fail)
      all_goals go_wp2_with fail
      all_goals exact HR.out _ (Kp.drewN _ _ _)
    · have q2 : (t.B.length : Int) - t.at_ < n := q.elim (fun e => absurd e q1) (fun e => by omega)
      have q3 : t.bad = false := by simpa using q1
      rw [q3] at c2
      clear q q1
      go_enter Tryz.func245, Tryz.ntmps245
      go_wp2_with fail
      go_quiet (fail)
      all_goals go_wp2_with fail
      all_goals exact HR.out _ (Kp.drewN _ _ _)
  · have q1 : t.bad = false := by cases hw : t.bad <;> simp_all
    have q2 : ¬ (t.B.length : Int) - t.at_ < n := by omega
    have q3 : (t.at_ : Int) + n ≤ t.B.length := by omega
    have q4 : (t.at_ : Int) + n ≤ cap := by omega
    have q5 : (t.at_ : Int) ≤ cap := by omega
    have e : t.some n = ((t.B.drop t.at_).take n, { t with at_ := t.at_ + n }) := by simp [TS.some, q]
    rw [e] at hR
    rw [q1] at c2
    have HR := hid_of hR
    have HC := hid_of hc
    clear h hR hc e q
    go_enter Tryz.func245, Tryz.ntmps245
    go_wp2_with fail
    go_quiet (fail)
    all_goals go_wp2_with fail
    go_quiet (fail)
    all_goals go_wp2_with fail
    all_goals (
      rename_i n1 hx1
      have hT := ((H.out.kp (Kp.drewN (fun _ => False) w n1) (fun e => e) (fun e => e)).on (n := t.at_ + n) (by omega)).kp (Kp.drewN (fun _ => False) _ nq) (fun e => e) (fun e => e)
      have hK := (((Kp.drewN (fun b => b = r) w n1).trans (Kp.setCell (S := fun b => b = r) _ ⟨r, 1, none⟩ (.int .i64 ((t.at_ + n : Nat) : Int)) rfl) (fun _ _ e => e)).trans (Kp.drewN (fun b => b = r) _ nq) (fun _ _ e => e))
      rw [show ((t.at_ : Int) + n) = ((t.at_ + n : Nat) : Int) by omega]
      refine HR.out _ _ hT ?_ hK)
    · have hn0 : n = 0 := by omega
      subst hn0
      exact ⟨p, 0, by simp, by simp, fun e => absurd (by simp) e⟩
    · have hlen : ((t.B.drop t.at_).take n).length = n := by rw [List.length_take, List.length_drop]; omega
      refine ⟨_, cap - t.at_, by rw [hlen], by rw [hlen]; omega, fun hne => ?_⟩
      have hb : t.B ≠ [] := fun e => hne (by simp [e])
      obtain ⟨hg, o, rfl, hc⟩ := HC.out hb
      refine ⟨Nat.lt_of_lt_of_le hg hK.size, o + t.at_, by simp [addr_add], fun j hj => ?_⟩
      rw [hlen] at hj
      have hj1 : t.at_ + j < t.B.length := by omega
      have h1 := hc (t.at_ + j) hj1
      rw [Nat.add_assoc, (hK.cell (a := ⟨g, o + (t.at_ + j), none⟩) (World.block_lt_of_cell? _ _ h1) H.out.ne).trans h1]
      simp [List.getD, hj]

theorem TS.some_le (t : TS) (h : t.at_ ≤ t.B.length) (n : Nat) : (t.some n).2.B = t.B ∧ (t.some n).1.length ≤ n ∧ (t.some n).2.at_ ≤ t.B.length := by
  unfold TS.some
  split
  · exact ⟨rfl, by simp, h⟩
  · exact ⟨rfl, by simp; omega, by simp; omega⟩
theorem TS.one_B (t : TS) : t.one.2.B = t.B := by
  unfold TS.one TS.some
  split <;> rfl
theorem TS.one_lt (t : TS) : t.one.1 < 256 := by
  unfold TS.one
  exact UInt8.toNat_lt _

set_option maxRecDepth 20000 in
set_option maxHeartbeats 1000000 in
theorem done1 (r : Nat) (t : TS) (v : Value) (g : Nat) (w : World) (h : TkAt w r t v g) (hl : t.B.length ≤ 1100000)
    (hR : ∀ w', TkAt w' r t.one.2 v g → Kp (fun b => b = r) w w' → R (.returned (.int .i64 (t.one.1 : Nat))) w') :
    Calls Tryz.prog 246 #[.pointer (some ⟨r, 0, none⟩)] w R := by
  have H := hid_of h
  have HL := hid_of hl
  have HR := hid_of hR
  have HS := hid_of (t.some_le h.le 1)
  clear h hl hR
  go_enter Tryz.func246, Tryz.ntmps246
  go_wp2_with (first
    | (go_at_call 245; refine dsome r t v g 1 w H.out (by omega) HL.out ?_)
    | fail)
  intro w1 v1 hT hr hk
  have HF := hid_of (HR.out w1 hT hk)
  have hlen := HS.out.2.1
  unfold TS.one at HF
  obtain ⟨p, cap, rfl, hcap, hc⟩ := hr
  clear hT hk
  generalize (t.some 1).1 = l at *
  match l, hlen with
  | [], _ =>
    clear hc
    simp only [List.length_nil]
    go_wp2_with fail
    exact HF.out
  | [x], _ =>
    obtain ⟨_, o, rfl, hc2⟩ := hc (by simp)
    have hc0 := hc2 0 (by simp)
    have hx := x.toNat_lt
    simp [b8] at hc0
    simp only [List.length_cons, List.length_nil]
    clear hc hc2 hcap
    go_wp2_with fail
    exact HF.out

theorem done1' (r : Nat) (t : TS) (a : Nat) (ta : TS) (e : t.one = (a, ta)) (v : Value) (g : Nat) (w : World) (h : TkAt w r t v g) (hl : t.B.length ≤ 1100000)
    (hR : ∀ w', TkAt w' r ta v g → Kp (fun b => b = r) w w' → R (.returned (.int .i64 (a : Nat))) w') :
    Calls Tryz.prog 246 #[.pointer (some ⟨r, 0, none⟩)] w R :=
  done1 r t v g w h hl (by rw [e]; exact hR)

set_option maxRecDepth 20000 in
set_option maxHeartbeats 1000000 in
theorem done4 (r : Nat) (t : TS) (v : Value) (g : Nat) (w : World) (h : TkAt w r t v g) (hl : t.B.length ≤ 1100000)
    (hR : ∀ w', TkAt w' r t.four.2 v g → Kp (fun b => b = r) w w' → R (.returned (.int .i64 (t.four.1 : Nat))) w') :
    Calls Tryz.prog 197 #[.pointer (some ⟨r, 0, none⟩)] w R := by
  have H := hid_of h
  have HL := hid_of hl
  have HR := hid_of hR
  have l1 := t.one_lt
  have l2 := t.one.2.one_lt
  have l3 := t.one.2.one.2.one_lt
  have l4 := t.one.2.one.2.one.2.one_lt
  have hb1 := hid_of (t.one_B)
  have hb2 := hid_of (t.one.2.one_B.trans t.one_B)
  have hb3 := hid_of ((t.one.2.one.2.one_B.trans t.one.2.one_B).trans t.one_B)
  clear h hl hR
  unfold TS.four at HR
  generalize e1 : t.one = t1 at *
  generalize e2 : t1.2.one = t2 at *
  generalize e3 : t2.2.one = t3 at *
  generalize e4 : t3.2.one = t4 at *
  obtain ⟨a, ta⟩ := t1
  obtain ⟨b, tb⟩ := t2
  obtain ⟨c, tc⟩ := t3
  obtain ⟨d, td⟩ := t4
  simp only at *
  have E1 := hid_of e1
  have E2 := hid_of e2
  have E3 := hid_of e3
  have E4 := hid_of e4
  have l1' : (a : Int) < 256 := by omega
  have l2' : (b : Int) < 256 := by omega
  have l3' : (c : Int) < 256 := by omega
  have l4' : (d : Int) < 256 := by omega
  have m1 : (c : Int) + 256 * d ≤ 65536 := by omega
  have m2 : (b : Int) + 256 * (c + 256 * d) ≤ 16777216 := by omega
  have m3 : (a : Int) + 256 * (b + 256 * (c + 256 * d)) ≤ 4294967296 := by omega
  clear e1 e2 e3 e4
  go_enter Tryz.func197, Tryz.ntmps197
  go_wp2_with (first
    | (go_at_call 246; refine done1' r t a ta E1.out v g w H.out HL.out ?_; intro w1 hT1 hk1; have H1 := hid_of hT1; have HK1 := hid_of hk1; clear hT1 hk1)
    | (go_at_call 246; refine done1' r ta b tb E2.out v g w1 H1.out (by rw [hb1.out]; exact HL.out) ?_; intro w2 hT2 hk2; have H2 := hid_of hT2; have HK2 := hid_of (HK1.out.trans hk2 (fun _ _ h => h)); clear hT2 hk2)
    | (go_at_call 246; refine done1' r tb c tc E3.out v g w2 H2.out (by rw [hb2.out]; exact HL.out) ?_; intro w3 hT3 hk3; have H3 := hid_of hT3; have HK3 := hid_of (HK2.out.trans hk3 (fun _ _ h => h)); clear hT3 hk3)
    | (go_at_call 246; refine done1' r tc d td E4.out v g w3 H3.out (by rw [hb3.out]; exact HL.out) ?_; intro w4 hT4 hk4; have H4 := hid_of hT4; have HK4 := hid_of (HK3.out.trans hk4 (fun _ _ h => h)); clear hT4 hk4)
    | fail)
  have HF := HR.out w4 H4.out HK4.out
  rw [show (((a + 256 * (b + 256 * (c + 256 * d)) : Nat)) : Int) = (a : Int) + 256 * (b + 256 * (c + 256 * d)) by omega] at HF
  exact HF

theorem TS.four_B (t : TS) : t.four.2.B = t.B := ((((TS.one_B _).trans (TS.one_B _)).trans (TS.one_B _)).trans (TS.one_B _))
theorem TS.four_lt (t : TS) : t.four.1 < 4294967296 := by
  unfold TS.four
  dsimp only
  have l1 := t.one_lt
  have l2 := t.one.2.one_lt
  have l3 := t.one.2.one.2.one_lt
  have l4 := t.one.2.one.2.one.2.one_lt
  omega
theorem done4' (r : Nat) (t : TS) (a : Nat) (ta : TS) (e : t.four = (a, ta)) (v : Value) (g : Nat) (w : World) (h : TkAt w r t v g) (hl : t.B.length ≤ 1100000)
    (hR : ∀ w', TkAt w' r ta v g → Kp (fun b => b = r) w w' → R (.returned (.int .i64 (a : Nat))) w') :
    Calls Tryz.prog 197 #[.pointer (some ⟨r, 0, none⟩)] w R :=
  done4 r t v g w h hl (by rw [e]; exact hR)

theorem convN {w : World} {v : Value} {l : List UInt8} {g : Nat} (h : RdN w v l g) : (convert 48 9 v).run Tryz.prog w = .ok (.string (strB l)) w := by
  obtain ⟨p, cap, rfl, _, hc⟩ := h
  by_cases hl : l = []
  · subst hl
    cases p with
    | none =>
      rw [List.length_nil, run_convert_bytes_string (P := Tryz.prog) w 48 9 5 none 0 cap Tryz.underlying48 Tryz.underlying5 Tryz.underlying9]
      rfl
    | some a => exact run_convert_bytes_back (P := Tryz.prog) w 48 9 5 a cap [] Tryz.underlying48 Tryz.underlying5 Tryz.underlying9 (fun j hj => by simp at hj)
  · obtain ⟨_, o, rfl, hc2⟩ := hc hl
    exact conv_some w g o cap l hc2

end

end Go.Proofs.YthbdpfccfcceiaaGreatDoor

namespace Go.Proofs.YthbdpfccfcceiaaGreatDoor
open Go.RowKit Go.Maps Go.Lib

def TS.wrong (t : TS) : TS := { t with bad := true }
def TS.ver0 (t : TS) : (ByteArray × Bool) × TS := if t.one.1 = 0 then ((t.one.2.text.1, false), t.one.2.text.2) else if t.one.1 = 1 then ((eb, true), t.one.2) else ((eb, false), t.one.2.wrong)
def TS.ver (t : TS) (key : ByteArray) : (ByteArray × Bool) × TS := (t.ver0.1, if isKey key = true ∧ t.ver0.1.1.size ≤ 20 then t.ver0.2 else t.ver0.2.wrong)

theorem TS.some_B (t : TS) (n : Nat) : (t.some n).2.B = t.B := by
  unfold TS.some
  split <;> rfl
theorem TS.text_B (t : TS) : t.text.2.B = t.B := by
  unfold TS.text
  exact (TS.some_B _ _).trans t.one_B
theorem TS.text_size (t : TS) : t.text.1.size ≤ 255 := by
  unfold TS.text
  rw [strB_size]
  have h1 := t.one_lt
  unfold TS.some
  split
  · simp
  · simp; omega

section
variable {R : Ending → World → Prop}

set_option maxRecDepth 20000 in
set_option maxHeartbeats 1000000 in
theorem dtextT (r : Nat) (t : TS) (v : Value) (g : Nat) (w : World) (h : TkAt w r t v g) (hl : t.B.length ≤ 1100000)
    (hR : ∀ w', TkAt w' r t.text.2 v g → Kp (fun b => b = r) w w' → R (.returned (.string t.text.1)) w') :
    Calls Tryz.prog 198 #[.pointer (some ⟨r, 0, none⟩)] w R := by
  have H := hid_of h
  have HL := hid_of hl
  have HR := hid_of hR
  have HB := hid_of t.one_B
  have HLT := hid_of t.one_lt
  clear h hl hR
  unfold TS.text at HR
  generalize e1 : t.one = t1 at *
  obtain ⟨a, ta⟩ := t1
  simp only at *
  have E1 := hid_of e1
  clear e1
  go_enter Tryz.func198, Tryz.ntmps198
  go_wp2_with (first
    | (go_at_call 246; refine done1' r t a ta E1.out v g w H.out HL.out ?_; intro w1 hT1 hk1; have H1 := hid_of hT1; have HK1 := hid_of hk1; clear hT1 hk1)
    | (go_at_call 245; refine dsome r ta v g a w1 H1.out (by have := HLT.out; omega) (by rw [HB.out]; exact HL.out) ?_; intro w2 v2 hT2 hr2 hk2; have HF := hid_of (HR.out w2 hT2 (HK1.out.trans hk2 (fun _ _ h => h))); have q := convN hr2; clear hT2 hk2 hr2)
    | fail)
  exact HF.out

set_option maxRecDepth 20000 in
set_option maxHeartbeats 1000000 in
theorem dversion (r : Nat) (t : TS) (v : Value) (g : Nat) (key : ByteArray) (w : World) (h : TkAt w r t v g) (hg : g < w.heap.size) (hl : t.B.length ≤ 1100000) (hkey : key.size ≤ maxLen)
    (hR : ∀ w', TkAt w' r (t.ver key).2 v g → Kp (fun b => b = r) w w' → R (.returned (.agg #[.string key, .int .i64 0, .bool (t.ver key).1.2, .string (t.ver key).1.1])) w') :
    Calls Tryz.prog 199 #[.pointer (some ⟨r, 0, none⟩), .string key] w R := by
  have hr := block_lt h.blk
  have kA := Kp.alloc (fun _ => False) w (.cells #[.string ⟨#[]⟩, .int .i64 0, .bool false, .string ⟨#[]⟩] 193)
  have kB := Kp.alloc (fun _ => False) (w.alloc (.cells #[.string ⟨#[]⟩, .int .i64 0, .bool false, .string ⟨#[]⟩] 193)) (.cells #[.string key, .int .i64 0, .bool false, .string ⟨#[]⟩] 193)
  have bA := heap_alloc_new w (.cells #[.string ⟨#[]⟩, .int .i64 0, .bool false, .string ⟨#[]⟩] 193)
  have bB := heap_alloc_new (w.alloc (.cells #[.string ⟨#[]⟩, .int .i64 0, .bool false, .string ⟨#[]⟩] 193)) (.cells #[.string key, .int .i64 0, .bool false, .string ⟨#[]⟩] 193)
  have sA : (w.alloc (.cells #[.string ⟨#[]⟩, .int .i64 0, .bool false, .string ⟨#[]⟩] 193)).heap.size = w.heap.size + 1 := by simp
  rw [sA] at bB
  have H0 := hid_of ((h.kp kA (fun e => e) (fun e => e)).kp kB (fun e => e) (fun e => e))
  have K0 := hid_of (kA.trans kB (fun _ _ e => e))
  have HBA : Hid (((w.alloc (.cells #[.string ⟨#[]⟩, .int .i64 0, .bool false, .string ⟨#[]⟩] 193)).alloc (.cells #[.string key, .int .i64 0, .bool false, .string ⟨#[]⟩] 193)).heap[w.heap.size]? = some (.cells #[.string ⟨#[]⟩, .int .i64 0, .bool false, .string ⟨#[]⟩] 193 (0, 0))) := (kB.block _ (block_lt bA) (fun e => e)).trans bA
  have HBB := hid_of bB
  have HR := hid_of hR
  have HL := hid_of hl
  have HKEY := hid_of hkey
  have HB1 := hid_of t.one_B
  have HTS := hid_of t.one.2.text_size
  have l1 := t.one_lt
  clear h hR hl kA kB bA bB sA hkey
  generalize hW : (w.alloc (.cells #[.string ⟨#[]⟩, .int .i64 0, .bool false, .string ⟨#[]⟩] 193)).alloc (.cells #[.string key, .int .i64 0, .bool false, .string ⟨#[]⟩] 193) = W0 at H0 K0 HBA HBB
  have HW := hid_of hW
  clear hW
  -- the end
  have FIN : Hid (∀ (X : World) (t' : TS) (y : YV), TkAt X r t' v g → Kp (fun b => b = r ∨ b = w.heap.size + 1) W0 X → TkAt (set4 X w.heap.size 0 y) r t' v g ∧ Kp (fun b => b = r) w (set4 X w.heap.size 0 y) ∧ (set4 X w.heap.size 0 y).heap[w.heap.size]? = some (.cells #[.string y.key, .int .i64 y.t, .bool y.gone, .string y.s] 193 (0, 0))) := fun X t' y hX hk => by
    have k4 := kp_set4 X w.heap.size 0 y
    have hA := (hk.block _ (block_lt HBA.out) (fun e => by omega)).trans HBA.out
    exact ⟨hX.kp k4 (fun e => by omega) (fun e => by omega), ((K0.out.mono (fun _ _ e => e.elim)).trans hk (fun b hb e => e.elim (fun e => e) (fun e => by omega))).trans k4 (fun b hb e => by omega), heap_set (heap_set (heap_set (heap_set hA _) _) _) _⟩
  have CB : Hid (∀ X, Kp (fun b => b = r) W0 X → X.heap[w.heap.size + 1]? = some (.cells #[.string key, .int .i64 0, .bool false, .string ⟨#[]⟩] 193 (0, 0))) := fun X hk => (hk.block _ (block_lt HBB.out) (fun e => by omega)).trans HBB.out
  have CA : Hid (∀ X, Kp (fun b => b = r) W0 X → X.heap[w.heap.size]? = some (.cells #[.string ⟨#[]⟩, .int .i64 0, .bool false, .string ⟨#[]⟩] 193 (0, 0))) := fun X hk => (hk.block _ (block_lt HBA.out) (fun e => by omega)).trans HBA.out
  have nr : r ≠ w.heap.size := by omega
  have nr' : w.heap.size ≠ r := by omega
  have nr2 : r ≠ w.heap.size + 1 := by omega
  have nr2' : w.heap.size + 1 ≠ r := by omega
  unfold TS.ver TS.ver0 at HR
  generalize e1 : t.one = t1 at *
  obtain ⟨a, ta⟩ := t1
  simp only at *
  have E1 := hid_of e1
  have hbt := hid_of ta.text_B
  clear e1
  by_cases q0 : a = 0
  · subst q0
    simp only [if_true] at HR
    generalize e2 : ta.text = t2 at *
    obtain ⟨S, tb⟩ := t2
    simp only at *
    have E2 := hid_of e2
    clear e2
    have hS : (S.size : Int) ≤ 255 := by have := HTS.out; omega
    by_cases q1 : isKey key = true
    · by_cases q2 : S.size ≤ 20
      · have q2' : ¬ (20 : Int) < S.size := by omega
        simp only [q1, q2, and_self, if_true] at HR
        go_enter Tryz.func199, Tryz.ntmps199
        go_wp2_with (first
          | (go_at_call 246; rw [HW.out]; refine done1' r t 0 ta E1.out v g W0 H0.out HL.out ?_; intro w1 hT1 hk1; have H1 := hid_of hT1; have HK1 := hid_of hk1; clear hT1 hk1)
          | (go_at_call 198; refine dtextT r ta v g w1 H1.out (by rw [HB1.out]; exact HL.out) ?_; intro w2 hT2 hk2; rw [E2.out] at hT2 ⊢; have H2 := hid_of hT2; have HK2 := hid_of (HK1.out.trans hk2 (fun _ _ h => h)); have b0 := cell_of (CB.out w2 HK2.out) 0; have b1 := cell_of (CB.out w2 HK2.out) 1; have b2 := cell_of (CB.out w2 HK2.out) 2; have b3 := cell_of (CB.out w2 HK2.out) 3; have bf := fun o => frozen_at (CB.out w2 HK2.out) o; have bf2 := bf 2; have bf3 := bf 3; have a0 := cell_of (CA.out w2 HK2.out) 0; have a1 := cell_of (CA.out w2 HK2.out) 1; have a2 := cell_of (CA.out w2 HK2.out) 2; have a3 := cell_of (CA.out w2 HK2.out) 3; have af := fun o => frozen_at (CA.out w2 HK2.out) o; have r2 := cell_of hT2.blk 2; have rf := frozen_at hT2.blk 2; simp at b0 b1 b2 b3 a0 a1 a2 a3 r2; clear hT2 hk2)
          | (go_at_call 151; refine (refKey_any _ _ HKEY.out).mono ?_; rintro e w' ⟨rfl, rfl⟩)
          | fail)
        obtain ⟨h1, h2, h3⟩ := FIN.out (w2.setCell ⟨w.heap.size + 1, 3, none⟩ (.string S)) tb ⟨key, 0, false, S⟩ (TkAt.kp H2.out (Kp.setCell (S := fun b => b = w.heap.size + 1) _ _ _ rfl) (fun e => by omega) (fun e => by omega)) ((HK2.out.mono (fun _ _ e => Or.inl e)).trans (Kp.setCell (S := fun b => b = w.heap.size + 1) _ _ _ rfl) (fun _ _ e => Or.inr e))
        refine bodyPost_ret (results_cell_row rfl _ _ w.heap.size 193 _ (0, 0) _ rfl h3 Tryz.underlying193 rfl (by kernel_rfl)) rfl ?_
        exact HR.out _ h1 h2
      · have q2' : (20 : Int) < S.size := by omega
        simp only [q2, and_false, if_false] at HR
        go_enter Tryz.func199, Tryz.ntmps199
        go_wp2_with (first
          | (go_at_call 246; rw [HW.out]; refine done1' r t 0 ta E1.out v g W0 H0.out HL.out ?_; intro w1 hT1 hk1; have H1 := hid_of hT1; have HK1 := hid_of hk1; clear hT1 hk1)
          | (go_at_call 198; refine dtextT r ta v g w1 H1.out (by rw [HB1.out]; exact HL.out) ?_; intro w2 hT2 hk2; rw [E2.out] at hT2 ⊢; have H2 := hid_of hT2; have HK2 := hid_of (HK1.out.trans hk2 (fun _ _ h => h)); have b0 := cell_of (CB.out w2 HK2.out) 0; have b1 := cell_of (CB.out w2 HK2.out) 1; have b2 := cell_of (CB.out w2 HK2.out) 2; have b3 := cell_of (CB.out w2 HK2.out) 3; have bf := fun o => frozen_at (CB.out w2 HK2.out) o; have bf2 := bf 2; have bf3 := bf 3; have a0 := cell_of (CA.out w2 HK2.out) 0; have a1 := cell_of (CA.out w2 HK2.out) 1; have a2 := cell_of (CA.out w2 HK2.out) 2; have a3 := cell_of (CA.out w2 HK2.out) 3; have af := fun o => frozen_at (CA.out w2 HK2.out) o; have r2 := cell_of hT2.blk 2; have rf := frozen_at hT2.blk 2; simp at b0 b1 b2 b3 a0 a1 a2 a3 r2; clear hT2 hk2)
          | (go_at_call 151; refine (refKey_any _ _ HKEY.out).mono ?_; rintro e w' ⟨rfl, rfl⟩)
          | fail)
        obtain ⟨h1, h2, h3⟩ := FIN.out ((w2.setCell ⟨w.heap.size + 1, 3, none⟩ (.string S)).setCell ⟨r, 2, none⟩ (.bool true)) (TS.wrong tb) ⟨key, 0, false, S⟩ (TkAt.wrong (TkAt.kp H2.out (Kp.setCell (S := fun b => b = w.heap.size + 1) _ _ _ rfl) (fun e => by omega) (fun e => by omega))) (((HK2.out.mono (fun _ _ e => Or.inl e)).trans (Kp.setCell (S := fun b => b = w.heap.size + 1) _ _ _ rfl) (fun _ _ e => Or.inr e)).trans (Kp.setCell (S := fun b => b = r) _ _ _ rfl) (fun _ _ e => Or.inl e))
        refine bodyPost_ret (results_cell_row rfl _ _ w.heap.size 193 _ (0, 0) _ rfl h3 Tryz.underlying193 rfl (by kernel_rfl)) rfl ?_
        exact HR.out _ h1 h2
    · have q1' : isKey key = false := by simpa using q1
      simp only [q1] at HR
      clear q1
      go_enter Tryz.func199, Tryz.ntmps199
      go_wp2_with (first
        | (go_at_call 246; rw [HW.out]; refine done1' r t 0 ta E1.out v g W0 H0.out HL.out ?_; intro w1 hT1 hk1; have H1 := hid_of hT1; have HK1 := hid_of hk1; clear hT1 hk1)
        | (go_at_call 198; refine dtextT r ta v g w1 H1.out (by rw [HB1.out]; exact HL.out) ?_; intro w2 hT2 hk2; rw [E2.out] at hT2 ⊢; have H2 := hid_of hT2; have HK2 := hid_of (HK1.out.trans hk2 (fun _ _ h => h)); have b0 := cell_of (CB.out w2 HK2.out) 0; have b1 := cell_of (CB.out w2 HK2.out) 1; have b2 := cell_of (CB.out w2 HK2.out) 2; have b3 := cell_of (CB.out w2 HK2.out) 3; have bf := fun o => frozen_at (CB.out w2 HK2.out) o; have bf2 := bf 2; have bf3 := bf 3; have a0 := cell_of (CA.out w2 HK2.out) 0; have a1 := cell_of (CA.out w2 HK2.out) 1; have a2 := cell_of (CA.out w2 HK2.out) 2; have a3 := cell_of (CA.out w2 HK2.out) 3; have af := fun o => frozen_at (CA.out w2 HK2.out) o; have r2 := cell_of hT2.blk 2; have rf := frozen_at hT2.blk 2; simp at b0 b1 b2 b3 a0 a1 a2 a3 r2; clear hT2 hk2)
        | (go_at_call 151; refine (refKey_any _ _ HKEY.out).mono ?_; rintro e w' ⟨rfl, rfl⟩)
        | fail)
      obtain ⟨h1, h2, h3⟩ := FIN.out ((w2.setCell ⟨w.heap.size + 1, 3, none⟩ (.string S)).setCell ⟨r, 2, none⟩ (.bool true)) (TS.wrong tb) ⟨key, 0, false, S⟩ (TkAt.wrong (TkAt.kp H2.out (Kp.setCell (S := fun b => b = w.heap.size + 1) _ _ _ rfl) (fun e => by omega) (fun e => by omega))) (((HK2.out.mono (fun _ _ e => Or.inl e)).trans (Kp.setCell (S := fun b => b = w.heap.size + 1) _ _ _ rfl) (fun _ _ e => Or.inr e)).trans (Kp.setCell (S := fun b => b = r) _ _ _ rfl) (fun _ _ e => Or.inl e))
      refine bodyPost_ret (results_cell_row rfl _ _ w.heap.size 193 _ (0, 0) _ rfl h3 Tryz.underlying193 rfl (by kernel_rfl)) rfl ?_
      exact HR.out _ h1 h2
  · have es : eb.size = 0 := rfl
    by_cases q1 : a = 1
    · subst q1
      simp only [if_neg (show ¬ (1 = 0) by omega), if_true, es, Nat.zero_le, and_true] at HR
      clear q0 es
      by_cases q2 : isKey key = true
      · simp only [q2, if_true] at HR
        go_enter Tryz.func199, Tryz.ntmps199
        go_wp2_with (first
          | (go_at_call 246; rw [HW.out]; refine done1' r t 1 ta E1.out v g W0 H0.out HL.out ?_; intro w1 hT1 hk1; have H1 := hid_of hT1; have HK1 := hid_of hk1; have b0 := cell_of (CB.out w1 hk1) 0; have b1 := cell_of (CB.out w1 hk1) 1; have b2 := cell_of (CB.out w1 hk1) 2; have b3 := cell_of (CB.out w1 hk1) 3; have bf := fun o => frozen_at (CB.out w1 hk1) o; have bf2 := bf 2; have bf3 := bf 3; have a0 := cell_of (CA.out w1 hk1) 0; have a1 := cell_of (CA.out w1 hk1) 1; have a2 := cell_of (CA.out w1 hk1) 2; have a3 := cell_of (CA.out w1 hk1) 3; have af := fun o => frozen_at (CA.out w1 hk1) o; have r2 := cell_of hT1.blk 2; have rf := frozen_at hT1.blk 2; simp at b0 b1 b2 b3 a0 a1 a2 a3 r2; clear hT1 hk1)
          | (go_at_call 151; refine (refKey_any _ _ HKEY.out).mono ?_; rintro e w' ⟨rfl, rfl⟩)
          | fail)
        obtain ⟨h1, h2, h3⟩ := FIN.out (w1.setCell ⟨w.heap.size + 1, 2, none⟩ (.bool true)) ta ⟨key, 0, true, eb⟩ (TkAt.kp H1.out (Kp.setCell (S := fun b => b = w.heap.size + 1) _ _ _ rfl) (fun e => by omega) (fun e => by omega)) ((HK1.out.mono (fun _ _ e => Or.inl e)).trans (Kp.setCell (S := fun b => b = w.heap.size + 1) _ _ _ rfl) (fun _ _ e => Or.inr e))
        refine bodyPost_ret (results_cell_row rfl _ _ w.heap.size 193 _ (0, 0) _ rfl h3 Tryz.underlying193 rfl (by kernel_rfl)) rfl ?_
        exact HR.out _ h1 h2
      · simp only [if_neg q2] at HR
        have q2' : isKey key = false := by simpa using q2
        clear q2
        go_enter Tryz.func199, Tryz.ntmps199
        go_wp2_with (first
          | (go_at_call 246; rw [HW.out]; refine done1' r t 1 ta E1.out v g W0 H0.out HL.out ?_; intro w1 hT1 hk1; have H1 := hid_of hT1; have HK1 := hid_of hk1; have b0 := cell_of (CB.out w1 hk1) 0; have b1 := cell_of (CB.out w1 hk1) 1; have b2 := cell_of (CB.out w1 hk1) 2; have b3 := cell_of (CB.out w1 hk1) 3; have bf := fun o => frozen_at (CB.out w1 hk1) o; have bf2 := bf 2; have bf3 := bf 3; have a0 := cell_of (CA.out w1 hk1) 0; have a1 := cell_of (CA.out w1 hk1) 1; have a2 := cell_of (CA.out w1 hk1) 2; have a3 := cell_of (CA.out w1 hk1) 3; have af := fun o => frozen_at (CA.out w1 hk1) o; have r2 := cell_of hT1.blk 2; have rf := frozen_at hT1.blk 2; simp at b0 b1 b2 b3 a0 a1 a2 a3 r2; clear hT1 hk1)
          | (go_at_call 151; refine (refKey_any _ _ HKEY.out).mono ?_; rintro e w' ⟨rfl, rfl⟩)
          | fail)
        obtain ⟨h1, h2, h3⟩ := FIN.out ((w1.setCell ⟨w.heap.size + 1, 2, none⟩ (.bool true)).setCell ⟨r, 2, none⟩ (.bool true)) (TS.wrong ta) ⟨key, 0, true, eb⟩ (TkAt.wrong (TkAt.kp H1.out (Kp.setCell (S := fun b => b = w.heap.size + 1) _ _ _ rfl) (fun e => by omega) (fun e => by omega))) (((HK1.out.mono (fun _ _ e => Or.inl e)).trans (Kp.setCell (S := fun b => b = w.heap.size + 1) _ _ _ rfl) (fun _ _ e => Or.inr e)).trans (Kp.setCell (S := fun b => b = r) _ _ _ rfl) (fun _ _ e => Or.inl e))
        refine bodyPost_ret (results_cell_row rfl _ _ w.heap.size 193 _ (0, 0) _ rfl h3 Tryz.underlying193 rfl (by kernel_rfl)) rfl ?_
        exact HR.out _ h1 h2
    · have q0' : ((a : Int) == 0) = false := by simpa using q0
      have q1' : ((a : Int) == 1) = false := by simp; omega
      simp only [if_neg q0, if_neg q1, es, Nat.zero_le, and_true] at HR
      clear es
      by_cases q2 : isKey key = true
      · simp only [q2, if_true] at HR
        go_enter Tryz.func199, Tryz.ntmps199
        go_wp2_with (first
          | (go_at_call 246; rw [HW.out]; refine done1' r t a ta E1.out v g W0 H0.out HL.out ?_; intro w1 hT1 hk1; have H1 := hid_of hT1; have HK1 := hid_of hk1; have b0 := cell_of (CB.out w1 hk1) 0; have b1 := cell_of (CB.out w1 hk1) 1; have b2 := cell_of (CB.out w1 hk1) 2; have b3 := cell_of (CB.out w1 hk1) 3; have bf := fun o => frozen_at (CB.out w1 hk1) o; have bf2 := bf 2; have bf3 := bf 3; have a0 := cell_of (CA.out w1 hk1) 0; have a1 := cell_of (CA.out w1 hk1) 1; have a2 := cell_of (CA.out w1 hk1) 2; have a3 := cell_of (CA.out w1 hk1) 3; have af := fun o => frozen_at (CA.out w1 hk1) o; have r2 := cell_of hT1.blk 2; have rf := frozen_at hT1.blk 2; simp at b0 b1 b2 b3 a0 a1 a2 a3 r2; clear hT1 hk1)
          | (go_at_call 151; refine (refKey_any _ _ HKEY.out).mono ?_; rintro e w' ⟨rfl, rfl⟩)
          | fail)
        obtain ⟨h1, h2, h3⟩ := FIN.out (w1.setCell ⟨r, 2, none⟩ (.bool true)) (TS.wrong ta) ⟨key, 0, false, eb⟩ (TkAt.wrong H1.out) ((HK1.out.mono (fun _ _ e => Or.inl e)).trans (Kp.setCell (S := fun b => b = r) _ _ _ rfl) (fun _ _ e => Or.inl e))
        refine bodyPost_ret (results_cell_row rfl _ _ w.heap.size 193 _ (0, 0) _ rfl h3 Tryz.underlying193 rfl (by kernel_rfl)) rfl ?_
        exact HR.out _ h1 h2
      · simp only [if_neg q2] at HR
        have q2' : isKey key = false := by simpa using q2
        clear q2
        go_enter Tryz.func199, Tryz.ntmps199
        go_wp2_with (first
          | (go_at_call 246; rw [HW.out]; refine done1' r t a ta E1.out v g W0 H0.out HL.out ?_; intro w1 hT1 hk1; have H1 := hid_of hT1; have HK1 := hid_of hk1; have b0 := cell_of (CB.out w1 hk1) 0; have b1 := cell_of (CB.out w1 hk1) 1; have b2 := cell_of (CB.out w1 hk1) 2; have b3 := cell_of (CB.out w1 hk1) 3; have bf := fun o => frozen_at (CB.out w1 hk1) o; have bf2 := bf 2; have bf3 := bf 3; have a0 := cell_of (CA.out w1 hk1) 0; have a1 := cell_of (CA.out w1 hk1) 1; have a2 := cell_of (CA.out w1 hk1) 2; have a3 := cell_of (CA.out w1 hk1) 3; have af := fun o => frozen_at (CA.out w1 hk1) o; have r2 := cell_of hT1.blk 2; have rf := frozen_at hT1.blk 2; simp at b0 b1 b2 b3 a0 a1 a2 a3 r2; clear hT1 hk1)
          | (go_at_call 151; refine (refKey_any _ _ HKEY.out).mono ?_; rintro e w' ⟨rfl, rfl⟩)
          | fail)
        obtain ⟨h1, h2, h3⟩ := FIN.out ((w1.setCell ⟨r, 2, none⟩ (.bool true)).setCell ⟨r, 2, none⟩ (.bool true)) (TS.wrong (TS.wrong ta)) ⟨key, 0, false, eb⟩ (TkAt.wrong (TkAt.wrong H1.out)) (((HK1.out.mono (fun _ _ e => Or.inl e)).trans (Kp.setCell (S := fun b => b = r) _ _ _ rfl) (fun _ _ e => Or.inl e)).trans (Kp.setCell (S := fun b => b = r) _ _ _ rfl) (fun _ _ e => Or.inl e))
        refine bodyPost_ret (results_cell_row rfl _ _ w.heap.size 193 _ (0, 0) _ rfl h3 Tryz.underlying193 rfl (by kernel_rfl)) rfl ?_
        exact HR.out _ h1 h2

end

end Go.Proofs.YthbdpfccfcceiaaGreatDoor
