/-
  What a file's records say is done: replay.
  replay, walked.
-/
import Derived.Test.YthbdpfccfcceiaaGreatDoorF13F20
namespace Go.Proofs.YthbdpfccfcceiaaGreatDoor
open Go.RowKit Go.Maps Go.Lib

section
variable {own own' : Nat → Lab} {c : Nat} {w w' : World} {p : Nat} {s : XS}
variable {R : Ending → World → Prop}

theorem x_do_rec (h : XE own c w p s) (ok : XOk s) (hT : Tab w) (hN : TabN own c) (r : RecV) (hr : RecOk r.k r.ws) (hlt : r.t < 4294967296) (hhor : r.k = 72 → r.u = .slice none 0 0) {base : Nat} (hw : WR base w r.u r.ws) (hown : ∀ b, r.u.ownBlock = some b → (own b).c ≠ c) (hm : mayF s r.k r.t = true)
    (hR : ∀ w' own' s', Kp (fun b => (own b).c = c) w w' → (∀ b, b < w.heap.size → own' b = own b) → XE own' c w' p s' → Did r s s' → R (.returned (.tuple #[])) w') :
    Calls Tryz.prog 46 #[.pointer (some ⟨p, 0, none⟩), .agg #[.int .u8 r.k, .int .i64 r.t, r.u]] w R := by
  obtain ⟨mo, ph, mv, mm, pt, mw, sl, h⟩ := h
  have a1 := ok.now
  have a2 := ok.hor
  have a3 := ok.lgl
  have a4 := ok.nv
  have a5 := ok.nm
  by_cases hk : r.k = 72
  · rw [hk, hhor hk]
    refine x_do_hor h hT hN r.t hlt (by omega) ok.lgb (fun w' own' l' k ho hlg hsy hx => hR w' own' _ k ho ⟨mo, ph, mv, mm, pt, mw, sl, hx⟩ ⟨l', hsy, Or.inl ⟨hk, hlg, rfl⟩⟩)
  · rcases hr with ⟨h1, _⟩ | ⟨h1, hpw, hl1, hl2, hok⟩
    · exact absurd h1 hk
    · rw [h1]
      rw [mayF, if_neg hk] at hm
      simp only [Bool.and_eq_true, decide_eq_true_eq] at hm
      have hu : r.u.oneCell' = true := by
        obtain ⟨a, cap, e⟩ := ownsRow_slice hw
        rw [e]; rfl
      refine x_do_commit h hT hN r.u r.ws hu hw.rd (fun e => by rw [e] at hl1; simp at hl1) (pairwise_nodup hpw) hl2 (fun x hx => ⟨isKey_le x.1 (hok x hx).1, (hok x hx).2.1⟩) hown (by omega) ok.lgb ⟨a1.1, hm.2⟩ (fun k => by have := ok.len k; omega) (by omega) (by omega) r.t hm.1 (fun w' own' sl' l' nv nm k ho hlg hsy hnv hnm hx => hR w' own' _ k ho ⟨mo, ph, mv, mm, pt, mw, sl', hx⟩ ⟨l', hsy, Or.inr ⟨hk, hlg, nv, nm, hnv, hnm, rfl⟩⟩)

theorem flat3 {α : Type} (f : α → List Value) (hf : ∀ a, (f a).length = 3) : ∀ (l : List α) (i : Nat) (a : α), l[i]? = some a → ∀ j, j < 3 → (l.flatMap f)[i * 3 + j]? = (f a)[j]?
  | [], _, _, h, _, _ => by simp at h
  | y :: r, 0, a, h, j, hj => by
    simp at h
    subst h
    rw [List.flatMap_cons, List.getElem?_append_left (by rw [hf]; omega)]
    simp
  | y :: r, i + 1, a, h, j, hj => by
    have ih := flat3 f hf r i a (by simpa using h) j hj
    rw [List.flatMap_cons, List.getElem?_append_right (by rw [hf]; omega), hf]
    rw [show (i + 1) * 3 + j - 3 = i * 3 + j by omega]
    exact ih

theorem RecsR.kp {base : Nat} {v : Value} {l : List RecV} {S : Nat → Prop} (h : RecsR base w v l) (k : Kp S w w') (hs : ∀ b, base ≤ b → b < w.heap.size → ¬ S b) : RecsR base w' v l :=
  ⟨ownsRow_kp h.row k (fun b e => hs b (h.row.lt b e).1 (h.row.lt b e).2), fun r hr => ownsRow_kp (h.wr r hr) k (fun b e => hs b ((h.wr r hr).lt b e).1 ((h.wr r hr).lt b e).2), h.hor, h.lt⟩

theorem RecsR.cell {base g n cap : Nat} {l : List RecV} (h : RecsR base w (.slice (some ⟨g, 0, none⟩) n cap) l) {i : Nat} {r : RecV} (hi : l[i]? = some r) :
    w.cell? ⟨g, i * 3, none⟩ = some (.int .u8 r.k) ∧ w.cell? ⟨g, i * 3 + 1, none⟩ = some (.int .i64 r.t) ∧ w.cell? ⟨g, i * 3 + 2, none⟩ = some r.u := by
  have hc := World.ownsRow.cells h.row (g := g) rfl
  have hf := flat3 RecV.cells (fun _ => rfl) l i r hi
  refine ⟨?_, ?_, ?_⟩
  · have := hc (i * 3 + 0) _ (hf 0 (by omega))
    rw [addr_add, Nat.zero_add] at this
    exact this
  · have := hc (i * 3 + 1) _ (hf 1 (by omega))
    rw [addr_add, Nat.zero_add] at this
    exact this
  · have := hc (i * 3 + 2) _ (hf 2 (by omega))
    rw [addr_add, Nat.zero_add] at this
    exact this

/-- What replay makes of a file. -/
def Replayed (bs : List UInt8) (num : Nat) (s s' : XS) (b : Bool) : Prop :=
  (cutO bs ≠ some num ∧ s' = s ∧ b = false) ∨ ∃ l rest, FileIs bs num l rest ∧
    ((∃ (i : Nat) (r : RecV), l[i]? = some r ∧ DoneAll (l.take i) s s' ∧ mayF s' r.k r.t = false ∧ b = false) ∨ (DoneAll l s s' ∧ b = (decide (rest = []) && decide (l.length = 4))))

structure MidP (own : Nat → Lab) (c : Nat) (w1 : World) (p : Nat) (s : XS) (l : List RecV) (i : Nat) (wr : World) (own' : Nat → Lab) (s' : XS) : Prop where
  x : XE own' c wr p s'
  ok : XOk s'
  txs : ∀ n, s'.txs n = none
  bk : s'.bk = s.bk
  beg : s'.begun = s.begun
  done : DoneAll (l.take i) s s'
  kp : Kp (fun b => (own b).c = c) w1 wr
  old : ∀ b, b < w1.heap.size → own' b = own b

end

end Go.Proofs.YthbdpfccfcceiaaGreatDoor

namespace Go.Proofs.YthbdpfccfcceiaaGreatDoor
open Go.RowKit Go.Maps Go.Lib

section
variable {own own' : Nat → Lab} {c : Nat} {w w' : World} {p : Nat} {s : XS}
variable {R : Ending → World → Prop}

theorem MidP.step {own : Nat → Lab} {w1 wr w3 : World} {l : List RecV} {i : Nat} {own3 : Nat → Lab} {s1 s3 : XS} {r : RecV} (h : MidP own c w1 p s l i wr own' s1) (hi : l[i]? = some r) (hr : RecOk r.k r.ws) (hm : mayF s1 r.k r.t = true)
    {w2 : World} (k2 : Kp (fun _ => False) wr w2) (k3 : Kp (fun b => (own' b).c = c) w2 w3) (ho : ∀ b, b < w2.heap.size → own3 b = own' b) (hx : XE own3 c w3 p s3) (hd : Did r s1 s3) : MidP own c w1 p s l (i + 1) w3 own3 s3 := by
  obtain ⟨h1, h2, h3, h4⟩ := h.ok.did h.txs hr hm hd
  have hlt : i < l.length := (List.getElem?_eq_some_iff.1 hi).1
  refine ⟨hx, h1, h2, h3.trans h.bk, h4.trans h.beg, ?_, (h.kp.trans (k2.mono (S' := fun b => (own b).c = c) (fun _ _ e => e.elim)) (fun _ _ e => e)).trans k3 (fun b hb e => ?_), fun b hb => ?_⟩
  · have e : l.take (i + 1) = l.take i ++ [r] := by
      rw [List.take_succ_eq_append_getElem hlt, (List.getElem?_eq_some_iff.1 hi).2]
    rw [e]
    exact h.done.snoc hm hd
  · have hb' : own' b = own b := h.old b hb
    rw [hb'] at e
    exact e
  · have := h.kp.size
    have := k2.size
    rw [ho b (by omega)]
    exact h.old b hb

theorem xe_kept (h : XE own c w p s) (k : Kp (fun _ => False) w w') : XE own c w' p s := by
  obtain ⟨mo, ph, mv, mm, pt, mw, sl, h⟩ := h
  exact ⟨mo, ph, mv, mm, pt, mw, sl, h.kept k⟩
theorem Tab.kpN (h : Tab w) (k : Kp (fun b => (own b).c = c) w w') (hN : TabN own c) : Tab w' :=
  h.block (k.block 0 h.lt.1 hN.1) (k.block 1 h.lt.2 hN.2)
theorem tabN_of (h : Tab w) (hN : TabN own c) (ho : ∀ b, b < w.heap.size → own' b = own b) : TabN own' c := by
  unfold TabN
  rw [ho 0 h.lt.1, ho 1 h.lt.2]
  exact hN

set_option maxRecDepth 20000 in
set_option maxHeartbeats 2000000 in
theorem x_replay (h : XE own c w p s) (ok : XOk s) (hno : ∀ n, s.txs n = none) (hT : Tab w) (hN : TabN own c) (v : Value) (bs : List UInt8) (g : Nat) (hv : RdN w v bs g) (hl : bs.length ≤ 1000000) (hf : FileFine bs) (num : Nat) (hnum : num < 4294967296)
    (hR : ∀ w' own' s' (b : Bool), Kp (fun b => (own b).c = c) w w' → (∀ b, b < w.heap.size → own' b = own b) → XE own' c w' p s' → XOk s' → (∀ n, s'.txs n = none) → s'.bk = s.bk → s'.begun = s.begun → Replayed bs num s s' b → R (.returned (.bool b)) w') :
    Calls Tryz.prog 41 #[.pointer (some ⟨p, 0, none⟩), v, .int .i64 num] w R := by
  have H := hid_of h
  have OK := hid_of ok
  have HNO := hid_of hno
  have HT := hid_of hT
  have HN := hid_of hN
  have HV := hid_of hv
  have HL := hid_of hl
  have HF := hid_of hf
  have HR := hid_of hR
  clear h ok hno hT hN hv hl hf hR
  go_enter Tryz.func41, Tryz.ntmps41
  go_wp2_with (first
    | (go_at_call 75; refine read_any v bs g w HV.out HT.out HL.out HF.out ?_ ?_)
    | fail)
  · intro e w1 hk1
    have HF1 := hid_of (HR.out w1 own s false (hk1.own_of (fun _ h => h.elim)) (fun _ _ => rfl) (by obtain ⟨mo, ph, mv, mm, pt, mw, sl, h⟩ := H.out; exact ⟨mo, ph, mv, mm, pt, mw, sl, h.kept hk1⟩) OK.out HNO.out rfl rfl (Or.inl ⟨by rw [e]; simp, rfl, rfl⟩))
    clear e hk1
    by_cases q : num = 0
    · subst q
      go_wp2_with fail
      go_loopw [23] (fun v23 wr => v23 = .int .i64 0 ∧ wr = w1) (fun _ _ => 0)
      case atStart => exact ⟨rfl, rfl⟩
      case round =>
        obtain ⟨rfl, rfl⟩ := hrel
        go_wp2_with fail
        exact HF1.out
    · have q' : ((0 : Int) == num) = false := by simp; omega
      clear q
      go_wp2_with fail
      exact HF1.out
  · intro n l rest v1 w1 hfi hk1 hrs
    obtain ⟨pu, cu, rfl⟩ := ownsRow_slice hrs.row
    have HX1 : Hid (XE (outer own c w.heap.size) c w1 p s) := by
      obtain ⟨mo, ph, mv, mm, pt, mw, sl, h⟩ := H.out
      exact ⟨mo, ph, mv, mm, pt, mw, sl, h.outer hk1⟩
    have HT1 := hid_of (HT.out.kept hk1)
    have HN1 := hid_of (HN.out.outer HT.out)
    have HK1 := hid_of hk1
    have HFI := hid_of hfi
    have HRS := hid_of hrs
    have hl4 : (l.length : Int) ≤ 4 := by have := hfi.le; omega
    clear hfi hk1 hrs
    by_cases q : n = num
    · subst q
      have qq : ((n : Int) == n) = true := by simp
      go_wp2_with fail
      go_loopw [23] (fun v23 wr => ∃ (i : Nat) (own' : Nat → Lab) (s' : XS), i ≤ l.length ∧ v23 = .int .i64 i ∧ MidP (outer own c w.heap.size) c w1 p s l i wr own' s') (fun v23 _ => l.length - (intOf v23).toNat)
      case atStart => exact ⟨0, _, s, Nat.zero_le _, rfl, HX1.out, OK.out, HNO.out, rfl, rfl, rfl, Kp.refl _ _, fun _ _ => rfl⟩
      case round =>
        obtain ⟨i, own2, s2, hi, rfl, hM⟩ := hrel
        have HM := hid_of hM
        have HKW : Hid (Kp (fun b => (own b).c = c) w wr) := (HK1.out.own_of (fun _ h => h.elim)).trans hM.kp (fun b hb e => by rw [outer_old hb] at e; exact e)
        have HOLD : Hid (∀ b, b < w.heap.size → own2 b = own b) := fun b hb => by
          rw [hM.old b (Nat.lt_of_lt_of_le hb HK1.out.size), outer_old hb]
        clear hM
        by_cases hlt : i < l.length
        · have hlt' : (i : Int) < l.length := by omega
          obtain ⟨gr, cr, cur, er, _, _⟩ := ownsRow_some HRS.out.row (by omega)
          injection er with er _ ecu
          subst er
          obtain ⟨r, hri⟩ : ∃ r, l[i]? = some r := ⟨l[i], List.getElem?_eq_getElem hlt⟩
          have hrs := HRS.out.kp HM.out.kp (fun b h1 _ e => outer_new h1 e)
          obtain ⟨c0, c1, c2⟩ := hrs.cell hri
          have hmem := List.mem_of_getElem? hri
          have HRO := hid_of (HFI.out.recs.ok r hmem)
          have HRT := hid_of (hrs.lt r hmem)
          have HRH := hid_of (hrs.hor r hmem)
          have HRW := hid_of (hrs.wr r hmem)
          have HWO : Hid (∀ b, r.u.ownBlock = some b → (own2 b).c ≠ c) := fun b e => by
            have h1 := (HRS.out.wr r hmem).lt b e
            rw [HM.out.old b h1.2]
            exact outer_new h1.1
          obtain ⟨a3, c3, eu⟩ := ownsRow_slice HRW.out
          have HRI := hid_of hri
          have HRK : Hid (r.k < 256) := by
            show _ < _
            rcases HRO.out with ⟨h, _⟩ | ⟨h, _⟩ <;> omega
          have hrk' : (r.k : Int) < 256 := by have := HRK.out; omega
          have hrt' : (r.t : Int) < 4294967296 := by have := HRT.out; omega
          rw [eu] at c2
          obtain ⟨mo, ph, mv, mm, pt, mw, sl, hx2⟩ := HM.out.x
          have kB := Kp.alloc (fun _ => False) wr (.cells #[.int .u8 r.k, .int .i64 r.t, .slice a3 r.ws.length c3] 110)
          have bB := heap_alloc_new wr (.cells #[.int .u8 r.k, .int .i64 r.t, .slice a3 r.ws.length c3] 110)
          have HXB := hid_of (hx2.kept kB)
          have KB := hid_of kB
          have BB := hid_of bB
          have EU := hid_of eu
          clear hrs hmem hx2 kB bB hri hlt ecu eu
          by_cases hm : mayF s2 r.k r.t = true
          · go_wp2_with (first
              | (go_at_call 76; refine x_mayFollow HXB.out HM.out.ok.now r.k r.t HRK.out a3 r.ws.length c3 ?_; intro w3 hk3; rw [hm]; have K3 := hid_of (KB.out.trans hk3 (fun _ _ h => h)); have b3 := (hk3.block _ (block_lt BB.out) (fun e => e)).trans BB.out; have d0 : w3.cell? ⟨wr.heap.size, 0, none⟩ = some (.int .u8 r.k) := cell_of b3 0; have d1 : w3.cell? ⟨wr.heap.size, 1, none⟩ = some (.int .i64 r.t) := cell_of b3 1; have d2 : w3.cell? ⟨wr.heap.size, 2, none⟩ = some (.slice a3 r.ws.length c3) := cell_of b3 2; clear hk3 b3)
              | (go_at_call 46; rw [← EU.out]; refine x_do_rec (xe_kept HM.out.x K3.out) HM.out.ok (HT1.out.kpN HM.out.kp HN1.out |>.kept K3.out) (tabN_of HT1.out HN1.out HM.out.old) r HRO.out HRT.out HRH.out (ownsRow_kp HRW.out K3.out (fun _ _ e => e)) HWO.out hm ?_; intro w4 own4 s4 hk4 ho4 hx4 hd4; have HM4 := hid_of (HM.out.step HRI.out HRO.out hm K3.out hk4 ho4 hx4 hd4); clear hk4 ho4 hx4 hd4)
              | fail)
            go_roundw
            case rel => exact ⟨i + 1, own4, s4, by omega, by go_num, HM4.out⟩
            case measure => simp [intOf]; omega
          · have hm' : mayF s2 r.k r.t = false := by simpa using hm
            clear hm
            go_wp2_with (first
              | (go_at_call 76; refine x_mayFollow HXB.out HM.out.ok.now r.k r.t HRK.out a3 r.ws.length c3 ?_; intro w3 hk3; rw [hm']; have K3 := hid_of (KB.out.trans hk3 (fun _ _ h => h)); clear hk3)
              | fail)
            exact HR.out _ own2 s2 false (HKW.out.trans (K3.out.own_of (fun _ h => h.elim)) (fun _ _ h => h)) HOLD.out (xe_kept HM.out.x K3.out) HM.out.ok HM.out.txs HM.out.bk HM.out.beg (Or.inr ⟨l, rest, HFI.out, Or.inl ⟨i, r, HRI.out, HM.out.done, hm', rfl⟩⟩)
        · have hie : i = l.length := by omega
          subst hie
          have hdone : DoneAll l s s2 := by have := HM.out.done; rw [List.take_length] at this; exact this
          have HFN := hid_of (fun b hb => HR.out wr own2 s2 b HKW.out HOLD.out HM.out.x HM.out.ok HM.out.txs HM.out.bk HM.out.beg (Or.inr ⟨l, rest, HFI.out, Or.inr ⟨hdone, hb⟩⟩))
          clear hdone hi hlt
          by_cases q0 : rest = []
          · have e0 : decide (rest = []) = true := by simpa using q0
            by_cases q4 : l.length = 4
            · have HF1 := hid_of (HFN.out true (by simp [q0, q4]))
              have e4 : ((l.length : Int) == 4) = true := by simp; omega
              rw [e0]
              clear q0 q4
              go_wp2_with fail
              exact HF1.out
            · have HF1 := hid_of (HFN.out false (by simp [q4]))
              have e4 : ((l.length : Int) == 4) = false := by simp; omega
              rw [e0]
              clear q0 q4
              go_wp2_with fail
              exact HF1.out
          · have e0 : decide (rest = []) = false := by simpa using q0
            have HF1 := hid_of (HFN.out false (by simp [q0]))
            rw [e0]
            clear q0
            go_wp2_with fail
            exact HF1.out
    · have q' : ((n : Int) == num) = false := by simp; omega
      have HF1 := hid_of (HR.out w1 own s false (HK1.out.own_of (fun _ h => h.elim)) (fun _ _ => rfl) (by obtain ⟨mo, ph, mv, mm, pt, mw, sl, h⟩ := H.out; exact ⟨mo, ph, mv, mm, pt, mw, sl, h.kept HK1.out⟩) OK.out HNO.out rfl rfl (Or.inl ⟨by rw [HFI.out.num]; simpa using q, rfl, rfl⟩))
      clear q
      go_wp2_with fail
      exact HF1.out

end

end Go.Proofs.YthbdpfccfcceiaaGreatDoor
