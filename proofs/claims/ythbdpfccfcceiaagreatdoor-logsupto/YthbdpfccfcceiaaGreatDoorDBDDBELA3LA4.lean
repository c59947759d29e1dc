/-
  The document's answer: what a file says is done (reads).
  The document's answer: Recover, of any files.
  Steps of the law on one pair of stores: Sync, Files, Crash.
  The law: lists of bytes that are lent (lend).
-/
import Derived.Test.YthbdpfccfcceiaaGreatDoorLA1LA2G13DBC
import Derived.Test.YthbdpfccfcceiaaGreatDoorZ2G7G11
import Derived.Test.YthbdpfccfcceiaaGreatDoorG10V2T7F4
import Derived.Laws.CopyOwn
import Derived.Deep.OwnRows
namespace Go.Proofs.YthbdpfccfcceiaaGreatDoor
open Go.RowKit Go.Maps Go.Lib

theorem CutIs.ok {bs m : List UInt8} {k t : Nat} {ws : List W3} (h : CutIs bs k t ws m) : RecOk k ws := by
  obtain ⟨_, _, _, h⟩ := h
  exact h.ok

theorem ye_rebase {own : Nat → Lab} {c n : Nat} {w w1 : World} {p : Nat} {y : YS} (h : YE own c w p y) (k : Kp (fun b => b = n) w w1) (h8 : own n = lab8) (hc : c ≠ 0) : YE (base9 own w.heap.size) c w1 p y :=
  h.frame (fun b hb e => k.block b hb (fun (e2 : b = n) => by
    rw [e2, h8] at e
    rcases e with e | e
    · exact hc e.symm
    · simp [lab8, lab9] at e)) (fun b hb _ => base9_old hb)

section
variable {own own' : Nat → Lab} {c : Nat} {w w' : World} {p : Nat} {y : YS}
variable {R : Ending → World → Prop}

set_option maxRecDepth 20000 in
set_option maxHeartbeats 4000000 in
theorem dreads (h : YE own c w p y) (hi : YI y) (hno : y.txs = []) (hc : c ≠ 0) (num : Nat) (hnum : num < 4294967296) (v : Value) (bs : List UInt8) (g : Nat) (hv : RdN w v bs g) (hgl : g < w.heap.size) (hgc : (own g).c ≠ c) (hl : bs.length ≤ 1100000)
    (hR : ∀ w' own' y' b, Kp (fun b => (own b).c = c) w w' → (∀ b, b < w.heap.size → own' b = own b) → YE own' c w' p y' → YI y' → y'.txs = [] → ReplY bs num y y' b → R (.returned (.bool b)) w') :
    Calls Tryz.prog 148 #[.pointer (some ⟨p, 0, none⟩), .int .i64 (num : Nat), v] w R := by
  obtain ⟨pv, cv, rfl, hcv, hrd⟩ := id hv
  have H0 : Hid (TkAt (w.alloc (.cells #[.slice pv bs.length cv, .int .i64 0, .bool false] 307)) w.heap.size (TS.new bs) (.slice pv bs.length cv) g) :=
    ⟨heap_alloc_new w _, hv.kp (Kp.alloc (fun _ => False) w _) (fun e => e), by omega, Nat.zero_le _⟩
  have HYE := hid_of (ye_kept (own1 := base8 own w.heap.size) h (Kp.alloc (fun _ => False) w (.cells #[.slice pv bs.length cv, .int .i64 0, .bool false] 307)) (fun b hb => base8_old hb))
  have HM0 : Hid (∀ ok w1 t1 L rest, TkAt w1 w.heap.size t1 (.slice pv bs.length cv) g → Kp (fun b => b = w.heap.size) (w.alloc (.cells #[.slice pv bs.length cv, .int .i64 0, .bool false] 307)) w1 → (ok = true → Has t1 rest ∧ t1.B = bs ∧ cutO bs = some num ∧ Part (bs.drop 11) y L rest y ∧ L.length = 0) → (ok = false → ReplY bs num y y false) → MidDoc own c w p y bs num g (.slice pv bs.length cv) 0 ok w1 (base8 own w.heap.size) y t1 L rest) := fun ok w1 t1 L rest ht hk h1 h2 =>
    ⟨ye_step HYE.out (base8_at _) hc hk, hi, hno, ht, (Kp.alloc (fun b => (own b).c = c) w _).trans hk (fun b hb e => by omega), fun b hb => base8_old hb, base8_at _, h1, h2⟩
  have HC := hid_of hc
  have HNUM := hid_of hnum
  have HL := hid_of hl
  have HR := hid_of hR
  have HGL := hid_of hgl
  have HGC := hid_of hgc
  clear h hi hno hnum hv hgl hgc hR hcv hrd
  by_cases q : cutO bs = some num
  · have HQ := hid_of q
    clear q
    go_enter Tryz.func148, Tryz.ntmps148
    go_wp2_with (first
      | (go_at_call 194; refine dopens _ bs num _ g _ H0.out HNUM.out HL.out (fun hn => absurd HQ.out hn) ?_; intro _ w1 t1 hT1 hh1 htB1 hk1; have HM := hid_of (HM0.out true w1 t1 [] (bs.drop 11) hT1 hk1 (fun _ => ⟨hh1, htB1, HQ.out, ⟨rfl, rfl⟩, rfl⟩) (fun e => by cases e)); clear hT1 hh1 htB1 hk1)
      | fail)
    go_loopw [8, 9, 10, 11] (fun v8 v9 _ _ wr => ∃ (i : Nat) (ok : Bool) (own' : Nat → Lab) (y' : YS) (t : TS) (L : List Rc) (rest : List UInt8), i ≤ 4 ∧ v9 = .int .i64 i ∧ v8 = .bool ok ∧ MidDoc own c w p y bs num g (.slice pv bs.length cv) i ok wr own' y' t L rest) (fun _ v9 _ _ _ => 4 - (intOf v9).toNat)
    case atStart => exact ⟨0, true, _, _, _, _, _, by omega, rfl, rfl, HM.out⟩
    case round =>
      clear HM
      obtain ⟨i, ok, own', y', t, L, rest, hi4, rfl, rfl, hm⟩ := hrel
      have HM := hid_of hm
      have z1 := cell_of hm.tk.blk 1
      simp at z1
      cases ok with
      | true =>
        by_cases qi : i < 4
        · have qi' : (i : Int) < 4 := by omega
          obtain ⟨hh, htB, _, _, _⟩ := hm.going rfl
          have HH := hid_of hh
          have HTB : Hid (t.B.length ≤ 1100000) := by show _ ≤ _; rw [htB]; exact HL.out
          clear hm hh htB hi4 z1
          by_cases hA : ∃ k T ws m, CutIs rest k T ws m ∧ (k = 67 → 1 ≤ T ∧ T ≤ 2000)
          · obtain ⟨k, T, ws, m, hcut, hT2⟩ := hA
            have HCUT := hid_of hcut
            have HT2 := hid_of hT2
            have HNOT : Hid (¬ ∀ k T ws m, CutIs rest k T ws m → k = 67 ∧ ¬ (1 ≤ T ∧ T ≤ 2000)) := fun hn => by
              obtain ⟨e1, e2⟩ := hn k T ws m hcut
              exact e2 (hT2 e1)
            clear hcut hT2
            by_cases hm : mayR y'.hor y'.now ⟨k, T, ws⟩
            · have HMAY := hid_of hm
              clear hm
              go_wp2_with (first
                | (go_at_call 195; refine drecord _ t rest _ g _ HM.out.tk HH.out HM.out.size (Nat.lt_trans HGL.out HM.out.size) HTB.out (fun hn => absurd hn HNOT.out) ?_; intro k1 T1 ws1 m1 w2 t2 pW cW pb nb cb hcut1 _ hTl hh2 htB2 htk2 hk2 hrow2 hbd2; obtain ⟨e1, e2, e3, e4⟩ := HCUT.out.uniq hcut1; subst e1 e2 e3 e4; have HY2 := hid_of (fun o => ye_kept (own1 := base9 own' wr.heap.size) (ye_rebase HM.out.ye hk2 HM.out.nine HC.out) (Kp.alloc (fun _ => False) w2 o) (fun _ _ => rfl)); have HTK2 := hid_of htk2; have HK2 := hid_of hk2; have HTL := hid_of hTl; have HH2 := hid_of hh2; have HTB2 := hid_of htB2; have HROW2 := hid_of (fun o => ownsRow_kp hrow2 (Kp.alloc (fun _ => False) w2 o) (fun _ _ e => e)); have HBD2 := hid_of (fun o => hbd2.kp (Kp.alloc (fun _ => False) w2 o) (fun e => e)); have HLB := hid_of (fun b e => (hrow2.lt b e).1); clear hcut1 hTl hh2 htB2 htk2 hk2 hrow2 hbd2)
                | (go_at_call 196; refine e_takes (HY2.out _) HM.out.yi HC.out (fun b hb => base9_new (by have := HK2.out.size; simp at hb; omega)) k T ws HCUT.out.ok HTL.out HT2.out pW cW _ (HROW2.out _) (fun b e => by rw [base9_new (by have := HLB.out b e; omega)]; exact fun e => HC.out e.symm) pb nb cb g (by rw [base9_old (by have := HGL.out; have := HM.out.size; omega), HM.out.old g HGL.out]; exact HGC.out) (HBD2.out _) (fun hn => absurd HMAY.out hn) ?_; intro _ w3 own3 k3 a3 ye3; have HE := hid_of (HM.out.taken HC.out HGL.out HGC.out HCUT.out.ok HCUT.out HMAY.out HH2.out HTB2.out HTK2.out HK2.out (Kp.alloc (fun _ => False) _ _) k3 a3 ye3); clear k3 a3 ye3)
                | fail)
              go_roundw
              case rel => exact ⟨i + 1, true, _, _, _, _, _, by omega, by go_num, rfl, HE.out⟩
              case measure => simp [intOf]; omega
            · have HMAY := hid_of hm
              clear hm
              go_wp2_with (first
                | (go_at_call 195; refine drecord _ t rest _ g _ HM.out.tk HH.out HM.out.size (Nat.lt_trans HGL.out HM.out.size) HTB.out (fun hn => absurd hn HNOT.out) ?_; intro k1 T1 ws1 m1 w2 t2 pW cW pb nb cb hcut1 _ hTl hh2 htB2 htk2 hk2 hrow2 hbd2; obtain ⟨e1, e2, e3, e4⟩ := HCUT.out.uniq hcut1; subst e1 e2 e3 e4; have HY2 := hid_of (fun o => ye_kept (own1 := base9 own' wr.heap.size) (ye_rebase HM.out.ye hk2 HM.out.nine HC.out) (Kp.alloc (fun _ => False) w2 o) (fun _ _ => rfl)); have HTK2 := hid_of htk2; have HK2 := hid_of hk2; have HTL := hid_of hTl; have HROW2 := hid_of (fun o => ownsRow_kp hrow2 (Kp.alloc (fun _ => False) w2 o) (fun _ _ e => e)); have HBD2 := hid_of (fun o => hbd2.kp (Kp.alloc (fun _ => False) w2 o) (fun e => e)); have HLB := hid_of (fun b e => (hrow2.lt b e).1); clear hcut1 hTl hh2 htB2 htk2 hk2 hrow2 hbd2)
                | (go_at_call 196; refine e_takes (HY2.out _) HM.out.yi HC.out (fun b hb => base9_new (by have := HK2.out.size; simp at hb; omega)) k T ws HCUT.out.ok HTL.out HT2.out pW cW _ (HROW2.out _) (fun b e => by rw [base9_new (by have := HLB.out b e; omega)]; exact fun e => HC.out e.symm) pb nb cb g (by rw [base9_old (by have := HGL.out; have := HM.out.size; omega), HM.out.old g HGL.out]; exact HGC.out) (HBD2.out _) ?_ (fun hn => absurd hn HMAY.out); intro _ w3 k3; have HE := hid_of (HM.out.refused qi HC.out HGL.out HCUT.out HMAY.out HTK2.out HK2.out ((Kp.alloc (fun _ => False) _ _).trans k3 (fun _ _ e => e))); clear k3)
                | fail)
              go_roundw
              case rel => exact ⟨i + 1, false, _, _, _, _, _, by omega, by go_num, rfl, HE.out⟩
              case measure => simp [intOf]; omega
          · have HNOT : Hid (∀ k T ws m, CutIs rest k T ws m → k = 67 ∧ ¬ (1 ≤ T ∧ T ≤ 2000)) := fun k T ws m hcut => by
              by_cases e : k = 67
              · exact ⟨e, fun hT => hA ⟨k, T, ws, m, hcut, fun _ => hT⟩⟩
              · exact absurd ⟨k, T, ws, m, hcut, fun e2 => absurd e2 e⟩ hA
            have HA := hid_of hA
            clear hA
            go_wp2_with (first
              | (go_at_call 195; refine drecord _ t rest _ g _ HM.out.tk HH.out HM.out.size (Nat.lt_trans HGL.out HM.out.size) HTB.out ?_ (fun k T ws m _ _ _ _ _ _ _ hcut hT _ _ _ _ _ _ _ => absurd ⟨k, T, ws, m, hcut, hT⟩ HA.out); intro _ w2 t2 b2 T2 p2 n2 c2 p3 n3 c3 hT2 hk2; have HE := hid_of (fun w3 (k3 : Kp (fun _ => False) w2 w3) => HM.out.none qi HC.out HGL.out HNOT.out hT2 hk2 k3); clear hT2 hk2)
              | fail)
            go_roundw
            case rel => exact ⟨i + 1, false, _, _, _, _, _, by omega, by go_num, rfl, HE.out _ (Kp.alloc _ _ _)⟩
            case measure => simp [intOf]; omega
        · have qi' : ¬ (i : Int) < 4 := by omega
          have qi4 : i = 4 := by omega
          obtain ⟨hh, htB, hcu, hpa, hle⟩ := hm.going rfl
          have hend := hh.at_end
          rw [htB] at hend
          have HF : Hid (∀ b : Bool, (b = true ↔ t.at_ = bs.length) → R (.returned (.bool b)) wr) := fun b hb => HR.out wr own' y' b hm.kp hm.old hm.ye hm.yi hm.no (Or.inr ⟨hcu, L, rest, hpa, by omega, fun h => by omega, by
            have e4 : decide (L.length = 4) = true := by simp; omega
            rw [e4, Bool.and_true]
            cases b with
            | true => exact (decide_eq_true (hend.1 (hb.1 rfl))).symm
            | false => exact (decide_eq_false (fun e => by have := hb.2 (hend.2 e); cases this)).symm⟩)
          clear hm hh htB hcu hpa hle hend hi4 qi4 qi
          by_cases qe : t.at_ = bs.length
          · have qe' : ((t.at_ : Int) == bs.length) = true := by simp [qe]
            have HFT := hid_of (HF.out true (by simp [qe]))
            clear qe
            go_wp2_with fail
            exact HFT.out
          · have qe' : ((t.at_ : Int) == bs.length) = false := by simp; omega
            have HFT := hid_of (HF.out false (by simp [qe]))
            clear qe
            go_wp2_with fail
            exact HFT.out
      | false =>
        have HF := hid_of (HR.out wr own' y' false hm.kp hm.old hm.ye hm.yi hm.no (hm.over rfl))
        clear hm
        by_cases qi : i < 4
        · have qi' : (i : Int) < 4 := by omega
          go_wp2_with fail
          exact HF.out
        · have qi' : ¬ (i : Int) < 4 := by omega
          go_wp2_with fail
          exact HF.out
  · have HQ := hid_of q
    clear q
    go_enter Tryz.func148, Tryz.ntmps148
    go_wp2_with (first
      | (go_at_call 194; refine dopens _ bs num _ g _ H0.out HNUM.out HL.out ?_ (fun hn => absurd hn HQ.out); intro _ w1 t1 hT1 hk1; have HM := hid_of (HM0.out false w1 t1 [] [] hT1 hk1 (fun e => by cases e) (fun _ => Or.inl ⟨HQ.out, rfl, rfl⟩)); clear hT1 hk1)
      | fail)
    go_loopw [8, 9, 10, 11] (fun v8 v9 _ _ wr => v9 = .int .i64 0 ∧ v8 = .bool false ∧ wr = w1) (fun _ _ _ _ _ => 0)
    case atStart => exact ⟨rfl, rfl, rfl⟩
    case round =>
      obtain ⟨rfl, rfl, hww⟩ := hrel
      rw [hww]
      clear hww
      have HF := hid_of (HR.out w1 _ _ false HM.out.kp HM.out.old HM.out.ye HM.out.yi HM.out.no (HM.out.over rfl))
      go_wp2_with fail
      exact HF.out

end

end Go.Proofs.YthbdpfccfcceiaaGreatDoor

namespace Go.Proofs.YthbdpfccfcceiaaGreatDoor
open Go.RowKit Go.Maps Go.Lib

/-- Bodies as they may be. -/
def LgOk (y : YS) : Prop := ∀ b ∈ y.lg, b ≠ [] ∧ b.length ≤ 400

theorem LgOk.did {y : YS} (h : LgOk y) {r : Rc} (hr : RecOk r.k r.ws) : LgOk (didY y r) := by
  have hb := bodyR_le (T := r.t) hr
  unfold didY
  split
  · rename_i q
    intro b hb2
    rcases List.mem_append.1 hb2 with h1 | h1
    · exact h b h1
    · simp at h1
      subst h1
      unfold bodyR at hb
      rw [if_pos q] at hb
      exact ⟨hb.2, hb.1⟩
  · rename_i q
    intro b hb2
    rcases List.mem_append.1 hb2 with h1 | h1
    · exact h b h1
    · simp at h1
      subst h1
      unfold bodyR at hb
      rw [if_neg q] at hb
      exact ⟨hb.2, hb.1⟩

theorem Part.lgok : ∀ {L : List Rc} {bs m : List UInt8} {y y' : YS}, Part bs y L m y' → LgOk y → LgOk y'
  | [], _, _, _, _, ⟨_, e⟩, h => by subst e; exact h
  | _ :: _, _, _, _, _, ⟨_, h1, _, h3⟩, h => Part.lgok h3 (h.did h1.ok)

theorem ReplY.lgok {bs : List UInt8} {num : Nat} {y y' : YS} {b : Bool} (h : ReplY bs num y y' b) (hl : LgOk y) : LgOk y' := by
  rcases h with ⟨_, e, _⟩ | ⟨_, L, m, hp, _⟩
  · rw [e]; exact hl
  · exact hp.lgok hl

theorem LgAt.lgIn {own : Nat → Lab} {w : World} {v : Value} {lg : List Value} {bs : List (List UInt8)} (h : LgAt own w lg bs) (hrow : w.ownsRow 0 48 1 v lg.length lg) : LgIn w v bs := by
  obtain ⟨a, cap, e⟩ := ownsRow_slice hrow
  refine ⟨a, cap, by rw [e, h.1], fun hne => ?_⟩
  have hpos : 0 < lg.length := by rw [h.1]; exact List.length_pos_iff.2 hne
  obtain ⟨g, cap2, cur, e2, _⟩ := ownsRow_some hrow hpos
  rw [e] at e2
  injection e2 with e2 _ _
  subst e2
  refine ⟨g, 0, rfl, fun i f hf => ?_⟩
  have hi : i < lg.length := by rw [h.1]; exact (List.getElem?_eq_some_iff.1 hf).1
  have hu := List.getElem?_eq_getElem hi
  have hb := (h.2 i _ f hu hf).1
  have hc := World.ownsRow.cells hrow (g := g) (by rw [e]; rfl) i _ hu
  rw [addr_add] at hc
  obtain ⟨p2, c2, e3⟩ := ownsRow_slice hb
  exact ⟨_, hc, hb.rd, p2, _, c2, e3⟩

def syncY (y : YS) : YS := { y with syn := (bytesOf (filesB y.lg) : Nat) }

section
variable {own own' : Nat → Lab} {c : Nat} {w w' : World} {p : Nat} {y : YS}
variable {R : Ending → World → Prop}

theorem YR.setSyn {vL vT vG : Value} {sv lg : List Value} (h : YR own c w p y vL vT vG sv lg) (n : Int) : YR own c (w.setCell ⟨p, 5, none⟩ (.int .i64 n)) p { y with syn := n } vL vT vG sv lg := by
  have hb : ∀ b, b ≠ p → (w.setCell ⟨p, 5, none⟩ (.int .i64 n)).heap[b]? = w.heap[b]? := fun b hb => Below.heap_setCell w _ _ b hb
  refine ⟨h.ownP, ?_, ?_, h.ownL, h.len, ?_, h.ownT, fun i hi hj => ?_, h.ownX, ?_, h.ownG⟩
  · rw [heap_setCell_at h.store]; simp
  · exact ownsRow_block h.rowL (fun b e => hb b (lab_ne2 (own := own) (by rw [h.ownL b e, h.ownP]; simp)))
  · exact ownsRow_block h.rowT (fun b e => hb b (lab_ne2 (own := own) (by rw [h.ownT b e, h.ownP]; simp)))
  · exact ownsRow_block (h.rowX i hi hj) (fun b e => hb b (lab_ne2 (own := own) (by rw [h.ownX i hj b e, h.ownP]; simp)))
  · exact ownsRow_block h.rowG (fun b e => hb b (lab_ne2 (own := own) (by rw [h.ownG b e, h.ownP]; simp)))

theorem y_sync (h : YE own c w p y) (hi : YI y) (_hc : c ≠ 0) (hb : LgOk y)
    (hR : ∀ w', Kp (fun b => (own b).c = c) w w' → YE own c w' p (syncY y) → R (.returned (.tuple #[])) w') :
    Calls Tryz.prog 115 #[.pointer (some ⟨p, 0, none⟩)] w R := by
  obtain ⟨vL, vT, vG, sv, lg, Y, hl, hg⟩ := h
  have n1 := hi.now
  have n2 := hi.hor
  have e1 := hg.1
  refine dsync p _ _ vG y.lg w Y.store rfl (by simp) (hg.lgIn Y.rowG) (by omega) hb (fun w1 k1 => ?_)
  refine hR _ ((k1.mono (S' := fun b => (own b).c = c) (fun _ _ e => e.elim)).trans (Kp.setCell (S := fun b => b = p) w1 ⟨p, 5, none⟩ _ rfl) (fun b _ (e : b = p) => by show (own b).c = c; rw [e, Y.ownP])) ⟨vL, vT, vG, sv, lg, (Y.kept k1).setSyn _, hl, ?_⟩
  refine (hg.frame (own' := own) (w' := w1) (fun b hb _ => k1.block b hb (fun e => e)) (fun _ _ _ => rfl)).frame (fun b hb e => Below.heap_setCell w1 _ _ b (fun e2 => ?_)) (fun _ _ _ => rfl)
  have e2 : b = p := e2
  rw [e2, Y.ownP] at e
  simp [lab9] at e

end

/-- How memory lies while files are read by the document. -/
structure MidG (own : Nat → Lab) (c : Nat) (w1 : World) (p : Nat) (fs : List (List UInt8)) (i : Nat) (wr : World) (own' : Nat → Lab) (y' : YS) : Prop where
  ye : YE own' c wr p y'
  yi : YI y'
  no : y'.txs = []
  lgok : LgOk y'
  all : i < fs.length → RecAllY (fs.take i) 0 newYS y'
  end_ : i = fs.length → RecoveredY fs newYS y'
  kp : Kp (fun b => (own b).c = c) w1 wr
  old : ∀ b, b < w1.heap.size → own' b = own b

theorem MidG.step {own own' own3 : Nat → Lab} {c : Nat} {w1 wr w3 : World} {p : Nat} {fs : List (List UInt8)} {i : Nat} {y1 y3 : YS} {f : List UInt8} {b : Bool} (h : MidG own c w1 p fs i wr own' y1) (hi : fs[i]? = some f)
    (k3 : Kp (fun b => (own' b).c = c) wr w3) (ho : ∀ b, b < wr.heap.size → own3 b = own' b) (hx : YE own3 c w3 p y3) (hyi : YI y3) (hno : y3.txs = []) (hr : ReplY f i y1 y3 b) (hlast : b = true ∨ i + 1 = fs.length) :
    MidG own c w1 p fs (i + 1) w3 own3 y3 := by
  have hlt : i < fs.length := (List.getElem?_eq_some_iff.1 hi).1
  refine ⟨hx, hyi, hno, hr.lgok h.lgok, fun hl => ?_, fun hl => ?_, h.kp.trans k3 (fun b hb e => ?_), fun b hb => ?_⟩
  · have hb' : b = true := hlast.elim id (fun e => by omega)
    subst hb'
    rw [take_at hi]
    refine (h.all hlt).snoc ?_
    rw [List.length_take, Nat.min_eq_left (Nat.le_of_lt hlt), Nat.zero_add]
    exact hr
  · refine Or.inr ⟨fs.take i, f, y1, b, ?_, h.all hlt, ?_⟩
    · rw [← take_at hi, hl, List.take_length]
    · rw [List.length_take, Nat.min_eq_left (Nat.le_of_lt hlt)]
      exact hr
  · rw [h.old b hb] at e; exact e
  · exact (ho b (Nat.lt_of_lt_of_le hb h.kp.size)).trans (h.old b hb)

def ownD (own : Nat → Lab) (c n b : Nat) : Lab := if b = n then ⟨c, 0, 0, eb⟩ else base9 own n b
theorem ownD_old {own : Nat → Lab} {c n b : Nat} (h : b < n) : ownD own c n b = own b := by
  unfold ownD
  rw [if_neg (by omega), base9_old h]
theorem ownD_at (own : Nat → Lab) (c n : Nat) : ownD own c n n = ⟨c, 0, 0, eb⟩ := by simp [ownD]

section
variable {own own' : Nat → Lab} {c : Nat} {w w' : World} {p : Nat} {y : YS}
variable {R : Ending → World → Prop}

set_option maxRecDepth 20000 in
set_option maxHeartbeats 2000000 in
theorem d_recover (hc0 : c ≠ 0) (hc : ∀ b, b < w.heap.size → (own b).c ≠ c) (v : Value) (fs : List (List UInt8)) (hv : FIn w v fs (fun b => b < w.heap.size))
    (h1 : DamagedY fs newYS → ∀ w', Kp (fun _ => False) w w' → R (.returned (.tuple #[.pointer none, .int .i64 9])) w')
    (h2 : ∀ w' own' y', Kp (fun _ => False) w w' → (∀ b, b < w.heap.size → own' b = own b) → YE own' c w' w.heap.size (syncY y') → YI y' → y'.txs = [] → LgOk y' → RecoveredY fs newYS y' → R (.returned (.tuple #[.pointer (some ⟨w.heap.size, 0, none⟩), .int .i64 0])) w') :
    Calls Tryz.prog 93 #[v] w R := by
  have HC0 := hid_of hc0
  have HCO := hid_of hc
  have HV := hid_of hv
  have H1 := hid_of h1
  have H2 := hid_of h2
  obtain ⟨a0, cap0, rfl, hn0, _⟩ := hv
  have HN0 := hid_of hn0
  have hn0' : (fs.length : Int) ≤ 1100000 := by omega
  have hwn : IntKind.i64.wrap ((fs.length : Int) - 1) = (fs.length : Int) - 1 := IntWalk.i64_in _ (by omega)
  have HY0 : Hid (YE (ownD own c w.heap.size) c (w.alloc yStore) w.heap.size newYS) := y_new _ (heap_alloc_new w _) (ownD_at _ _ _)
  have HV0 := hid_of (HV.out.kp (Kp.alloc (fun _ => False) w yStore) (fun _ _ e => e))
  have HNC : Hid (∀ b, b < w.heap.size → ¬ (ownD own c w.heap.size b).c = c) := fun b hb => by rw [ownD_old hb]; exact hc b hb
  clear hc0 hc h1 h2 hn0
  unfold yStore at HY0 HV0
  go_enter Tryz.func93, Tryz.ntmps93
  go_wp2_with fail
  go_loopw [5, 6] (fun v5 _ wr => ∃ (i : Nat) (own' : Nat → Lab) (y' : YS), i ≤ fs.length ∧ v5 = .int .i64 i ∧ MidG (ownD own c w.heap.size) c (w.alloc (.cells #[.slice none 0 0, .int .i64 0, .int .i64 0, .slice none 0 0, .slice none 0 0, .int .i64 0, .slice none 0 0] 78)) w.heap.size fs i wr own' y') (fun v5 _ _ => fs.length - (intOf v5).toNat)
  case atStart =>
    refine ⟨0, _, _, Nat.zero_le _, rfl, HY0.out, yi_new, rfl, fun b hb => (by cases hb), fun _ => rfl, fun e => Or.inl ⟨List.eq_nil_of_length_eq_zero e.symm, rfl⟩, Kp.refl _ _, fun _ _ => rfl⟩
  case round =>
    obtain ⟨i, own2, y2, hi, rfl, hM⟩ := hrel
    have HM := hid_of hM
    have HKW : Hid (Kp (fun _ => False) w wr) := (Kp.alloc (fun _ => False) w _).trans hM.kp (fun b hb e => HNC.out b hb e)
    have HOLD : Hid (∀ b, b < w.heap.size → own2 b = own b) := fun b hb => by
      rw [hM.old b (by simp; omega), ownD_old hb]
    have HVR := hid_of (HV.out.kp HKW.out (fun _ _ e => e))
    clear hM
    by_cases hlt : i < fs.length
    · have hlt' : (i : Int) < fs.length := by omega
      obtain ⟨f, hfi⟩ : ∃ f, fs[i]? = some f := ⟨fs[i], List.getElem?_eq_getElem hlt⟩
      obtain ⟨a1, cap1, e1, _, hcells⟩ := HVR.out
      injection e1 with e1 _ e2
      subst e1; subst e2
      obtain ⟨ga, oa, rfl, _, _, hcells⟩ := hcells (fun e => by rw [e] at hlt; simp at hlt)
      obtain ⟨bf, nf, cf, gf, hcell, hrd, hgf, hfl⟩ := hcells i f hfi
      have HFI := hid_of hfi
      have HRD := hid_of hrd
      have HFL := hid_of hfl
      have HLT := hid_of hlt
      have HGF := hid_of hgf
      have HI32 : Hid (i < 4294967296) := by show _ < _; have := HN0.out; omega
      clear hcells hrd hfl hfi hlt hgf
      have HGR : Hid (gf < wr.heap.size) := Nat.lt_of_lt_of_le HGF.out HKW.out.size
      have HGC : Hid ((own2 gf).c ≠ c) := by show _ ≠ _; rw [HOLD.out gf HGF.out]; exact HCO.out gf HGF.out
      by_cases hb : ∃ y3, ReplY f i y2 y3 true
      · have HB := hid_of hb
        clear hb
        go_wp2_with (first
          | (go_at_call 148; refine dreads HM.out.ye HM.out.yi HM.out.no HC0.out i HI32.out _ f gf HRD.out HGR.out HGC.out HFL.out ?_; intro w4 own4 y4 b4 hk4 ho4 hy4 hyi4 hno4 hr4; obtain ⟨y3, hy3⟩ := HB.out; obtain rfl : true = b4 := (hy3.uniq hr4).2; have HM4 := hid_of (HM.out.step HFI.out hk4 ho4 hy4 hyi4 hno4 hr4 (Or.inl rfl)); clear hk4 ho4 hy4 hyi4 hno4 hr4 hy3)
          | fail)
        go_roundw
        case rel => exact ⟨i + 1, own4, y4, by have := HLT.out; omega, by go_num, HM4.out⟩
        case measure => have := HLT.out; simp [intOf]; omega
      · have HB := hid_of hb
        clear hb
        by_cases hla : i + 1 = fs.length
        · have el : ¬ (i : Int) < (fs.length : Int) - 1 := by omega
          have HLA := hid_of hla
          clear hla
          go_wp2_with (first
            | (go_at_call 148; refine dreads HM.out.ye HM.out.yi HM.out.no HC0.out i HI32.out _ f gf HRD.out HGR.out HGC.out HFL.out ?_; intro w4 own4 y4 b4 hk4 ho4 hy4 hyi4 hno4 hr4; obtain rfl : b4 = false := (Bool.eq_false_iff.2 (fun e => HB.out ⟨y4, by rw [← e]; exact hr4⟩)); have HM4 := hid_of (HM.out.step HFI.out hk4 ho4 hy4 hyi4 hno4 hr4 (Or.inr HLA.out)); clear hk4 ho4 hy4 hyi4 hno4 hr4)
            | fail)
          go_roundw
          case rel => exact ⟨i + 1, own4, y4, by have := HLT.out; omega, by go_num, HM4.out⟩
          case measure => have := HLT.out; simp [intOf]; omega
        · have el : (i : Int) < (fs.length : Int) - 1 := by omega
          have HLA := hid_of hla
          clear hla
          go_wp2_with (first
            | (go_at_call 148; refine dreads HM.out.ye HM.out.yi HM.out.no HC0.out i HI32.out _ f gf HRD.out HGR.out HGC.out HFL.out ?_; intro w4 own4 y4 b4 hk4 ho4 hy4 hyi4 hno4 hr4; obtain rfl : b4 = false := (Bool.eq_false_iff.2 (fun e => HB.out ⟨y4, by rw [← e]; exact hr4⟩)); have HF := hid_of (H1.out ⟨i, f, y2, y4, HFI.out, by have := HLA.out; have := HLT.out; omega, HM.out.all HLT.out, hr4⟩ w4 (HKW.out.trans hk4 (fun b hb e => by rw [HOLD.out b hb] at e; exact HCO.out b hb e))); clear hk4 ho4 hy4 hyi4 hno4 hr4)
            | fail)
          exact HF.out
    · have hie : i = fs.length := by omega
      have HEND := hid_of (HM.out.end_ hie)
      subst hie
      clear hi hlt
      go_wp2_with (first
        | (go_at_call 115; refine y_sync HM.out.ye HM.out.yi HC0.out HM.out.lgok ?_; intro w5 hk5 hy5; have HF1 := hid_of (H2.out w5 own2 y2 (HKW.out.trans hk5 (fun b hb e => by rw [HOLD.out b hb] at e; exact HCO.out b hb e)) HOLD.out hy5 HM.out.yi HM.out.no HM.out.lgok HEND.out); clear hk5 hy5)
        | fail)
      exact HF1.out

end

end Go.Proofs.YthbdpfccfcceiaaGreatDoor

namespace Go.Proofs.YthbdpfccfcceiaaGreatDoor
open Go.RowKit Go.Maps Go.Lib

theorem FR.mono {base base' : Nat} {w : World} {v : Value} {fs : List (List UInt8)} {lv : List Value} (h : FR base w v fs lv) (hb : base' ≤ base) : FR base' w v fs lv :=
  ⟨row_mono h.row hb, fun i u f hu hf => (h.at_ i u f hu hf).mono hb, h.apart⟩

theorem mem_bytes : ∀ {fs : List (List UInt8)} {f : List UInt8}, f ∈ fs → f.length ≤ bytesOf fs
  | g :: r, f, h => by
    rw [bytesOf_cons]
    rcases List.mem_cons.1 h with rfl | h
    · omega
    · have := mem_bytes h; omega

theorem first_small : ∀ {fs : List (List UInt8)} {n : Nat} {f : List UInt8}, f ∈ firstB fs n → f.length ≤ bytesOf fs
  | [], _, f, h => by simp [firstB] at h
  | g :: r, n, f, h => by
    rw [bytesOf_cons]
    unfold firstB at h
    split at h
    · cases h
    · rcases List.mem_cons.1 h with rfl | h
      · rw [List.length_take]; omega
      · have := first_small h; omega

section
variable {own own1 own2 own3 : Nat → Lab} {c i : Nat} {w w1 w2 w3 w' : World} {p px py nt : Nat} {s s' : XS} {y y' : YS}
variable {R : Ending → World → Prop}

theorem Tied.lgok (h : Tied s y) : LgOk y := fun b hb => ⟨h.lgn b hb, h.lgb b (by rw [← h.lg]; exact hb)⟩

theorem Tied.synced (h : Tied s y) : Tied (synced s) (syncY y) :=
  ⟨h.now, h.begun, fun n => h.txs n, h.nopen, h.mom, h.ver, h.nv, h.nm, h.hor, h.lgl, h.lgb, Nat.le_refl _, h.nob, h.lg, by show ((bytesOf (filesB y.lg) : Nat) : Int) = ((bytesOf (filesB s.log.lg) : Nat) : Int); rw [h.lg], h.lgn⟩

theorem YI.synced (h : YI y) : YI (syncY y) := ⟨h.now, h.len, h.ver, h.up, h.txs, h.opn, h.hor, h.pin, h.bku, h.lgv⟩

theorem Tied.small (h : Tied s y) (hi : YI y) : y.lg.length ≤ 5000 := by
  have h1 := h.lgl
  have h2 := hi.now
  have h3 := hi.hor
  rw [h.lg]
  omega

theorem d_sync (hD : Duo own i w px py nt) (e a b : Int) (st tt : ByteArray) (vl vm : Value)
    (hK : ∀ w3 own3, Kp (Cap own i) w w3 → (∀ b, b < w.heap.size → own3 b = own b) → Duo own3 i w3 px py (nt + 1) → R (.returned (.bool true)) w3) :
    Calls Tryz.prog 63 #[.pointer (some ⟨p, 0, none⟩), pairV px py, stepV 16 e a b st tt vl vm] w R := by
  obtain ⟨s, y, hx, hy, ht, hi, hn⟩ := hD
  refine logs_sync w p px py e a b st tt vl vm ?_
  have hw := boxW_kp w px py 16 e a b st tt vl vm
  generalize boxW w px py 16 e a b st tt vl vm = w1 at hw ⊢
  have X0 := hx.box hw
  have Y0 := hy.box hw
  refine x_sync X0 (ht.ok hi) (fun w2 k2 hs2 x2 => ⟨rfl, low k2, ?_⟩)
  have Y2 := Y0.past k2 (fun _ _ => rfl)
  refine y_sync Y2 hi (by omega) ht.lgok (fun w3 k3 y3 => ⟨rfl, ?_⟩)
  exact fin hw k2 (fun _ _ => rfl) x2 k3 (fun _ _ => rfl) y3 ht.synced hi.synced (by show y.txs.length ≤ nt + 1; omega) hK

variable {ds : List (Nat × Nat)} {vL vP vK : Value} {bk : BO}

theorem i_lfiles (h : Inv own w p ds vL vP vK bk nt) (hi : i < ds.length) (hnt : nt < 1000000) (e a b : Int) (st tt : ByteArray) (vl vm : Value)
    (hK : ∀ w' own' bk', Kp (fun b => own b ≠ lab9) w w' → (∀ b, b < w.heap.size → own' b = own b) → Inv own' w' p ds vL vP vK bk' (nt + 1) → R (.returned (.bool true)) w') :
    Calls Tryz.prog 63 #[.pointer (some ⟨p, 0, none⟩), pairV (ds[i]).1 (ds[i]).2, stepV 15 e a b st tt vl vm] w R := by
  obtain ⟨s, y, hx, hy, ht, hI, hn⟩ := h.duos i hi
  refine logs_files w p _ _ e a b st tt vl vm ?_
  have hw := boxW_kp w (ds[i]).1 (ds[i]).2 15 e a b st tt vl vm
  generalize boxW w (ds[i]).1 (ds[i]).2 15 e a b st tt vl vm = w1 at hw ⊢
  have X0 := hx.box hw
  obtain ⟨vL', vT, vG, sv, lg, Y, hl, hg⟩ := hy.box hw
  obtain ⟨f1, f2, f3⟩ := files_small (ht.small hI) ht.lgok
  refine x_files X0 (ht.ok hI) (fun v lv w2 hf k2 => ⟨v, vG, rfl, kpF k2, cell_of (Y.kept k2).store 4, ?_⟩)
  refine dfiles vG y.lg w2 ((hg.lgIn Y.rowG).kept k2) (ht.small hI) ht.lgok (fun v' lv' w3 hf' k3 => ⟨v', rfl, ?_⟩)
  rw [← ht.lg] at hf
  exact i_files h hnt ((hw.trans k2 (fun _ _ h => h)).trans k3 (fun _ _ h => h)) v v' (filesB y.lg) lv f3 (fun f hf => by have := mem_bytes hf; omega) ((hf.kept k3).mono hw.size) hf'.rdL hK

theorem i_lcrash (h : Inv own w p ds vL vP vK bk nt) (hi : i < ds.length) (hnt : nt < 1000000) (e a b : Int) (ha : -9223372036854775808 ≤ a ∧ a ≤ 9223372036854775807) (st tt : ByteArray) (vl vm : Value)
    (hK : ∀ w' own' bk', Kp (fun b => own b ≠ lab9) w w' → (∀ b, b < w.heap.size → own' b = own b) → Inv own' w' p ds vL vP vK bk' (nt + 1) → R (.returned (.bool true)) w') :
    Calls Tryz.prog 63 #[.pointer (some ⟨p, 0, none⟩), pairV (ds[i]).1 (ds[i]).2, stepV 17 e a b st tt vl vm] w R := by
  obtain ⟨s, y, hx, hy, ht, hI, hn⟩ := h.duos i hi
  refine logs_crash w p _ _ e a b st tt vl vm ?_
  have hw := boxW_kp w (ds[i]).1 (ds[i]).2 17 e a b st tt vl vm
  generalize boxW w (ds[i]).1 (ds[i]).2 17 e a b st tt vl vm = w1 at hw ⊢
  have X0 := hx.box hw
  obtain ⟨vL', vT, vG, sv, lg, Y, hl, hg⟩ := hy.box hw
  obtain ⟨f1, f2, f3⟩ := files_small (ht.small hI) ht.lgok
  refine x_crash X0 (ht.ok hI) a ha (fun v lv w2 hf k2 => ⟨v, rfl, kpF k2, ?_⟩)
  have hsy : s.log.sy ≤ bytesOf (filesB y.lg) := by rw [ht.lg]; exact ht.sy
  refine dcrash _ _ _ vG y.lg s.log.sy a w2 (Y.kept k2).store rfl (by rw [← ht.syn]; rfl) ((hg.lgIn Y.rowG).kept k2) (ht.small hI) ht.lgok hsy ha (fun v' lv' w3 hf' k3 => ⟨v', rfl, ?_⟩)
  rw [← ht.lg] at hf
  have hfl := firstB_length_le (filesB y.lg) (leftN s.log.sy (bytesOf (filesB y.lg)) a)
  exact i_files h hnt ((hw.trans k2 (fun _ _ h => h)).trans k3 (fun _ _ h => h)) v v' _ lv (by omega) (fun f hf => by have := first_small hf; omega) ((hf.kept k3).mono hw.size) hf'.rdL hK

end

end Go.Proofs.YthbdpfccfcceiaaGreatDoor

namespace Go.Proofs.YthbdpfccfcceiaaGreatDoor
open Go.RowKit Go.Maps Go.Lib

theorem Kp.setRow {S : Nat → Prop} (w : World) (g : Nat) (cs : Array Value) (hs : S g) : Kp S w (w.setRow g cs) :=
  ⟨rfl, rfl, rfl, by simp [World.setRow], fun k _ hn => setRow_other w g k cs (fun e => hn (by rw [e]; exact hs))⟩

theorem infoOne : (Tryz.prog.info? 5).map (·.size) = some 1 := by kernel_rfl

/-- copy of bytes into a block of bytes, from its beginning on. -/
theorem wpB_copy {ops : Array Oper} {rest : List Oper} {o : Oper} {a : Act} {Q : Exit → Act → World → Prop} {w : World} (hgd : o.guard = none) (d s : Operand)
    (ho : o.op = .call { callee := .builtin .copy, args := #[d, s], argTypes := #[48, 48] }) (g n dCap : Nat) (xv : Value) (bs : List UInt8) (hd : a.eval d = .slice (some ⟨g, 0, none⟩) n dCap) (hs : a.eval s = xv) (hr : RdB w xv bs) (hl : bs.length ≤ n)
    (cur : List Value) (hg : w.heap[g]? = some (.cells cur.toArray 5 (0, 0))) (hc : cur.length = n)
    (h : ∀ w', w'.heap[g]? = some (.cells (bs.map b8 ++ cur.drop bs.length).toArray 5 (0, 0)) → Kp (fun b => b = g) w w' → wpList Tryz.prog ops Q rest (a.put o.dst (goInt bs.length)) w') :
    wpList Tryz.prog ops Q (o :: rest) a w := by
  by_cases h0 : bs = []
  · subst h0
    obtain ⟨q, cap, e, _⟩ := hr
    refine wpList_copy_nothing hgd d s 48 48 ho 5 Tryz.underlying48 infoOne (some ⟨g, 0, none⟩) q n dCap 0 cap hd (hs.trans e) (by simp) ?_
    exact h w (by simpa using hg) (Kp.refl _ _)
  · obtain ⟨g2, o2, cap, e, hc2⟩ := hr.form h0
    refine wpList_copy_own hgd d s 48 48 ho 5 Tryz.underlying48 infoOne g 0 n dCap ⟨g2, o2, none⟩ bs.length cap hd (hs.trans e) cur.toArray 5 hg (bs.map b8) (by rw [List.length_map]; exact (Nat.min_eq_left hl).symm) hc2 (by simp; omega) (b8_one _) ?_
    have e2 : (bs.map b8).length = bs.length := by simp
    rw [e2]
    refine h _ ?_ (Kp.setRow w g _ rfl)
    rw [setRow_heap w g _ _ _ _ hg]
    simp

/-- A list that is lent: its bytes, and stains behind them. -/
def lentC (f : List UInt8) : Array Value := (f.map b8 ++ List.replicate 8 (b8 77)).toArray

structure LendM (w : World) (base : Nat) (fs : List (List UInt8)) (X O i : Nat) (va : Value) (al ol : List Value) : Prop where
  blk : w.heap[X]? = some (.cells #[va, .slice none 0 0] 246 (0, 0))
  rowA : w.ownsRow base 48 1 va i al
  at_ : ∀ (j : Nat) u f, al[j]? = some u → fs[j]? = some f → ∃ g, u = .slice (some ⟨g, 0, none⟩) (f.length + 8) (f.length + 8) ∧ base ≤ g ∧ w.heap[g]? = some (.cells (lentC f) 5 (0, 0))
  rowO : w.heap[O]? = some (.cells ol.toArray 48 (0, 0))
  lenO : ol.length = fs.length + 2
  outs : ∀ (j : Nat) f, j < i → fs[j]? = some f → (ol[j]? = some (.slice none 0 0) ∧ f = []) ∨ ∃ g, al[j]? = some (.slice (some ⟨g, 0, none⟩) (f.length + 8) (f.length + 8)) ∧ ol[j]? = some (.slice (some ⟨g, 0, none⟩) f.length (f.length + 8))
  nils : ∀ j, i ≤ j → j < fs.length + 2 → ol[j]? = some (.slice none 0 0)
  low : base ≤ X ∧ base ≤ O ∧ X ≠ O
  vaO : va.ownBlock ≠ some O

theorem made_len (n : Nat) : (madeCells #[Value.int .u8 0] n).toList.length = n := by simp [madeCells]

section
variable {R : Ending → World → Prop} {w : World}

theorem LendM.kp {S : Nat → Prop} {w w' : World} {base : Nat} {fs : List (List UInt8)} {X O i : Nat} {va : Value} {al ol : List Value} (h : LendM w base fs X O i va al ol) (k : Kp S w w') (hs : ∀ b, base ≤ b → b < w.heap.size → ¬ S b) : LendM w' base fs X O i va al ol :=
  ⟨(k.block X (block_lt h.blk) (hs X h.low.1 (block_lt h.blk))).trans h.blk, ownsRow_kp h.rowA k (fun b e => hs b (h.rowA.lt b e).1 (h.rowA.lt b e).2), fun j u f hu hf => by
    obtain ⟨g, h1, h2, h3⟩ := h.at_ j u f hu hf
    exact ⟨g, h1, h2, (k.block g (block_lt h3) (hs g h2 (block_lt h3))).trans h3⟩, (k.block O (block_lt h.rowO) (hs O h.low.2.1 (block_lt h.rowO))).trans h.rowO, h.lenO, h.outs, h.nils, h.low, h.vaO⟩

/-- One list more. -/
theorem LendM.more {w w2 w3 : World} {base : Nat} {fs : List (List UInt8)} {X O i g : Nat} {va va' : Value} {al ol : List Value} {f : List UInt8} (h : LendM w base fs X O i va al ol) (hg : w.heap.size ≤ g) (hbs : base ≤ w.heap.size) (hf : fs[i]? = some f)
    (k2 : Kp (fun b => b = g) w w2) (hb : w2.heap[g]? = some (.cells (lentC f) 5 (0, 0)))
    (k3 : Kp (fun b => va.ownBlock = some b) w2 w3) (r3 : w3.ownsRow base 48 1 va' (i + 1) (al ++ [.slice (some ⟨g, 0, none⟩) (f.length + 8) (f.length + 8)])) (hloc : va'.ownBlock = va.ownBlock ∨ ∃ b, va'.ownBlock = some b ∧ w2.heap.size ≤ b) :
    (f = [] → LendM (w3.setCell ⟨X, 0, none⟩ va') base fs X O (i + 1) va' (al ++ [.slice (some ⟨g, 0, none⟩) (f.length + 8) (f.length + 8)]) ol) ∧
    LendM ((w3.setCell ⟨X, 0, none⟩ va').setCell ⟨O, i, none⟩ (.slice (some ⟨g, 0, none⟩) f.length (f.length + 8))) base fs X O (i + 1) va' (al ++ [.slice (some ⟨g, 0, none⟩) (f.length + 8) (f.length + 8)]) (ol.set i (.slice (some ⟨g, 0, none⟩) f.length (f.length + 8))) := by
  have lX := block_lt h.blk
  have lO := block_lt h.rowO
  have hall : al.length = i := by simpa using h.rowA.1
  have nXa : va.ownBlock ≠ some X := block_type h.blk h.rowA (by decide)
  have la : ∀ b, va.ownBlock = some b → b < w.heap.size := fun b e => (h.rowA.lt b e).2
  have s2 := k2.size
  have s3 := k3.size
  have bX3 : w3.heap[X]? = _ := (k3.block X (by omega) nXa).trans ((k2.block X lX (by omega)).trans h.blk)
  have bO3 : w3.heap[O]? = _ := (k3.block O (by omega) h.vaO).trans ((k2.block O lO (by omega)).trans h.rowO)
  have bg3 : w3.heap[g]? = _ := (k3.block g (block_lt hb) (fun e => by have := la g e; omega)).trans hb
  have nXa' : va'.ownBlock ≠ some X := block_type bX3 r3 (by decide)
  have vaO' : va'.ownBlock ≠ some O := fun e => by
    rcases hloc with h1 | ⟨b, h1, h2⟩
    · rw [h1] at e; exact h.vaO e
    · rw [h1] at e; injection e with e; omega
  have kX := Kp.setCell (S := fun b => b = X) w3 ⟨X, 0, none⟩ va' rfl
  have bX4 : (w3.setCell ⟨X, 0, none⟩ va').heap[X]? = some (.cells #[va', .slice none 0 0] 246 (0, 0)) := by rw [heap_setCell_at bX3]; rfl
  have bO4 := (kX.block O (block_lt bO3) (fun e => h.low.2.2 e.symm)).trans bO3
  have rA4 := ownsRow_kp r3 kX (fun b e (e2 : b = X) => nXa' (by rw [← e2]; exact e))
  have at4 : ∀ (j : Nat) u f', (al ++ [Value.slice (some ⟨g, 0, none⟩) (f.length + 8) (f.length + 8)])[j]? = some u → fs[j]? = some f' → ∃ g, u = .slice (some ⟨g, 0, none⟩) (f'.length + 8) (f'.length + 8) ∧ base ≤ g ∧ g ≠ O ∧ (w3.setCell ⟨X, 0, none⟩ va').heap[g]? = some (.cells (lentC f') 5 (0, 0)) := fun j u f' hu hf' => by
    by_cases hj : j < al.length
    · rw [List.getElem?_append_left hj] at hu
      obtain ⟨g1, a1, a2, a3⟩ := h.at_ j u f' hu hf'
      have l1 := block_lt a3
      have n1 : g1 ≠ X := fun e => by rw [e, h.blk] at a3; injection a3 with a3; injection a3 with _ a3; cases a3
      have n2 : g1 ≠ O := fun e => by rw [e, h.rowO] at a3; injection a3 with a3; injection a3 with _ a3; cases a3
      refine ⟨g1, a1, a2, n2, ((kX.block g1 (by omega) n1).trans ((k3.block g1 (by omega) (fun e => ?_)).trans (k2.block g1 l1 (by omega)))).trans a3⟩
      exact block_type a3 h.rowA (by decide) e
    · have hj2 : j = al.length := by
        have := (List.getElem?_eq_some_iff.1 hu).1
        simp at this
        omega
      subst hj2
      simp at hu
      rw [hall, hf] at hf'
      injection hf' with hf'
      subst hf' hu
      have n1 : g ≠ X := by omega
      exact ⟨g, rfl, by omega, by omega, (kX.block g (block_lt bg3) n1).trans bg3⟩
  have fst : ∀ (j : Nat), j < i → (al ++ [Value.slice (some ⟨g, 0, none⟩) (f.length + 8) (f.length + 8)])[j]? = al[j]? := fun j hj => List.getElem?_append_left (by omega)
  have last : (al ++ [Value.slice (some ⟨g, 0, none⟩) (f.length + 8) (f.length + 8)])[i]? = some (.slice (some ⟨g, 0, none⟩) (f.length + 8) (f.length + 8)) := by rw [← hall]; simp
  have hil : i < fs.length := (List.getElem?_eq_some_iff.1 hf).1
  refine ⟨fun h0 => ⟨bX4, rA4, fun j u f' hu hf' => ?_, bO4, h.lenO, fun j f' hj hf' => ?_, fun j h1 h2 => h.nils j (by omega) h2, h.low, vaO'⟩, ?_⟩
  · obtain ⟨g1, a1, a2, _, a3⟩ := at4 j u f' hu hf'
    exact ⟨g1, a1, a2, a3⟩
  · by_cases hji : j < i
    · rw [fst j hji]
      exact h.outs j f' hji hf'
    · have : j = i := by omega
      subst this
      rw [hf] at hf'
      injection hf' with hf'
      subst hf'
      exact Or.inl ⟨h.nils j (Nat.le_refl _) (by omega), h0⟩
  · have kO := Kp.setCell (S := fun b => b = O) (w3.setCell ⟨X, 0, none⟩ va') ⟨O, i, none⟩ (.slice (some ⟨g, 0, none⟩) f.length (f.length + 8)) rfl
    refine ⟨(kO.block X (block_lt bX4) h.low.2.2).trans bX4, ownsRow_kp rA4 kO (fun b e (e2 : b = O) => vaO' (by rw [← e2]; exact e)), fun j u f' hu hf' => ?_, ?_, by rw [List.length_set]; exact h.lenO, fun j f' hj hf' => ?_, fun j h1 h2 => ?_, h.low, vaO'⟩
    · obtain ⟨g1, a1, a2, n2, a3⟩ := at4 j u f' hu hf'
      exact ⟨g1, a1, a2, (kO.block g1 (block_lt a3) n2).trans a3⟩
    · rw [heap_setCell_at bO4]
      simp
    · by_cases hji : j < i
      · rw [fst j hji, List.getElem?_set_ne (by omega)]
        exact h.outs j f' hji hf'
      · have : j = i := by omega
        subst this
        rw [hf] at hf'
        injection hf' with hf'
        subst hf'
        refine Or.inr ⟨g, last, ?_⟩
        rw [List.getElem?_set_self (by rw [h.lenO]; omega)]
    · rw [List.getElem?_set_ne (by omega)]
      exact h.nils j (by omega) h2

end

end Go.Proofs.YthbdpfccfcceiaaGreatDoor
