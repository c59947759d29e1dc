/-
  A transaction sees one moment: the walk of the law.
-/
import Derived.Test.YthbdpfccfcceiaaDoorI1
namespace Go.Proofs.YthbdpfccfcceiaaDoor
open Go.RowKit

/-- What the law's inner loop finds: the last pair of a key. -/
def lookP (k : ByteArray) (acc : ByteArray × Bool) (l : List (ByteArray × ByteArray)) : ByteArray × Bool := l.foldl (fun acc q => if q.1 = k then (q.2, true) else acc) acc

theorem lookP_cons (f : ByteArray → ByteArray × Bool) (k a : ByteArray) (r : List ByteArray) (acc : ByteArray × Bool) : lookP k acc ((a :: r).filterMap (pairOf f)) = lookP k (if a = k ∧ (f a).2 = true then ((f a).1, true) else acc) (r.filterMap (pairOf f)) := by
  cases h : (f a).2
  · rw [List.filterMap_cons_none (by simp [pairOf, h])]; simp
  · rw [List.filterMap_cons_some (b := (a, (f a).1)) (by simp [pairOf, h])]
    simp [lookP]

theorem lookP_stay (f : ByteArray → ByteArray × Bool) (k : ByteArray) : ∀ (ks : List ByteArray), lookP k ((f k).1, true) (ks.filterMap (pairOf f)) = ((f k).1, true)
  | [] => rfl
  | a :: r => by
    rw [lookP_cons]
    by_cases e : a = k
    · subst e; simp only [true_and, ite_self]; exact lookP_stay f a r
    · simp only [e, false_and, if_false]; exact lookP_stay f k r

theorem lookP_none (f : ByteArray → ByteArray × Bool) (k : ByteArray) (h : (f k).2 = false) (acc : ByteArray × Bool) : ∀ (ks : List ByteArray), lookP k acc (ks.filterMap (pairOf f)) = acc
  | [] => rfl
  | a :: r => by
    rw [lookP_cons]
    by_cases e : a = k
    · subst e; simp only [h, Bool.false_eq_true, and_false, if_false]; exact lookP_none f a h acc r
    · simp only [e, false_and, if_false]; exact lookP_none f k h acc r

theorem lookP_some (f : ByteArray → ByteArray × Bool) (k : ByteArray) (h : (f k).2 = true) : ∀ (ks : List ByteArray) (acc : ByteArray × Bool), k ∈ ks → lookP k acc (ks.filterMap (pairOf f)) = ((f k).1, true)
  | [], _, hm => by cases hm
  | a :: r, acc, hm => by
    rw [lookP_cons]
    by_cases e : a = k
    · subst e; simp only [h, and_self, if_true]; exact lookP_stay f a r
    · simp only [e, false_and, if_false]
      refine lookP_some f k h r acc ?_
      rcases List.mem_cons.1 hm with h1 | h1
      · exact absurd h1.symm e
      · exact h1

theorem str_eq {a b : ByteArray} (h : a = b) : (a.toList == b.toList) = true := by rw [h]; simp
theorem str_ne {a b : ByteArray} (h : a ≠ b) : (a.toList == b.toList) = false := by
  rw [Lib.toList_data, Lib.toList_data]
  have : a.data.toList ≠ b.data.toList := fun e => h (WideShapes.bytes_inj e)
  simpa using this

theorem PairsAt.at {lo hi : Nat} {w : World} {a : Option Addr} {n cap : Nat} {l : List (ByteArray × ByteArray)} (h : PairsAt lo hi w (.slice a n cap) l) : ∀ j (hj : j < l.length), ∃ g, a = some ⟨g, 0, none⟩ ∧ w.cell? ⟨g, j * 2, none⟩ = some (.string l[j].1) ∧ w.cell? ⟨g, j * 2 + 1, none⟩ = some (.string l[j].2) := by
  obtain ⟨a', cap', e, _, h⟩ := h
  cases e
  intro j hj
  obtain ⟨g, rfl, _, _, h⟩ := h (fun e => by rw [e] at hj; simp at hj)
  exact ⟨g, rfl, h j hj⟩

theorem lookP_take (k : ByteArray) (acc : ByteArray × Bool) (l : List (ByteArray × ByteArray)) (j : Nat) (hj : j < l.length) : lookP k acc (l.take (j + 1)) = if l[j].1 = k then (l[j].2, true) else lookP k acc (l.take j) := by
  rw [List.take_succ_eq_append_getElem hj, lookP, List.foldl_append]
  rfl

theorem pairs6_take (g : ByteArray → ByteArray × Bool) (i : Nat) (hi : i < 6) : (keys6.take (i + 1)).filterMap (pairOf g) = (keys6.take i).filterMap (pairOf g) ++ (if (g (keyN i)).2 = true then [(keyN i, (g (keyN i)).1)] else []) := by
  have hk : i < keys6.length := hi
  have e : keys6[i] = keyN i := by have := keys6_at i hi; rw [List.getElem?_eq_getElem hk] at this; injection this
  rw [List.take_succ_eq_append_getElem hk, List.filterMap_append, e]
  congr 1
  cases h : (g (keyN i)).2 <;> simp [pairOf, h]

theorem pairs6_at (g : ByteArray → ByteArray × Bool) (i : Nat) (hi : i < 6) (h : (g (keyN i)).2 = true) : ∃ hj : ((keys6.take i).filterMap (pairOf g)).length < (pairs6 g).length, (pairs6 g)[((keys6.take i).filterMap (pairOf g)).length] = (keyN i, (g (keyN i)).1) := by
  have e : pairs6 g = (keys6.take i).filterMap (pairOf g) ++ ((keyN i, (g (keyN i)).1) :: (keys6.drop (i + 1)).filterMap (pairOf g)) := by
    have h1 := pairs6_take g i hi
    rw [if_pos h] at h1
    have h2 : pairs6 g = ((keys6.take (i + 1)) ++ keys6.drop (i + 1)).filterMap (pairOf g) := by rw [List.take_append_drop]; rfl
    rw [h2, List.filterMap_append, h1]
    simp
  have hl : ((keys6.take i).filterMap (pairOf g)).length < (pairs6 g).length := by rw [e]; simp
  refine ⟨hl, ?_⟩
  have : (pairs6 g)[((keys6.take i).filterMap (pairOf g)).length]? = some (keyN i, (g (keyN i)).1) := by rw [e]; simp
  rw [List.getElem?_eq_getElem hl] at this
  injection this

theorem pl_cells {lo hi n capl : Nat} {w : World} {al : Option Addr} {g : ByteArray → ByteArray × Bool} (h : PairsAt lo hi w (.slice al n capl) (pairs6 g)) (i : Nat) (hi6 : i < 6) (ht : (g (keyN i)).2 = true) :
    ((keys6.take i).filterMap (pairOf g)).length < (pairs6 g).length ∧ ∃ gl, al = some ⟨gl, 0, none⟩ ∧ w.cell? ⟨gl, ((keys6.take i).filterMap (pairOf g)).length * 2, none⟩ = some (.string (keyN i)) ∧ w.cell? ⟨gl, ((keys6.take i).filterMap (pairOf g)).length * 2 + 1, none⟩ = some (.string (g (keyN i)).1) := by
  obtain ⟨hl, e⟩ := pairs6_at g i hi6 ht
  obtain ⟨gl, ha, c0, c1⟩ := h.at _ hl
  rw [e] at c0 c1
  exact ⟨hl, gl, ha, c0, c1⟩

theorem pl_at {n capl gl : Nat} {w : World} {g : ByteArray → ByteArray × Bool} (h : ∃ lo hi, PairsAt lo hi w (.slice (some ⟨gl, 0, none⟩) n capl) (pairs6 g)) (i : Nat) (hi6 : i < 6) (ht : (g (keyN i)).2 = true) :
    w.cell? ⟨gl, ((keys6.take i).filterMap (pairOf g)).length * 2, none⟩ = some (.string (keyN i)) ∧ w.cell? ⟨gl, ((keys6.take i).filterMap (pairOf g)).length * 2 + 1, none⟩ = some (.string (g (keyN i)).1) := by
  obtain ⟨lo, hi, h⟩ := h
  obtain ⟨_, gl', e, c0, c1⟩ := pl_cells h i hi6 ht
  cases e
  exact ⟨c0, c1⟩

section
variable {R : Ending → World → Prop}

set_option maxRecDepth 20000 in
set_option maxHeartbeats 4000000 in
theorem isolated_walk (w : World) (v0 : Value) (m1 m2 m3 : Int) (hm : I64 m1 ∧ I64 m2) (a : Option Addr) (n cap : Nat) (f : Nat → A3) (hn : n ≤ maxLen) (hv : 0 < n → ∃ g off, a = some ⟨g, off, none⟩ ∧ Acts w g off n f)
    (I : Nat → Nat → Int → Int → Value → (ByteArray → ByteArray × Bool) → World → Prop) (J : Nat → Int → Int → Value → Value → (ByteArray → ByteArray × Bool) → World → Prop)
    (hkI : ∀ i p tx now va f0 w', I i p tx now va f0 w' → Kp (fun _ => False) w w')
    (g : (ByteArray → ByteArray × Bool) → ByteArray → ByteArray × Bool) (hg : ∀ f0 k, g f0 k = if k = keyN m1 then (valN m2, decide (valN m2 ≠ ⟨#[]⟩)) else f0 k)
    (H : ∀ w0, Kp (fun _ => False) w w0 → ActAt w0 w.heap.size m1 m2 m3 → Calls Tryd.prog 6 #[v0] w0 fun r w1 => ∃ p, r = .returned (.pointer (some ⟨p, 0, none⟩)) ∧
      Calls Tryd.prog 7 #[.pointer (some ⟨p, 0, none⟩)] w1 fun r w2 => ∃ now : Int, r = .returned (.int .i64 now) ∧ 0 ≤ now ∧ now < 1000000 ∧
      Calls Tryd.prog 8 #[.pointer (some ⟨p, 0, none⟩)] w2 fun r w3 => ∃ tx : Int, r = .returned (.tuple #[.int .i64 tx, .int .i64 0]) ∧ ActAt w3 w.heap.size m1 m2 m3 ∧
      ∀ w4, Kp (fun _ => False) w3 w4 → Calls Tryd.prog 9 #[.pointer (some ⟨p, 0, none⟩), .int .i64 tx, .string (keyN m1), .string (valN m2)] w4 fun r w5 => r = .returned (.int .i64 0) ∧ ActAt w5 w.heap.size m1 m2 m3 ∧
      Calls Tryd.prog 12 #[.pointer (some ⟨p, 0, none⟩), .int .i64 now, .string ⟨#[]⟩, .string ⟨#[126]⟩] w5 fun r w6 => ∃ va f0, r = .returned (.tuple #[va, .int .i64 0]) ∧ I 0 p tx now va f0 w6)
    (hS : ∀ i p tx now va f0 w', I i p tx now va f0 w' → i < n → i < 50 → Calls Tryd.prog 13 #[.pointer (some ⟨p, 0, none⟩), actV (f i).1 (f i).2.1 (f i).2.2] w' fun r w'' => r = .returned (.bool true) ∧ I (i + 1) p tx now va f0 w'')
    (hE : ∀ p tx now va f0 w', I (min n 50) p tx now va f0 w' → Calls Tryd.prog 14 #[.pointer (some ⟨p, 0, none⟩), .int .i64 tx, .string ⟨#[]⟩, .string ⟨#[126]⟩] w' fun r w7 => ∃ vl, r = .returned (.tuple #[vl, .int .i64 0]) ∧ J p tx now va vl f0 w7)
    (hJ : ∀ p tx now va vl f0 w', J p tx now va vl f0 w' → ActAt w' w.heap.size m1 m2 m3 ∧ (∃ lo hi, PairsAt lo hi w' va (pairs6 f0)) ∧ ∃ lo hi, PairsAt lo hi w' vl (pairs6 (g f0)))
    (hJk : ∀ p tx now va vl f0 w' w'', J p tx now va vl f0 w' → Kp (fun _ => False) w' w'' → J p tx now va vl f0 w'')
    (hG : ∀ p tx now va vl f0 w' (i : Nat), J p tx now va vl f0 w' → i < 6 → Calls Tryd.prog 15 #[.pointer (some ⟨p, 0, none⟩), .int .i64 tx, .string (keyN i)] w' fun r w'' => r = .returned (.tuple #[.string (if (g f0 (keyN i)).2 = true then (g f0 (keyN i)).1 else ⟨#[]⟩), .int .i64 (if (g f0 (keyN i)).2 = true then 0 else 5)]) ∧ J p tx now va vl f0 w'')
    (hF : ∀ p tx now va vl f0 w', J p tx now va vl f0 w' → Calls Tryd.prog 7 #[.pointer (some ⟨p, 0, none⟩)] w' fun r w8 => ∃ last : Int, r = .returned (.int .i64 last) ∧
      Calls Tryd.prog 16 #[.pointer (some ⟨p, 0, none⟩), .int .i64 tx] w8 fun r w9 => r = .returned (.int .i64 0) ∧
      Calls Tryd.prog 15 #[.pointer (some ⟨p, 0, none⟩), .int .i64 tx, .string ⟨#[97]⟩] w9 fun r w10 => r = .returned (.tuple #[.string eb, .int .i64 2]) ∧
      Calls Tryd.prog 12 #[.pointer (some ⟨p, 0, none⟩), .int .i64 now, .string ⟨#[]⟩, .string ⟨#[126]⟩] w10 fun r w11 => ∃ vb, r = .returned (.tuple #[vb, .int .i64 0]) ∧
      Calls Tryd.prog 17 #[va, vb] w11 fun r w12 => r = .returned (.bool true) ∧
      Calls Tryd.prog 7 #[.pointer (some ⟨p, 0, none⟩)] w12 fun r w13 => r = .returned (.int .i64 last) ∧ R (.returned (.bool true)) w13) :
    Calls Tryd.prog 3 #[v0, actV m1 m2 m3, .slice a n cap] w R := by
  have HH := hid_of H
  have HKI := hid_of hkI
  have HS := hid_of hS
  have HE := hid_of hE
  have HJ := hid_of hJ
  have HJK := hid_of hJk
  have HG := hid_of hG
  have HF := hid_of hF
  have HV := hid_of hv
  have HGG := hid_of hg
  have B1 := hid_of hm.1
  have B2 := hid_of hm.2
  have HNB : Hid (n ≤ maxLen) := hn
  clear H hkI hS hE hJ hJk hG hF hv hg hm hn
  unfold actV at HH ⊢
  go_enter Tryd.func3, Tryd.ntmps3
  go_wp2_with (first
    | (go_at_call 6; refine Calls.mono (HH.out _ (Kp.alloc _ _ _) (heap_alloc_new _ _)) ?_; rintro r w1 ⟨p, rfl, hn⟩; have HA := hid_of hn; clear hn HH)
    | (go_at_call 7; refine Calls.mono HA.out ?_; rintro r w2 ⟨now, rfl, n0, n1, hn⟩; have HB := hid_of hn; clear hn HA)
    | (go_at_call 8; refine Calls.mono HB.out ?_; rintro r w3 ⟨tx, rfl, ha, hn⟩; have HC := hid_of hn; have HA3 := hid_of ha; obtain ⟨q0, q1, q2⟩ := ha.cell; clear hn ha HB)
    | go_in)
  go_region_held3 (fun w' => w'.cell? ⟨w.heap.size, 0, none⟩ = some (.int .i64 m1) ∧ w'.cell? ⟨w.heap.size, 1, none⟩ = some (.int .i64 m2)) (go_keep) (first
    | (go_at_call 10; refine key_any _ _ B1.out (fun w4 k4 => ?_); have k34 := Kp.trans (kp_draws (w := w3) (by simp)) k4 (fun _ _ h => h); obtain ⟨z0, z1, _⟩ := (HA3.out.kp k34).cell; have HK := hid_of k34; clear k4 k34)
    | (go_at_call 11; refine value_any _ _ B2.out ?_)
    | (go_at_call 9; refine Calls.mono (HC.out _ (Kp.trans HK.out (kp_draws (by simp)) (fun _ _ h => h))) ?_; rintro r w5 ⟨rfl, ha, hn⟩; have HD := hid_of hn; obtain ⟨y0, y1, y2⟩ := ha.cell; clear hn ha HC))
  all_goals
    go_wp2_with (first
      | (go_at_call 12; refine Calls.mono HD.out ?_; rintro r w6 ⟨va, f0, rfl, hn⟩; have HI0 := hid_of hn; clear hn HD)
      | go_in)
    go_loopw [14, 15] (fun v14 _ wr => ∃ i : Nat, i ≤ n ∧ i ≤ 50 ∧ v14 = .int .i64 i ∧ I i p tx now va f0 wr) (fun v14 _ _ => 50 - (intOf v14).toNat)
    case atStart => exact ⟨0, Nat.zero_le _, Nat.zero_le _, rfl, HI0.out⟩
    case round =>
      obtain ⟨i, hin, hi2, rfl, hI⟩ := hrel
      have HI := hid_of hI
      clear hI
      by_cases h12 : i < n ∧ i < 50
      · obtain ⟨h1, h2⟩ := h12
        have d1 : (i : Int) < n := by omega
        have d2 : (i : Int) < 50 := by omega
        obtain ⟨g1, off, rfl, hA⟩ := HV.out (by omega)
        have hA' := hA.kept (HKI.out _ _ _ _ _ _ wr HI.out)
        have q0 := hA'.c0 i h1
        have q1 := hA'.c1 i h1
        have q2 := hA'.c2 i h1
        have HC1 := hid_of (HS.out _ _ _ _ _ _ wr HI.out h1 h2)
        have hnb : (n : Int) ≤ 9223372036854775807 := by have := HNB.out; unfold maxLen at this; omega
        unfold actV at HC1
        clear hA hA'
        go_wp2_with (first
          | (go_at_call 13; refine Calls.mono HC1.out ?_; rintro r w6 ⟨rfl, hn⟩; have HI6 := hid_of hn; clear hn)
          | go_in)
        go_roundw
        case rel => exact ⟨i + 1, by omega, by omega, by go_num, HI6.out⟩
        case measure => simp [intOf]; omega
      · have hmin : min n 50 = i := by omega
        have HE1 := hid_of (HE.out p tx now va f0 wr (by rw [hmin]; exact HI.out))
        have hor : (¬ i < n ∧ decide ((i : Int) < n) = false ∧ True) ∨ (i < n ∧ (i : Int) < n ∧ decide ((i : Int) < 50) = false) := by
          by_cases h1 : i < n
          · right; refine ⟨h1, by omega, ?_⟩; simp; omega
          · left; refine ⟨h1, ?_, trivial⟩; simp; omega
        clear h12 hmin
        rcases hor with ⟨d0, d1, d2⟩ | ⟨d0, d1, d2⟩
        all_goals
          go_wp2_with (first
            | (go_at_call 14; refine Calls.mono HE1.out ?_; rintro r w7 ⟨vl, rfl, hn⟩; have HJ7 := hid_of hn; clear hn HE1)
            | go_in)
          obtain ⟨_, ⟨lo, hi, aa, capa, rfl, _⟩, lo', hi', al, capl, rfl, _⟩ := HJ.out _ _ _ _ _ _ _ HJ7.out
          have hl6 : ((pairs6 f0).length : Int) ≤ 6 := by have := pairs6_len f0; omega
          have hlg : ((pairs6 (g f0)).length : Int) ≤ 6 := by have := pairs6_len (g f0); omega
          go_loopw [18, 19, 20, 21, 22, 23, 24, 25] (fun v18 v19 _ _ _ _ _ _ wr => ∃ i : Nat, i ≤ 6 ∧ v19 = .int .i64 i ∧ v18 = .int .i64 (((keys6.take i).filterMap (pairOf (g f0))).length : Nat) ∧ J p tx now (.slice aa (pairs6 f0).length capa) (.slice al (pairs6 (g f0)).length capl) f0 wr)
            (fun _ v19 _ _ _ _ _ _ _ => 6 - (intOf v19).toNat)
          case atStart => exact ⟨0, Nat.zero_le _, rfl, rfl, HJ7.out⟩
          case round =>
            obtain ⟨i, hi6, rfl, rfl, hj⟩ := hrel
            have HJW := hid_of hj
            clear hj HI HI0 HJ7
            by_cases hlt : i < 6
            · have d1 : (i : Int) < 6 := by omega
              have HI6 := hid_of hlt
              have BI := hid_of (show I64 (i : Int) by unfold I64; omega)
              clear hi6
              go_wp2_with (first
                | (go_at_call 10; refine key_any _ _ BI.out (fun w8 k8 => ?_); have HJ8 := hid_of (HJK.out _ _ _ _ _ _ _ _ HJW.out k8); clear k8 HJW)
                | go_in)
              go_loopw [21, 22, 23] (fun v21 v22 v23 wr => ∃ j : Nat, j ≤ (pairs6 f0).length ∧ v23 = .int .i64 j ∧ v21 = .string (lookP (keyN i) (⟨#[]⟩, false) ((pairs6 f0).take j)).1 ∧ v22 = .bool (lookP (keyN i) (⟨#[]⟩, false) ((pairs6 f0).take j)).2 ∧ J p tx now (.slice aa (pairs6 f0).length capa) (.slice al (pairs6 (g f0)).length capl) f0 wr)
                (fun _ _ v23 _ => (pairs6 f0).length - (intOf v23).toNat)
              case atStart => exact ⟨0, Nat.zero_le _, rfl, rfl, rfl, HJ8.out⟩
              case round =>
                obtain ⟨j, hjl, rfl, rfl, rfl, hj⟩ := hrel
                obtain ⟨hact, ⟨lo2, hi2, hpa⟩, lo3, hi3, hpl⟩ := HJ.out _ _ _ _ _ _ _ hj
                have HJ9 := hid_of hj
                clear hj HJ8
                by_cases hlt2 : j < (pairs6 f0).length
                · obtain ⟨ga, rfl, q0, q1⟩ := hpa.at j hlt2
                  have htk := lookP_take (keyN i) (⟨#[]⟩, false) (pairs6 f0) j hlt2
                  have hlt2' : (j : Int) < (pairs6 f0).length := by omega
                  generalize (pairs6 f0)[j].1 = x at q0 htk
                  generalize (pairs6 f0)[j].2 = y at q1 htk
                  have HTK := hid_of htk
                  clear hpa hpl hact htk
                  by_cases hke : x = keyN i
                  · subst hke
                    go_wp2
                    go_roundw
                    case rel =>
                      refine ⟨j + 1, by omega, by go_num, ?_, ?_, HJ9.out⟩
                      · rw [HTK.out, if_pos rfl]
                      · rw [HTK.out, if_pos rfl]
                    case measure => simp [intOf]; omega
                  · have dk := str_ne hke
                    have HKE := hid_of hke
                    clear hke
                    go_wp2
                    go_roundw
                    case rel =>
                      refine ⟨j + 1, by omega, by go_num, ?_, ?_, HJ9.out⟩
                      · rw [HTK.out, if_neg HKE.out]
                      · rw [HTK.out, if_neg HKE.out]
                    case measure => simp [intOf]; omega
                · have hje : j = (pairs6 f0).length := by omega
                  subst hje
                  rw [List.take_length]
                  obtain ⟨z0, z1, _⟩ := hact.cell
                  have hgk := HGG.out f0 (keyN i)
                  have hget : ∀ w', J p tx now (.slice aa (pairs6 f0).length capa) (.slice al (pairs6 (g f0)).length capl) f0 w' → _ := fun w' h => HG.out p tx now _ _ f0 w' i h HI6.out
                  have htk6 := pairs6_take (g f0) i HI6.out
                  clear hpa hjl
                  by_cases hk : keyN i = keyN m1
                  · rw [if_pos hk] at hgk
                    have dk := str_eq hk
                    by_cases hv : valN m2 = ⟨#[]⟩
                    · have hgk' : g f0 (keyN i) = (⟨#[]⟩, false) := by rw [hgk, hv]; rfl
                      rw [hgk'] at hget htk6
                      simp only [Bool.false_eq_true, if_false, List.append_nil] at hget htk6
                      have hget2 : ∀ w', J p tx now (.slice aa (pairs6 f0).length capa) (.slice al (pairs6 (g f0)).length capl) f0 w' → Calls Tryd.prog 15 #[.pointer (some ⟨p, 0, none⟩), .int .i64 tx, .string (keyN i)] w' fun r w'' => r = .returned (.tuple #[.string (valN m2), .int .i64 5]) ∧ J p tx now (.slice aa (pairs6 f0).length capa) (.slice al (pairs6 (g f0)).length capl) f0 w'' := by
                        rw [hv]; exact hget
                      have hd0 : (valN m2).toList.isEmpty = true := by rw [Lib.toList_data, hv]; rfl
                      have HGET := hid_of hget2
                      have HTK := hid_of (congrArg List.length htk6)
                      generalize lookP (keyN i) (⟨#[]⟩, false) (pairs6 f0) = lp
                      generalize ((keys6.take i).filterMap (pairOf (g f0))).length = A at HTK ⊢
                      clear hgk hgk' hget hget2 htk6 hv hk hpl
                      go_wp2_with (first
                        | (go_at_call 10; refine key_any _ _ B1.out (fun w10 k10 => ?_); have HJ10 := hid_of (HJK.out _ _ _ _ _ _ _ _ HJ9.out k10); obtain ⟨y0, y1, _⟩ := (HJ.out _ _ _ _ _ _ _ HJ10.out).1.cell; clear k10)
                        | (go_at_call 11; refine value_any _ _ B2.out ?_)
                        | (go_at_call 15; refine Calls.mono (HGET.out _ HJ10.out) ?_; rintro r w11 ⟨rfl, hj⟩; have HJ11 := hid_of hj; clear hj)
                        | go_in)
                      go_roundw
                      case rel => exact ⟨i + 1, by omega, by go_num, by rw [HTK.out], HJ11.out⟩
                      case measure => simp [intOf]; omega
                    · have hgk' : g f0 (keyN i) = (valN m2, true) := by rw [hgk]; simp [hv]
                      have hd0 : (valN m2).toList.isEmpty = false := by
                        rw [Lib.toList_data]
                        cases hd : (valN m2).data.toList with
                        | nil => exact absurd (WideShapes.bytes_inj (by simpa using hd)) hv
                        | cons _ _ => rfl
                      obtain ⟨hAL, gl, rfl, _⟩ := pl_cells hpl i HI6.out (by rw [hgk'])
                      have hcl : ∀ w', J p tx now (.slice aa (pairs6 f0).length capa) (.slice (some ⟨gl, 0, none⟩) (pairs6 (g f0)).length capl) f0 w' → _ := fun w' h => pl_at (HJ.out _ _ _ _ _ _ _ h).2.2 i HI6.out (by rw [hgk'])
                      rw [hgk'] at hget htk6 hcl
                      simp only [if_true] at hget htk6 hcl
                      have HGET := hid_of hget
                      have HTK := hid_of (congrArg List.length htk6)
                      have HCL := hid_of hcl
                      rw [List.length_append] at HTK
                      generalize lookP (keyN i) (⟨#[]⟩, false) (pairs6 f0) = lp
                      generalize ((keys6.take i).filterMap (pairOf (g f0))).length = A at HTK HCL hAL ⊢
                      have hAL' : (A : Int) < (pairs6 (g f0)).length := by omega
                      clear hgk hgk' hget htk6 hv hk hpl hcl
                      go_wp2_with (first
                        | (go_at_call 10; refine key_any _ _ B1.out (fun w10 k10 => ?_); have HJ10 := hid_of (HJK.out _ _ _ _ _ _ _ _ HJ9.out k10); obtain ⟨y0, y1, _⟩ := (HJ.out _ _ _ _ _ _ _ HJ10.out).1.cell; clear k10)
                        | (go_at_call 11; refine value_any _ _ B2.out ?_)
                        | (go_at_call 15; refine Calls.mono (HGET.out _ HJ10.out) ?_; rintro r w11 ⟨rfl, hj⟩; have HJ11 := hid_of hj; obtain ⟨x0, x1⟩ := HCL.out _ hj; clear hj)
                        | go_in)
                      go_roundw
                      case rel => exact ⟨i + 1, by omega, by go_num, by rw [HTK.out]; go_num, HJ11.out⟩
                      case measure => simp [intOf]; omega
                  · rw [if_neg hk] at hgk
                    have dk := str_ne hk
                    cases hth : (f0 (keyN i)).2
                    · have hlp : lookP (keyN i) (⟨#[]⟩, false) (pairs6 f0) = (⟨#[]⟩, false) := lookP_none f0 _ hth _ keys6
                      rw [hgk, hth] at hget htk6
                      simp only [Bool.false_eq_true, if_false, List.append_nil] at hget htk6
                      have HGET := hid_of hget
                      have HTK := hid_of (congrArg List.length htk6)
                      rw [hlp]
                      generalize ((keys6.take i).filterMap (pairOf (g f0))).length = A at HTK ⊢
                      clear hgk hget htk6 hk hpl hlp hth
                      go_wp2_with (first
                        | (go_at_call 10; refine key_any _ _ B1.out (fun w10 k10 => ?_); have HJ10 := hid_of (HJK.out _ _ _ _ _ _ _ _ HJ9.out k10); obtain ⟨y0, y1, _⟩ := (HJ.out _ _ _ _ _ _ _ HJ10.out).1.cell; clear k10)
                        | (go_at_call 15; refine Calls.mono (HGET.out _ HJ10.out) ?_; rintro r w11 ⟨rfl, hj⟩; have HJ11 := hid_of hj; clear hj)
                        | go_in)
                      go_roundw
                      case rel => exact ⟨i + 1, by omega, by go_num, by rw [HTK.out], HJ11.out⟩
                      case measure => simp [intOf]; omega
                    · have hlp : lookP (keyN i) (⟨#[]⟩, false) (pairs6 f0) = ((f0 (keyN i)).1, true) := lookP_some f0 _ hth keys6 _ (keyN_mem _)
                      obtain ⟨hAL, gl, rfl, _⟩ := pl_cells hpl i HI6.out (by rw [hgk]; exact hth)
                      have hcl : ∀ w', J p tx now (.slice aa (pairs6 f0).length capa) (.slice (some ⟨gl, 0, none⟩) (pairs6 (g f0)).length capl) f0 w' → _ := fun w' h => pl_at (HJ.out _ _ _ _ _ _ _ h).2.2 i HI6.out (by rw [hgk]; exact hth)
                      rw [hgk] at hget htk6 hcl
                      rw [hth] at hget htk6
                      simp only [if_true] at hget htk6
                      have HGET := hid_of hget
                      have HTK := hid_of (congrArg List.length htk6)
                      have HCL := hid_of hcl
                      rw [List.length_append] at HTK
                      rw [hlp]
                      generalize ((keys6.take i).filterMap (pairOf (g f0))).length = A at HTK HCL hAL ⊢
                      generalize (f0 (keyN i)).1 = X at HGET HCL ⊢
                      have hAL' : (A : Int) < (pairs6 (g f0)).length := by omega
                      clear hgk hget htk6 hk hpl hcl hlp hth
                      go_wp2_with (first
                        | (go_at_call 10; refine key_any _ _ B1.out (fun w10 k10 => ?_); have HJ10 := hid_of (HJK.out _ _ _ _ _ _ _ _ HJ9.out k10); obtain ⟨y0, y1, _⟩ := (HJ.out _ _ _ _ _ _ _ HJ10.out).1.cell; clear k10)
                        | (go_at_call 15; refine Calls.mono (HGET.out _ HJ10.out) ?_; rintro r w11 ⟨rfl, hj⟩; have HJ11 := hid_of hj; obtain ⟨x0, x1⟩ := HCL.out _ hj; clear hj)
                        | go_in)
                      go_roundw
                      case rel => exact ⟨i + 1, by omega, by go_num, by rw [HTK.out]; go_num, HJ11.out⟩
                      case measure => simp [intOf]; omega
            · have hie : i = 6 := by omega
              subst hie
              have h6 : ((keys6.take 6).filterMap (pairOf (g f0))).length = (pairs6 (g f0)).length := rfl
              rw [h6]
              have HF6 := hid_of (HF.out _ _ _ _ _ _ _ HJW.out)
              clear hi6
              go_wp2_with (first
                | (go_at_call 7; refine Calls.mono HF6.out ?_; rintro r w12 ⟨last, rfl, hn⟩; have HL1 := hid_of hn; clear hn HF6)
                | (go_at_call 16; refine Calls.mono HL1.out ?_; rintro r w13 ⟨rfl, hn⟩; have HL2 := hid_of hn; clear hn HL1)
                | (go_at_call 15; refine Calls.mono HL2.out ?_; rintro r w14 ⟨rfl, hn⟩; have HL3 := hid_of hn; clear hn HL2)
                | (go_at_call 12; refine Calls.mono HL3.out ?_; rintro r w15 ⟨vb, rfl, hn⟩; have HL4 := hid_of hn; clear hn HL3)
                | (go_at_call 17; refine Calls.mono HL4.out ?_; rintro r w16 ⟨rfl, hn⟩; have HL5 := hid_of hn; clear hn HL4)
                | (go_at_call 7; refine Calls.mono HL5.out ?_; rintro r w17 ⟨rfl, hn⟩; have HL6 := hid_of hn; clear hn HL5)
                | go_in)
              exact HL6.out


end

end Go.Proofs.YthbdpfccfcceiaaDoor
