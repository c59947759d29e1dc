/-
  What Recover makes of the beginning of a log: the store as it was at one of its moments.
  What may be asked by moments: covers, AsOf, Retain's answers, Stored, told of the store's plain state.
  The law's small functions: pick, key and value.
-/
import Derived.Test.YthbdpfccfcceiaaGreatDoorF25F26
import Derived.Test.YthbdpfccfcceiaaGreatDoorL1L2
import Derived.Test.YthbdpfccfcceiaaGreatDoorX1K1
import Derived.Test.YthbdpfccfcceiaaGreatDoorW1M1
namespace Go.Proofs.YthbdpfccfcceiaaGreatDoor

/-- The moments of a key, and its versions, behind the first commits. -/
def momE (es : List (List W3)) : Nat → ByteArray → List Int
  | 0, _ => []
  | n + 1, k => if (wrL (es.getD n []) k).isSome = true then momE es n k ++ [(n : Int) + 1] else momE es n k
def verE (es : List (List W3)) : Nat → ByteArray → Int → Option (ByteArray × Bool)
  | 0, _, _ => none
  | n + 1, k, m => if m = (n : Int) + 1 ∧ (wrL (es.getD n []) k).isSome = true then wrL (es.getD n []) k else verE es n k m

/-- The store behind the first n of these commits. -/
structure HistE (es : List (List W3)) (n : Nat) (s : XS) : Prop where
  now : s.now = n
  hor : s.hor = 0
  mom : ∀ k, s.mom k = momE es n k
  ver : ∀ k m, s.ver k m = verE es n k m
  lg : s.log.lg = lgF 1 (es.take n)
  le : n ≤ es.length

theorem hist_new (es : List (List W3)) (mu : Nat) : HistE es 0 (newXS mu) := ⟨rfl, rfl, fun _ => rfl, fun _ _ => rfl, by simp [newXS, lgF], Nat.zero_le _⟩

section
variable {es : List (List W3)} {n i : Nat} {s s' : XS}

theorem HistE.next (h : HistE es n s) {ws : List W3} (hn : es[n]? = some ws) {l : XL} (hlg : l.lg = s.log.lg ++ [bodyC (n + 1) ws]) (nv nm : Nat) : HistE es (n + 1) (comm { s with log := l } ⟨0, wrL ws, 0⟩ (fun _ => false) nv nm) := by
  obtain ⟨hlt, he⟩ := List.getElem?_eq_some_iff.1 hn
  have hg : es.getD n [] = ws := by simp [List.getD, hn]
  refine ⟨?_, h.hor, fun k => ?_, fun k m => ?_, ?_, by omega⟩
  · show s.now + 1 = _
    rw [h.now]; simp
  · simp only [comm, Bool.not_false, Bool.and_true, momE, hg, h.now, h.mom]
  · simp only [comm, Bool.not_false, Bool.and_true, verE, hg, h.now, h.ver]
  · show l.lg = _
    rw [hlg, h.lg, List.take_succ_eq_append_getElem hlt, he, lgF_snoc, List.length_take, Nat.min_eq_left (by omega), Nat.add_comm 1 n]

theorem HistE.did (h : HistE es n s) {ws : List W3} (hn : es[n]? = some ws) {r : RecV} (hr : r.t3 = (67, n + 1, ws)) (hd : Did r s s') : HistE es (n + 1) s' := by
  unfold RecV.t3 at hr
  injection hr with h1 hr
  injection hr with h2 h3
  obtain ⟨l, _, hd⟩ := hd
  rcases hd with ⟨e, _⟩ | ⟨_, hlg, nv, nm, _, _, rfl⟩
  · omega
  · rw [h2, h3] at hlg
    rw [h3]
    exact h.next hn hlg nv nm

theorem HistE.may (h : HistE es n s) (hn : n < 2000) : mayF s 67 (n + 1) = true := by
  unfold mayF
  rw [if_neg (by omega), h.now]
  simp
  omega

theorem done_hist : ∀ (l : List RecV) (n : Nat) (s s' : XS), HistE es n s → l.length ≤ (es.drop n).length → l.map RecV.t3 = recsT (n + 1) ((es.drop n).take l.length) → DoneAll l s s' → HistE es (n + l.length) s'
  | [], n, s, s', h, _, _, hd => by
    have hd : s' = s := hd
    subst hd
    exact h
  | r :: l, n, s, s', h, hl, he, hd => by
    obtain ⟨_, s1, h1, h2⟩ := hd
    simp only [List.length_cons, List.length_drop] at hl
    have hlt : n < es.length := by omega
    rw [List.drop_eq_getElem_cons hlt] at he
    simp only [List.length_cons, List.take_succ_cons, recsT, List.map_cons] at he
    injection he with e1 e2
    have h3 := h.did (List.getElem?_eq_getElem hlt) e1 h1
    have := done_hist l (n + 1) s1 s' h3 (by rw [List.length_drop]; omega) e2 h2
    rw [show n + (r :: l).length = n + 1 + l.length by simp; omega]
    exact this

theorem recsT_take : ∀ (j t : Nat) (bl : List (List W3)), (recsT t bl).take j = recsT t (bl.take j)
  | 0, _, _ => by simp [recsT]
  | j + 1, t, [] => by simp [recsT]
  | j + 1, t, ws :: r => by simp [recsT, recsT_take j (t + 1) r]
theorem recsT_at : ∀ (j t : Nat) (bl : List (List W3)) (x : Nat × Nat × List W3), (recsT t bl)[j]? = some x → ∃ ws, bl[j]? = some ws ∧ x = (67, t + j, ws)
  | _, _, [], _, h => by simp [recsT] at h
  | 0, t, ws :: r, x, h => by
    simp [recsT] at h
    exact ⟨ws, by simp, by rw [← h]; simp⟩
  | j + 1, t, ws :: r, x, h => by
    simp [recsT] at h
    obtain ⟨w, h1, h2⟩ := recsT_at j (t + 1) r x h
    exact ⟨w, by simpa using h1, by rw [h2, show t + 1 + j = t + (j + 1) by omega]⟩

theorem file_eq (es : List (List W3)) (i : Nat) : fileAt (lgF 1 es) i = openB i ++ (lgF (1 + 4 * i) ((es.drop (4 * i)).take 4)).flatMap frameB := by
  unfold fileAt
  rw [lgF_drop, lgF_take]

theorem file_drop (es : List (List W3)) (i m : Nat) : ((fileAt (lgF 1 es) i).take m).drop 11 = ((lgF (1 + 4 * i) ((es.drop (4 * i)).take 4)).flatMap frameB).take (m - 11) := by
  rw [file_eq, List.drop_take]
  congr 1

theorem file_cut (es : List (List W3)) {i m : Nat} (hi : i < 4294967296) (hm : 11 ≤ m) : cutO ((fileAt (lgF 1 es) i).take m) = some i := by
  rw [file_eq, List.take_append, List.take_of_length_le (by rw [openB_length]; exact hm)]
  generalize ((lgF (1 + 4 * i) ((es.drop (4 * i)).take 4)).flatMap frameB).take (m - (openB i).length) = r
  have hu := unseal_seal ([80, 76, 49] ++ fourB i) r
  rw [show (([80, 76, 49] : List UInt8) ++ fourB i).length = 7 from rfl] at hu
  unfold cutO
  rw [show openB i = sealB ([80, 76, 49] ++ fourB i) from rfl, hu]
  dsimp only
  rw [if_pos (by rfl)]
  congr 1
  exact le4_four i hi

theorem cutO_short {bs : List UInt8} (h : bs.length < 11) : cutO bs = none := by
  unfold cutO unsealB
  rw [if_pos (Or.inl (by omega))]

theorem rep_hist {m : Nat} {b : Bool} (hE : ∀ ws ∈ es, ComOk ws) (hl : es.length ≤ 2000) (hi : i < 4294967) (h : HistE es (4 * i) s) (hr : Replayed ((fileAt (lgF 1 es) i).take m) i s s' b) :
    ∃ j, j ≤ 4 ∧ HistE es (4 * i + j) s' ∧ (b = true ↔ j = 4) ∧ (j < 4 → 4 * i + j < es.length → m < 11 + ((((lgF 1 es).drop (4 * i)).take (j + 1)).flatMap frameB).length) := by
  rcases hr with ⟨h1, rfl, rfl⟩ | ⟨l, rest, hf, hr⟩
  · refine ⟨0, by omega, h, by simp, fun _ _ => ?_⟩
    have : ¬ 11 ≤ m := fun hm => h1 (file_cut es (by omega) hm)
    omega
  · have hm : 11 ≤ m := by
      rcases Nat.lt_or_ge m 11 with hm | hm
      · have := cutO_short (bs := (fileAt (lgF 1 es) i).take m) (by have := List.length_take_le m (fileAt (lgF 1 es) i); omega)
        rw [hf.num] at this
        cases this
      · exact hm
    have hbl : ∀ ws ∈ (es.drop (4 * i)).take 4, ComOk ws := fun ws hw => hE ws (List.mem_of_mem_drop (List.mem_of_mem_take hw))
    have hlb : ((es.drop (4 * i)).take 4).length ≤ 4 := List.length_take_le _ _
    have hrd := hf.recs
    rw [file_drop] at hrd
    obtain ⟨i1, i2, i3, i4⟩ := reads_frames l (1 + 4 * i) ((es.drop (4 * i)).take 4) (m - 11) rest hbl (by omega) hrd
    have hl4 := hf.le
    have htk : ∀ j, j ≤ 4 → ((es.drop (4 * i)).take 4).take j = (es.drop (4 * i)).take j := fun j hj => by rw [List.take_take, Nat.min_eq_left hj]
    have hlen : l.length ≤ (es.drop (4 * i)).length := by
      have := List.length_take_le 4 (es.drop (4 * i))
      have : ((es.drop (4 * i)).take 4).length ≤ (es.drop (4 * i)).length := by rw [List.length_take]; omega
      omega
    rw [htk _ hl4, Nat.add_comm 1 (4 * i)] at i2
    rcases hr with ⟨j, r, hj, hd, hm', _⟩ | ⟨hd, rfl⟩
    · exfalso
      have hjl : j < l.length := (List.getElem?_eq_some_iff.1 hj).1
      have e1 : (l.take j).map RecV.t3 = recsT (4 * i + 1) ((es.drop (4 * i)).take j) := by
        rw [List.map_take, i2, recsT_take, List.take_take, Nat.min_eq_left (by omega)]
      have hlj : (l.take j).length = j := by rw [List.length_take]; omega
      have h2 := done_hist (l.take j) (4 * i) s s' h (by omega) (by rw [hlj]; exact e1) hd
      rw [hlj] at h2
      have e2 : (l.map RecV.t3)[j]? = some r.t3 := by rw [List.getElem?_map, hj]; rfl
      rw [i2] at e2
      obtain ⟨ws, _, e3⟩ := recsT_at j _ _ _ e2
      unfold RecV.t3 at e3
      injection e3 with e3 e4
      injection e4 with e4 _
      have h3 := h2.may (by simp only [List.length_drop] at hlen; omega)
      rw [e3, e4, show 4 * i + 1 + j = 4 * i + j + 1 by omega, h3] at hm'
      cases hm'
    · have h2 := done_hist l (4 * i) s s' h hlen i2 hd
      refine ⟨l.length, hl4, h2, ?_, fun hj hlt => ?_⟩
      · constructor
        · intro hb
          simp only [Bool.and_eq_true, decide_eq_true_eq] at hb
          exact hb.2
        · intro hb
          have e : rest = [] := by
            rw [i4, List.drop_of_length_le (show ((es.drop (4 * i)).take 4).length ≤ l.length by omega)]
            simp [lgF]
          simp [e, hb]
      · have hno := hf.stop hj
        have hlt2 : l.length < ((es.drop (4 * i)).take 4).length := by rw [List.length_take, List.length_drop]; omega
        rw [i4, List.drop_eq_getElem_cons hlt2] at hno
        generalize hX : ((lgF (1 + 4 * i) (((es.drop (4 * i)).take 4).take l.length)).flatMap frameB).length = X at hno i3
        have hw := hbl _ (List.getElem_mem hlt2)
        have hcut : m - 11 - X < (frameB (bodyC (1 + 4 * i + l.length) ((es.drop (4 * i)).take 4)[l.length])).length := by
          rcases Nat.lt_or_ge (m - 11 - X) (frameB (bodyC (1 + 4 * i + l.length) ((es.drop (4 * i)).take 4)[l.length])).length with hq | hq
          · exact hq
          · exfalso
            simp only [lgF, List.flatMap_cons] at hno
            rw [List.take_append, List.take_of_length_le hq] at hno
            exact hno _ _ _ _ (cut_of_frame hw (by omega) _)
        rw [lgF_drop, lgF_take]
        have e5 : (es.drop (4 * i)).take (l.length + 1) = (((es.drop (4 * i)).take 4).take l.length) ++ [((es.drop (4 * i)).take 4)[l.length]] := by
          rw [← htk (l.length + 1) (by omega), List.take_succ_eq_append_getElem hlt2]
        rw [e5, lgF_snoc]
        have hl6 : (((es.drop (4 * i)).take 4).take l.length).length = l.length := by rw [List.length_take]; omega
        rw [hl6]
        simp only [List.flatMap_append, List.flatMap_cons, List.flatMap_nil, List.append_nil, List.length_append]
        omega

theorem recAll_hist (hE : ∀ ws ∈ es, ComOk ws) (hl : es.length ≤ 2000) : ∀ (l : List (List UInt8)) (i : Nat) (s s' : XS), i + l.length < 4294967 → HistE es (4 * i) s → (∀ (j : Nat) f, l[j]? = some f → ∃ m, f = (fileAt (lgF 1 es) (i + j)).take m) → RecAll l i s s' → HistE es (4 * (i + l.length)) s'
  | [], i, s, s', _, h, _, hr => by
    have hr : s' = s := hr
    subst hr
    exact h
  | f :: l, i, s, s', hlt, h, hf, hr => by
    obtain ⟨s1, h1, h2⟩ := hr
    obtain ⟨m, rfl⟩ := hf 0 f (by simp)
    simp only [List.length_cons] at hlt
    obtain ⟨j, _, h3, h4, _⟩ := rep_hist (i := i) hE hl (by omega) h h1
    have hj := h4.1 rfl
    subst hj
    have := recAll_hist hE hl l (i + 1) s1 s' (by omega) (by rw [show 4 * (i + 1) = 4 * i + 4 by omega]; exact h3) (fun j f hj => by
      obtain ⟨m, e⟩ := hf (j + 1) f (by simpa using hj)
      exact ⟨m, by rw [e, show i + 1 + j = i + (j + 1) by omega]⟩) h2
    simp only [List.length_cons]
    rw [show i + (l.length + 1) = i + 1 + l.length by omega]
    exact this

end

end Go.Proofs.YthbdpfccfcceiaaGreatDoor

namespace Go.Proofs.YthbdpfccfcceiaaGreatDoor
open Go.RowKit Go.Maps

section
variable {own own' : Nat → Lab} {c : Nat} {w w' : World} {p : Nat} {s : XS} {mo ph mv mm : Nat} {pt mw : Int → Nat} {sl : ByteArray → Value}
variable {R : Ending → World → Prop}

set_option maxRecDepth 20000 in
set_option maxHeartbeats 400000 in
theorem x_covers (h : XR own c w p s mo ph mv mm pt mw sl) (t : Int)
    (h1 : t < s.hor → R (.returned (.int .i64 6)) w)
    (h2 : ¬ t < s.hor → s.now < t → R (.returned (.int .i64 7)) w)
    (h3 : ¬ t < s.hor → ¬ s.now < t → R (.returned (.int .i64 0)) w) :
    Calls Tryz.prog 44 #[.pointer (some ⟨p, 0, none⟩), .int .i64 t] w R := by
  have c1 : w.cell? ⟨p, 1, none⟩ = some (.int .i64 s.hor) := cell_of h.store 1
  have c2 : w.cell? ⟨p, 2, none⟩ = some (.int .i64 s.now) := cell_of h.store 2
  clear h
  by_cases q1 : t < s.hor
  · have d1 : decide (t < s.hor) = true := by simpa using q1
    have HR := hid_of (h1 q1)
    clear h1 h2 h3
    go_enter Tryz.func44, Tryz.ntmps44
    go_wp2
    exact HR.out
  · have d1 : decide (t < s.hor) = false := by simpa using q1
    by_cases q2 : s.now < t
    · have d2 : decide (s.now < t) = true := by simpa using q2
      have HR := hid_of (h2 q1 q2)
      clear h1 h2 h3
      go_enter Tryz.func44, Tryz.ntmps44
      go_wp2
      exact HR.out
    · have d2 : decide (s.now < t) = false := by simpa using q2
      have HR := hid_of (h3 q1 q2)
      clear h1 h2 h3
      go_enter Tryz.func44, Tryz.ntmps44
      go_wp2
      exact HR.out

set_option maxRecDepth 20000 in
set_option maxHeartbeats 400000 in
theorem x_asof0 (h : XR own c w p s mo ph mv mm pt mw sl) (t : Int) (key : ByteArray) (hkl : key.size ≤ maxLen) (hm : ∀ k, MomOk s k)
    (h1 : isKey key = false → R (.returned (.tuple #[.string eb, .int .i64 1])) w)
    (h2 : isKey key = true → t < s.hor → R (.returned (.tuple #[.string eb, .int .i64 6])) w)
    (h3 : isKey key = true → ¬ t < s.hor → s.now < t → R (.returned (.tuple #[.string eb, .int .i64 7])) w)
    (h4 : isKey key = true → ¬ t < s.hor → ¬ s.now < t → (valAt s key t).2 = false → ∀ w', Kp (fun _ => False) w w' → R (.returned (.tuple #[.string eb, .int .i64 5])) w')
    (h5 : isKey key = true → ¬ t < s.hor → ¬ s.now < t → (valAt s key t).2 = true → ∀ w', Kp (fun _ => False) w w' → R (.returned (.tuple #[.string (valAt s key t).1, .int .i64 0])) w') :
    Calls Tryz.prog 56 #[.pointer (some ⟨p, 0, none⟩), .int .i64 t, .string key] w R := by
  have H := hid_of h
  have HK := hid_of hkl
  have HM := hid_of hm
  have c3 : w.cell? ⟨p, 0, none⟩ = some (.pointer (some ⟨ph, 0, none⟩)) := cell_of h.store 0
  clear h hkl hm
  cases hb : isKey key with
  | false =>
    have HR := hid_of (h1 hb)
    clear h1 h2 h3 h4 h5
    go_enter Tryz.func56, Tryz.ntmps56
    go_wp2_with (first
      | (go_at_call 67; refine (isKey_any _ _ HK.out).mono ?_; rintro e w' ⟨rfl, rfl⟩)
      | go_in)
    exact HR.out
  | true =>
    have hk8 := isKey_le key hb
    have HK8 := hid_of hk8
    clear hk8
    by_cases q1 : t < s.hor
    · have HR := hid_of (h2 hb q1)
      have Q1 := hid_of q1
      clear h1 h2 h3 h4 h5 q1
      go_enter Tryz.func56, Tryz.ntmps56
      go_wp2_with (first
        | (go_at_call 67; refine (isKey_any _ _ HK.out).mono ?_; rintro e w' ⟨rfl, rfl⟩)
        | (go_at_call 44; refine x_covers H.out t (fun _ => ?_) (fun q _ => by have := Q1.out; omega) (fun q _ => by have := Q1.out; omega))
        | go_in)
      exact HR.out
    · by_cases q2 : s.now < t
      · have HR := hid_of (h3 hb q1 q2)
        have Q1 := hid_of q1
        have Q2 := hid_of q2
        clear h1 h2 h3 h4 h5 q1 q2
        go_enter Tryz.func56, Tryz.ntmps56
        go_wp2_with (first
          | (go_at_call 67; refine (isKey_any _ _ HK.out).mono ?_; rintro e w' ⟨rfl, rfl⟩)
          | (go_at_call 44; refine x_covers H.out t (fun q => by have := Q1.out; omega) (fun _ _ => ?_) (fun _ q => by have := Q2.out; omega))
          | go_in)
        exact HR.out
      · have Q1 := hid_of q1
        have Q2 := hid_of q2
        cases hv : (valAt s key t).2 with
        | false =>
          have HR := hid_of (h4 hb q1 q2 hv)
          clear h1 h2 h3 h4 h5 q1 q2
          go_enter Tryz.func56, Tryz.ntmps56
          go_wp2_with (first
            | (go_at_call 67; refine (isKey_any _ _ HK.out).mono ?_; rintro e w' ⟨rfl, rfl⟩)
            | (go_at_call 44; refine x_covers H.out t (fun q => by have := Q1.out; omega) (fun _ q => by have := Q2.out; omega) (fun _ _ => ?_))
            | (go_at_call 91; refine x_value H.out key t HK8.out (HM.out key).len (HM.out key).up (HM.out key).ver (fun w1 hk1 => ?_); have HK1 := hid_of hk1; clear hk1)
            | go_in)
          exact HR.out w1 HK1.out
        | true =>
          have HR := hid_of (h5 hb q1 q2 hv)
          clear h1 h2 h3 h4 h5 q1 q2
          go_enter Tryz.func56, Tryz.ntmps56
          go_wp2_with (first
            | (go_at_call 67; refine (isKey_any _ _ HK.out).mono ?_; rintro e w' ⟨rfl, rfl⟩)
            | (go_at_call 44; refine x_covers H.out t (fun q => by have := Q1.out; omega) (fun _ q => by have := Q2.out; omega) (fun _ _ => ?_))
            | (go_at_call 91; refine x_value H.out key t HK8.out (HM.out key).len (HM.out key).up (HM.out key).ver (fun w1 hk1 => ?_); have HK1 := hid_of hk1; clear hk1)
            | go_in)
          exact HR.out w1 HK1.out

set_option maxRecDepth 20000 in
set_option maxHeartbeats 400000 in
theorem x_asof (t : Int) (key : ByteArray)
    (hR : Calls Tryz.prog 56 #[.pointer (some ⟨p, 0, none⟩), .int .i64 t, .string key] w fun e w' => ∃ (a : ByteArray) (b : Int), e = .returned (.tuple #[.string a, .int .i64 b]) ∧ R (.returned (.tuple #[.string a, .int .i64 b])) w') :
    Calls Tryz.prog 29 #[.pointer (some ⟨p, 0, none⟩), .int .i64 t, .string key] w R := by
  have HR := hid_of hR
  clear hR
  go_enter Tryz.func29, Tryz.ntmps29
  go_wp2_with (first
    | (go_at_call 56; refine Calls.mono HR.out ?_; rintro e w1 ⟨a, b, rfl, hr⟩; have HR1 := hid_of hr; clear hr)
    | go_in)
  exact HR1.out

set_option maxRecDepth 20000 in
set_option maxHeartbeats 400000 in
theorem x_stored (h : XR own c w p s mo ph mv mm pt mw sl) (hR : R (.returned (.int .i64 s.nv)) w) :
    Calls Tryz.prog 112 #[.pointer (some ⟨p, 0, none⟩)] w R := by
  have c3 : w.cell? ⟨p, 0, none⟩ = some (.pointer (some ⟨ph, 0, none⟩)) := cell_of h.store 0
  have d0 : w.cell? ⟨ph, 0, none⟩ = some (.map (some mv)) := cell_of h.hist 0
  have hv := h.vers
  have HR := hid_of hR
  have hS : Hid (Calls Tryz.prog 163 #[.pointer (some ⟨ph, 0, none⟩)] w (fun e w' => e = .returned (.int .i64 s.nv) ∧ w' = w)) := by
    show Calls _ _ _ _ _
    clear h hR HR
    go_enter Tryz.func163, Tryz.ntmps163
    go_wp2_with (first
      | (at_len; refine wpL_len _ rfl _ 206 rfl 225 138 Tryz.underlying206 mv s.nv _ rfl hv ?_)
      | go_in)
    go_ret
    exact ⟨rfl, rfl⟩
  clear h hR hv
  go_enter Tryz.func112, Tryz.ntmps112
  go_wp2_with (first
    | (go_at_call 163; refine Calls.mono hS.out ?_; rintro e w1 ⟨rfl, rfl⟩)
    | go_in)
  exact HR.out

end

end Go.Proofs.YthbdpfccfcceiaaGreatDoor

namespace Go.Proofs.YthbdpfccfcceiaaGreatDoor
open Go.RowKit

def pk (c n : Int) : Int := (if c < 0 then -(c + 1) else c) % n

theorem pk_lt (c : Int) {n : Int} (h : 0 < n) : 0 ≤ pk c n ∧ pk c n < n := ⟨Int.emod_nonneg _ (by omega), Int.emod_lt_of_pos _ h⟩

/-- One of the six keys. -/
def k6 (i : Int) : ByteArray := if i = 0 then ⟨#[97]⟩ else if i = 1 then ⟨#[98]⟩ else if i = 2 then ⟨#[98, 98]⟩ else if i = 3 then ⟨#[99]⟩ else if i = 4 then ⟨#[107, 57]⟩ else ⟨#[122, 122, 122, 122, 122, 122, 122, 122]⟩
def keyN (n : Int) : ByteArray := k6 (pk n 6)
def vv (d : Int) : ByteArray := (⟨#[118]⟩ : ByteArray) ++ (⟨#[48, 49, 50, 51, 52, 53, 54, 55, 56, 57]⟩ : ByteArray).extract d.toNat (d + 1).toNat ++ (⟨#[0]⟩ : ByteArray)
def valN (n : Int) : ByteArray := if pk n 30 < 6 then ⟨#[]⟩ else vv (pk n 30 % 10)

section
variable {R : Ending → World → Prop}

set_option maxHeartbeats 400000 in
theorem pick_any (c n : Int) (w : World) (hc : -9223372036854775808 ≤ c ∧ c ≤ 9223372036854775807) (hn : 0 < n ∧ n ≤ 1000000) (hR : R (.returned (.int .i64 (pk c n))) w) :
    Calls Tryz.prog 13 #[.int .i64 c, .int .i64 n] w R := by
  have HR := hid_of hR
  clear hR
  by_cases h0 : c < 0
  · have d0 : decide (c < 0) = true := by simpa using h0
    have e1 : (-(c + 1)).tmod n = pk c n := by rw [pk, if_pos h0, Int.tmod_eq_emod_of_nonneg (by omega)]
    have b1 := pk_lt c hn.1
    go_enter Tryz.func13, Tryz.ntmps13
    go_wp2
    exact HR.out
  · have d0 : decide (c < 0) = false := by simpa using h0
    have e1 : c.tmod n = pk c n := by rw [pk, if_neg h0, Int.tmod_eq_emod_of_nonneg (by omega)]
    have b1 := pk_lt c hn.1
    go_enter Tryz.func13, Tryz.ntmps13
    go_wp2
    exact HR.out

set_option maxRecDepth 20000 in
set_option maxHeartbeats 4000000 in
theorem key_any (n : Int) (w : World) (hc : -9223372036854775808 ≤ n ∧ n ≤ 9223372036854775807) (hR : ∀ w', Kp (fun _ => False) w w' → R (.returned (.string (keyN n))) w') :
    Calls Tryz.prog 38 #[.int .i64 n] w R := by
  have HR := hid_of hR
  have HC := hid_of hc
  clear hR hc
  have b1 := pk_lt n (n := 6) (by decide)
  have hq : pk n 6 = 0 ∨ pk n 6 = 1 ∨ pk n 6 = 2 ∨ pk n 6 = 3 ∨ pk n 6 = 4 ∨ pk n 6 = 5 := by omega
  clear b1
  rcases hq with e | e | e | e | e | e
  all_goals
    rw [show keyN n = k6 (pk n 6) from rfl, e] at HR
    have E := hid_of e
    clear e
    go_enter Tryz.func38, Tryz.ntmps38
    go_wp2_with (first
      | (go_at_call 13; refine pick_any _ _ _ HC.out (by decide) ?_; rw [E.out])
      | go_in)
    exact HR.out _ (Kp.alloc (fun _ => False) _ _)

set_option maxRecDepth 20000 in
set_option maxHeartbeats 4000000 in
theorem value_any (n : Int) (w : World) (hc : -9223372036854775808 ≤ n ∧ n ≤ 9223372036854775807) (hR : R (.returned (.string (valN n))) w) :
    Calls Tryz.prog 39 #[.int .i64 n] w R := by
  have HR := hid_of hR
  have HC := hid_of hc
  clear hR hc
  have b1 := pk_lt n (n := 30) (by decide)
  by_cases h6 : pk n 30 < 6
  · have eV : valN n = ⟨#[]⟩ := by simp [valN, h6]
    rw [eV] at HR
    have d6 : decide (pk n 30 < 6) = true := by simpa using h6
    clear eV
    go_enter Tryz.func39, Tryz.ntmps39
    go_wp2_with (first
      | (go_at_call 13; refine pick_any _ _ _ HC.out (by decide) ?_)
      | go_in)
    exact HR.out
  · have d6 : decide (pk n 30 < 6) = false := by simpa using h6
    have e10 : (pk n 30).tmod 10 = pk n 30 % 10 := Int.tmod_eq_emod_of_nonneg (by omega)
    have b3 : 0 ≤ pk n 30 % 10 ∧ pk n 30 % 10 < 10 := by omega
    have eV : valN n = vv (pk n 30 % 10) := by simp [valN, h6]
    rw [eV] at HR
    clear eV
    go_enter Tryz.func39, Tryz.ntmps39
    go_wp2_with (first
      | (go_at_call 13; refine pick_any _ _ _ HC.out (by decide) ?_)
      | go_in)
    exact HR.out

theorem valN_size (n : Int) : (valN n).size ≤ 20 := by
  unfold valN
  split
  · simp [ByteArray.size]
  · simp [vv, ByteArray.size_append, ByteArray.size_extract]
    simp [ByteArray.size]
    omega

theorem keyN_key (n : Int) : isKey (keyN n) = true := by
  have b1 := pk_lt n (n := 6) (by decide)
  have hq : pk n 6 = 0 ∨ pk n 6 = 1 ∨ pk n 6 = 2 ∨ pk n 6 = 3 ∨ pk n 6 = 4 ∨ pk n 6 = 5 := by omega
  unfold keyN
  rcases hq with e | e | e | e | e | e <;> rw [e] <;> decide

end

end Go.Proofs.YthbdpfccfcceiaaGreatDoor
