/-
  The files of a log, one by one; how many bytes they have; and of the first bytes of them, file by file.
  What a crash leaves of a log whose records may follow each other is never damaged ahead of its last file.
  One step of the law's script of the kinds of stage 3 that speak of a pair of stores: it makes the call that those kinds make.
  Steps of the law of the kinds of stage 3: Files, Sync, Crash, Recover, and a fall.
-/
import Derived.Test.YthbdpfccfcceiaaGreatDoorLA6LA7LA9LA10LA11F25
import Derived.Test.YthbdpfccfcceiaaGreatDoorDC1DBB
import Derived.Test.YthbdpfccfcceiaaGreatDoorG6
import Derived.Test.YthbdpfccfcceiaaGreatDoorLA8G15G16
namespace Go.Proofs.YthbdpfccfcceiaaGreatDoor

/-- The i-th file of a log. -/
def fileAt (lg : List (List UInt8)) (i : Nat) : List UInt8 := openB i ++ ((lg.drop (4 * i)).take 4).flatMap frameB

theorem drop_take_snoc {α : Type} (l : List α) (x : α) (i : Nat) (h : 4 * i + 4 ≤ l.length) : ((l ++ [x]).drop (4 * i)).take 4 = (l.drop (4 * i)).take 4 := by
  rw [List.drop_append_of_le_length (by omega), List.take_append_of_le_length (by rw [List.length_drop]; omega)]

theorem filesB_at (lg : List (List UInt8)) : ∀ i, 4 * i < lg.length → (filesB lg)[i]? = some (fileAt lg i) := by
  induction lg using snoc_ind with
  | h0 => intro i hi; simp at hi
  | h1 l x ih =>
    intro i hi
    simp only [List.length_append, List.length_cons, List.length_nil] at hi
    have hlen := filesB_length l
    rw [filesB_snoc]
    unfold addF
    by_cases h4 : l.length % 4 = 0
    · rw [if_pos h4]
      by_cases hi2 : 4 * i < l.length
      · rw [List.getElem?_append_left (by omega), ih i hi2]
        unfold fileAt
        rw [drop_take_snoc l x i (by omega)]
      · have e : i = (filesB l).length := by omega
        rw [List.getElem?_append_right (by omega), ← e, Nat.sub_self]
        have e2 : l.length = 4 * i := by omega
        unfold fileAt
        rw [← e2, List.drop_left]
        simp
    · rw [if_neg h4]
      have hne : filesB l ≠ [] := filesB_ne h4
      have hlast : (filesB l).getLastD [] = fileAt l ((filesB l).length - 1) := by
        have h1 := ih ((filesB l).length - 1) (by omega)
        rw [List.getLastD_eq_getLast?, List.getLast?_eq_getElem?, h1]
        rfl
      by_cases hi2 : i < (filesB l).length - 1
      · rw [List.getElem?_append_left (by rw [List.length_dropLast]; omega), List.getElem?_dropLast, if_pos hi2, ih i (by omega)]
        unfold fileAt
        rw [drop_take_snoc l x i (by omega)]
      · have e : i = (filesB l).length - 1 := by omega
        rw [List.getElem?_append_right (by rw [List.length_dropLast]; omega), List.length_dropLast, ← e, Nat.sub_self, hlast, ← e]
        unfold fileAt
        rw [List.drop_append_of_le_length (by omega)]
        have hd : (l.drop (4 * i)).length ≤ 3 := by rw [List.length_drop]; omega
        rw [List.take_of_length_le (l := l.drop (4 * i)) (by omega), List.take_of_length_le (by simp; omega)]
        simp

/-- How many bytes the first records' files have. -/
def sizeB (lg : List (List UInt8)) (k : Nat) : Nat := bytesOf (filesB (lg.take k))

theorem sizeB_zero (lg : List (List UInt8)) : sizeB lg 0 = 0 := by simp [sizeB, filesB, filesN, bytesOf]

theorem sizeB_succ {lg : List (List UInt8)} {k : Nat} {b : List UInt8} (h : lg[k]? = some b) : sizeB lg (k + 1) = sizeB lg k + (frameB b).length + if k % 4 = 0 then 11 else 0 := by
  obtain ⟨hk, rfl⟩ := List.getElem?_eq_some_iff.1 h
  unfold sizeB
  have hl : (lg.take k).length = k := by rw [List.length_take]; omega
  rw [List.take_succ_eq_append_getElem hk, filesB_snoc, bytesOf_addF _ _ _ (fun h => filesB_ne h), hl]
  have hf := frameB_length lg[k]
  split <;> simp_all <;> omega

theorem sizeB_mono {lg : List (List UInt8)} : ∀ {a b : Nat}, a ≤ b → b ≤ lg.length → sizeB lg a ≤ sizeB lg b := by
  intro a b hab hb
  induction b with
  | zero => have : a = 0 := by omega
            subst this; exact Nat.le_refl _
  | succ b ih =>
    by_cases h : a = b + 1
    · subst h; exact Nat.le_refl _
    · have := sizeB_succ (List.getElem?_eq_getElem (show b < lg.length by omega))
      have := ih (by omega) (by omega)
      omega

theorem sizeB_lt {lg : List (List UInt8)} {a b : Nat} (hab : a < b) (hb : b ≤ lg.length) : sizeB lg a < sizeB lg b := by
  have h1 := sizeB_succ (List.getElem?_eq_getElem (show a < lg.length by omega))
  have h2 := sizeB_mono (lg := lg) (a := a + 1) (b := b) (by omega) hb
  rw [frameB_length] at h1
  omega

/-- Within a file. -/
theorem sizeB_in {lg : List (List UInt8)} {i : Nat} : ∀ {j : Nat}, j < 4 → 4 * i + j < lg.length → sizeB lg (4 * i + j + 1) = sizeB lg (4 * i) + 11 + (((lg.drop (4 * i)).take (j + 1)).flatMap frameB).length := by
  intro j
  induction j with
  | zero =>
    intro _ h
    rw [sizeB_succ (List.getElem?_eq_getElem h), if_pos (by omega)]
    have e : (lg.drop (4 * i)).take 1 = [lg[4 * i]] := by
      rw [List.drop_eq_getElem_cons (show 4 * i < lg.length by omega)]
      rfl
    simp only [Nat.add_zero, Nat.zero_add] at e ⊢
    rw [e]
    simp
    omega
  | succ j ih =>
    intro hj h
    have h1 := ih (by omega) (by omega)
    rw [show 4 * i + (j + 1) + 1 = (4 * i + j + 1) + 1 by omega, sizeB_succ (List.getElem?_eq_getElem (show 4 * i + j + 1 < lg.length by omega)), if_neg (by omega), h1]
    have e : (lg.drop (4 * i)).take (j + 1 + 1) = (lg.drop (4 * i)).take (j + 1) ++ [lg[4 * i + j + 1]] := by
      rw [List.take_succ_eq_append_getElem (by rw [List.length_drop]; omega), List.getElem_drop]
      congr 3
    rw [e]
    simp
    omega

theorem bytesOf_takeF {lg : List (List UInt8)} {q : Nat} (h : 4 * q ≤ lg.length) : bytesOf ((filesB lg).take q) = sizeB lg (4 * q) := by
  unfold sizeB
  congr 1
  apply List.ext_getElem?
  intro i
  have hl := filesB_length (lg.take (4 * q))
  rw [List.length_take] at hl
  rw [List.getElem?_take]
  split
  · rename_i hi
    rw [filesB_at lg i (by omega), filesB_at (lg.take (4 * q)) i (by rw [List.length_take]; omega)]
    unfold fileAt
    rw [List.drop_take, List.take_take, Nat.min_eq_left (by omega)]
  · rw [List.getElem?_eq_none (by omega)]

theorem firstB_at : ∀ (fs : List (List UInt8)) (n q : Nat) (f' : List UInt8), (firstB fs n)[q]? = some f' → ∃ f, fs[q]? = some f ∧ bytesOf (fs.take q) < n ∧ f' = f.take (n - bytesOf (fs.take q))
  | [], _, _, _, h => by simp [firstB] at h
  | g :: r, n, q, f', h => by
    unfold firstB at h
    split at h
    · simp at h
    · rename_i hn
      cases q with
      | zero =>
        simp at h
        exact ⟨g, by simp, by simp [bytesOf]; omega, by simp [bytesOf, h]⟩
      | succ q =>
        simp at h
        obtain ⟨f, h1, h2, h3⟩ := firstB_at r (n - g.length) q f' h
        have e : bytesOf ((g :: r).take (q + 1)) = g.length + bytesOf (r.take q) := by rw [List.take_succ_cons, bytesOf_cons]
        refine ⟨f, by simpa using h1, by rw [e]; omega, ?_⟩
        rw [e, h3]
        congr 1
        omega

theorem firstB_len : ∀ (fs : List (List UInt8)) (n q : Nat), q < fs.length → bytesOf (fs.take q) < n → q < (firstB fs n).length
  | [], _, _, h, _ => by simp at h
  | g :: r, n, q, h, hn => by
    unfold firstB
    have h0 : n ≠ 0 := by omega
    rw [if_neg h0]
    cases q with
    | zero => simp
    | succ q =>
      have e : bytesOf ((g :: r).take (q + 1)) = g.length + bytesOf (r.take q) := by rw [List.take_succ_cons, bytesOf_cons]
      rw [e] at hn
      have := firstB_len r (n - g.length) q (by simpa using h) (by omega)
      simpa using this

end Go.Proofs.YthbdpfccfcceiaaGreatDoor

namespace Go.Proofs.YthbdpfccfcceiaaGreatDoor

def runY (y : YS) (rs : List Rc) : YS := rs.foldl didY y

theorem didY_hor (y : YS) (r : Rc) : (didY y r).hor = horR y.hor r := by
  unfold didY horR
  split <;> rfl

theorem didY_now (y : YS) (r : Rc) : (didY y r).now = nowR y.now r := by
  unfold didY nowR
  split <;> rfl

theorem rec_of_horizon (t : Nat) (ht : t < 4294967296) : RecIs (bodyH t) 72 t [] := by
  have h1 := RS.one_cons 72 (fourB t ++ [])
  have h2 := RS.four_app t ht []
  have e : bodyH t = 72 :: (fourB t ++ []) := by simp [bodyH]
  refine Or.inl ⟨rfl, ?_⟩
  unfold bodyS
  rw [e, h1]
  dsimp only
  rw [h2]
  exact ⟨rfl, rfl, rfl, rfl⟩

theorem cut_frame {b : List UInt8} {k t : Nat} {ws : List W3} (hb : b.length ≤ 400) (hr : RecIs b k t ws) (r : List UInt8) : CutIs (frameB b ++ r) k t ws r := by
  have hu := unseal_seal (u8 b.length :: u8 (b.length / 256) :: b) r
  rw [show (u8 b.length :: u8 (b.length / 256) :: b).length = 2 + b.length by simp; omega] at hu
  refine ⟨by rw [List.length_append, frameB_length]; omega, u8 b.length :: u8 (b.length / 256) :: b, ?_, hr⟩
  rw [lenB_frame _ hb]
  exact hu

theorem cut_rc {r : Rc} (h : RcOk r) (ht : r.t < 4294967296) (q : List UInt8) : CutIs (frameB (bodyRc r) ++ q) r.k r.t r.ws q := by
  obtain ⟨k, t, ws⟩ := r
  rcases h with ⟨h1, h2⟩ | ⟨h1, h2⟩
  · have h1 : k = 72 := h1
    have h2 : ws = [] := h2
    subst h1 h2
    exact cut_frame (b := bodyH t) (by rw [bodyH_length]; omega) (rec_of_horizon t ht) q
  · have h1 : k = 67 := h1
    subst h1
    exact cut_of_frame (t := t) (ws := ws) h2 ht q

theorem may_le {h n : Int} {r : Rc} (hm : mayR h n r) (hn : n ≤ 2000) : (r.t : Int) ≤ 2000 ∧ nowR n r ≤ 2000 := by
  unfold nowR
  rcases hm with ⟨h1, h2, h3⟩ | ⟨h1, h2, h3⟩
  · rw [if_pos h1]; omega
  · rw [if_neg h1]; omega

theorem part_frames : ∀ {L : List Rc} {h n h' n' : Int} {y : YS}, Chain L h n h' n' → y.hor = h → y.now = n → n ≤ 2000 → Part ((L.map bodyRc).flatMap frameB) y L [] (runY y L) ∧ (runY y L).hor = h' ∧ (runY y L).now = n' ∧ n' ≤ 2000
  | [], _, _, _, _, _, ⟨e1, e2⟩, h1, h2, h3 => by
    subst e1 e2
    exact ⟨⟨rfl, rfl⟩, h1, h2, h3⟩
  | r :: L, h, n, h', n', y, ⟨c1, c2, c3⟩, h1, h2, h3 => by
    obtain ⟨m1, m2⟩ := may_le c2 h3
    obtain ⟨a, b⟩ := part_frames (y := didY y r) c3 (by rw [didY_hor, h1]) (by rw [didY_now, h2]) m2
    refine ⟨⟨_, ?_, by rw [h1, h2]; exact c2, a⟩, b⟩
    rw [List.map_cons, List.flatMap_cons]
    exact cut_rc c1 (by omega) _

theorem Chain.split : ∀ {A B : List Rc} {h n h' n' : Int}, Chain (A ++ B) h n h' n' → ∃ h1 n1, Chain A h n h1 n1 ∧ Chain B h1 n1 h' n'
  | [], _, h, n, _, _, hc => ⟨h, n, ⟨rfl, rfl⟩, hc⟩
  | _ :: _, _, _, _, _, _, ⟨c1, c2, c3⟩ => by
    obtain ⟨h1, n1, a, b⟩ := c3.split
    exact ⟨h1, n1, ⟨c1, c2, a⟩, b⟩

theorem cut_open {i : Nat} (hi : i < 4294967296) (r : List UInt8) : cutO (openB i ++ r) = some i := by
  have hu := unseal_seal ([80, 76, 49] ++ fourB i) r
  rw [show (([80, 76, 49] : List UInt8) ++ fourB i).length = 7 from rfl] at hu
  unfold cutO
  rw [show openB i = sealB ([80, 76, 49] ++ fourB i) from rfl, hu]
  dsimp only
  rw [if_pos (by rfl)]
  congr 1
  exact le4_four i hi

theorem repl_file {L : List Rc} {h n h' n' : Int} {y : YS} {i : Nat} (hc : Chain L h n h' n') (h1 : y.hor = h) (h2 : y.now = n) (h3 : n ≤ 2000) (hL : L.length = 4) (hi : i < 4294967296) : ReplY (openB i ++ (L.map bodyRc).flatMap frameB) i y (runY y L) true := by
  refine Or.inr ⟨cut_open hi _, L, [], ?_, by omega, fun h => by omega, by simp [hL]⟩
  rw [List.drop_append_of_le_length (by rw [openB_length]; omega), List.drop_eq_nil_of_le (by rw [openB_length]; omega), List.nil_append]
  exact (part_frames hc h1 h2 h3).1

theorem runY_append (y : YS) (A B : List Rc) : runY y (A ++ B) = runY (runY y A) B := by simp [runY]

theorem rec_files {rs : List Rc} {h n : Int} (hc : Chain rs 0 0 h n) : ∀ q, 4 * q ≤ rs.length → q < 4294967296 → RecAllY ((List.range q).map (fileAt (rs.map bodyRc))) 0 newYS (runY newYS (rs.take (4 * q))) ∧ ∃ h1 n1, Chain (rs.drop (4 * q)) h1 n1 h n ∧ (runY newYS (rs.take (4 * q))).hor = h1 ∧ (runY newYS (rs.take (4 * q))).now = n1 ∧ n1 ≤ 2000
  | 0, _, _ => ⟨rfl, 0, 0, by simpa using hc, rfl, rfl, by omega⟩
  | q + 1, hq, hq2 => by
    obtain ⟨a, h1, n1, b, b1, b2, b3⟩ := rec_files hc q (by omega) (by omega)
    have e : rs.drop (4 * q) = (rs.drop (4 * q)).take 4 ++ rs.drop (4 * (q + 1)) := by
      rw [show 4 * (q + 1) = 4 * q + 4 by omega, ← List.drop_drop, List.take_append_drop]
    rw [e] at b
    obtain ⟨h2, n2, b4, b5⟩ := b.split
    have e2 : rs.take (4 * (q + 1)) = rs.take (4 * q) ++ (rs.drop (4 * q)).take 4 := by
      rw [show 4 * (q + 1) = 4 * q + 4 by omega, List.take_add]
    have hl : ((rs.drop (4 * q)).take 4).length = 4 := by rw [List.length_take, List.length_drop]; omega
    have hf := repl_file (i := q) b4 b1 b2 b3 hl (by omega)
    obtain ⟨_, c1, c2, c3⟩ := part_frames b4 b1 b2 b3
    rw [← runY_append, ← e2] at hf c1 c2
    refine ⟨?_, h2, n2, b5, c1, c2, c3⟩
    rw [List.range_succ, List.map_append]
    refine a.snoc ?_
    rw [List.length_map, List.length_range, Nat.zero_add]
    show ReplY (fileAt (rs.map bodyRc) q) q _ _ true
    unfold fileAt
    rw [← List.map_drop, ← List.map_take]
    exact hf

theorem crash_file {lg : List (List UInt8)} {m j : Nat} (hj : j + 1 < (firstB (filesB lg) m).length) : 4 * j + 4 < lg.length ∧ (firstB (filesB lg) m)[j]? = some (fileAt lg j) := by
  obtain ⟨f1, a1, a2, _⟩ := firstB_at _ _ _ _ (List.getElem?_eq_getElem hj)
  have q1 := (List.getElem?_eq_some_iff.1 a1).1
  rw [filesB_length] at q1
  have h0 := List.getElem?_eq_getElem (l := firstB (filesB lg) m) (i := j) (by omega)
  obtain ⟨f0, b1, b2, b3⟩ := firstB_at _ _ _ _ h0
  rw [filesB_at lg j (by omega)] at b1
  injection b1 with b1
  subst b1
  refine ⟨by omega, ?_⟩
  rw [h0, b3, List.take_of_length_le]
  have e : (filesB lg).take (j + 1) = (filesB lg).take j ++ [fileAt lg j] := take_at (filesB_at lg j (by omega))
  rw [e, bytesOf_append] at a2
  have : bytesOf [fileAt lg j] = (fileAt lg j).length := by simp [bytesOf]
  omega

theorem no_damage {lg : List (List UInt8)} {h n : Int} (hv : LgV lg h n) (hl : lg.length < 1000000) (m : Nat) : ¬ DamagedY (firstB (filesB lg) m) newYS := by
  rintro ⟨i, f, y1, y2, hi, hlt, hr, hf⟩
  obtain ⟨rs, rfl, hc⟩ := hv
  have hrl : rs.length < 1000000 := by simpa using hl
  obtain ⟨c1, c2⟩ := crash_file hlt
  rw [hi] at c2
  injection c2 with c2
  subst c2
  have c1' : 4 * i + 4 < rs.length := by simpa using c1
  have e : (firstB (filesB (rs.map bodyRc)) m).take i = (List.range i).map (fileAt (rs.map bodyRc)) := by
    apply List.ext_getElem?
    intro j
    rw [List.getElem?_take]
    by_cases hj : j < i
    · rw [if_pos hj, (crash_file (m := m) (lg := rs.map bodyRc) (j := j) (by omega)).2, List.getElem?_map, List.getElem?_range hj]
      rfl
    · rw [if_neg hj, List.getElem?_eq_none]
      simp; omega
  rw [e] at hr
  obtain ⟨a, h1, n1, b, b1, b2, b3⟩ := rec_files hc i (by omega) (by omega)
  have e1 := hr.uniq a
  subst e1
  have e3 : rs.drop (4 * i) = (rs.drop (4 * i)).take 4 ++ rs.drop (4 * (i + 1)) := by
    rw [show 4 * (i + 1) = 4 * i + 4 by omega, ← List.drop_drop, List.take_append_drop]
  rw [e3] at b
  obtain ⟨h2, n2, b4, b5⟩ := b.split
  have hl4 : ((rs.drop (4 * i)).take 4).length = 4 := by rw [List.length_take, List.length_drop]; omega
  have hf2 := repl_file (i := i) b4 b1 b2 b3 hl4 (by omega)
  unfold fileAt at hf
  rw [← List.map_drop, ← List.map_take] at hf
  have := (hf.uniq hf2).2
  cases this

end Go.Proofs.YthbdpfccfcceiaaGreatDoor

namespace Go.Proofs.YthbdpfccfcceiaaGreatDoor
open Go.RowKit

section
variable {own : Nat → Lab} {w : World} {p nt : Nat} {ds : List (Nat × Nat)} {vL vP vK : Value} {bk : BO}
variable {R : Ending → World → Prop}

set_option maxRecDepth 20000 in
set_option maxHeartbeats 2000000 in
theorem step_15 (h : Inv own w p ds vL vP vK bk nt) (h0 : 0 < ds.length) (hnt : nt < 1000000) (e a b : Int) (he : -9223372036854775808 ≤ e ∧ e ≤ 9223372036854775807) (st tt : ByteArray) (vl vm : Value)
    (hC : ∀ w2 (i : Nat) (hi : i < ds.length), Kp (fun _ => False) w w2 → Calls Tryz.prog 63 #[.pointer (some ⟨p, 0, none⟩), .agg #[.pointer (some ⟨(ds[i]).1, 0, none⟩), .pointer (some ⟨(ds[i]).2, 0, none⟩)], .agg #[.int .i64 15, .int .i64 e, .int .i64 a, .int .i64 b, .string st, .string tt, vl, vm]] w2 (fun r w' => r = .returned (.bool true) ∧ R (.returned (.bool true)) w')) :
    Calls Tryz.prog 31 #[.pointer (some ⟨p, 0, none⟩), .agg #[.int .i64 15, .int .i64 e, .int .i64 a, .int .i64 b, .string st, .string tt, vl, vm]] w R := by
  obtain ⟨g, cap, hvL, hcap, hgl, hcells⟩ := duos_row h.rowL h0
  have hk1 : Kp (fun _ => False) w (w.alloc (.cells #[.int .i64 15, .int .i64 e, .int .i64 a, .int .i64 b, .string st, .string tt, vl, vm] 71)) := Kp.alloc _ _ _
  have lp : p < w.heap.size := block_lt h.book.world
  have c0 : w.cell? ⟨p, 0, none⟩ = some vL := cell_of h.book.world 0
  rw [hvL] at c0
  have d0 := (hk1.cell (a := ⟨p, 0, none⟩) lp (fun h => h)).trans c0
  have hil := pickN_lt e ds.length h0
  have e0 := (hk1.cell (a := ⟨g, pickN e ds.length * 2, none⟩) hgl (fun h => h)).trans (hcells _ hil).1
  have e1 := (hk1.cell (a := ⟨g, pickN e ds.length * 2 + 1, none⟩) hgl (fun h => h)).trans (hcells _ hil).2
  have z1 : (w.alloc (.cells #[.int .i64 15, .int .i64 e, .int .i64 a, .int .i64 b, .string st, .string tt, vl, vm] 71)).cell? ⟨w.heap.size, 1, none⟩ = some (.int .i64 e) := cell_of (heap_alloc_new w _) 1
  have hil' : (pickN e ds.length : Int) < ds.length := by omega
  have ng1 : g ≠ w.heap.size + 1 := by omega
  have np1 : p ≠ w.heap.size + 1 := by omega
  have hn1 := h.nds
  have hdl : (ds.length : Int) < 1000000 := by omega
  have HCALL := hid_of (fun w2 (k : Kp (fun _ => False) w w2) => hC w2 _ hil k)
  have HE := hid_of he
  have H0 := hid_of h0
  have HLT : Hid (ds.length < 1000000000) := by show _ < _; omega
  generalize hds : ds[pickN e ds.length] = d at *
  clear hds hil
  generalize hpi : pickN e ds.length = i at *
  clear h hC hcells hvL hk1 he hnt hn1 h0 c0 lp hgl
  go_enter Tryz.func31, Tryz.ntmps31
  go_wp2
  go_region_held3 (fun w' => w'.cell? ⟨p, 0, none⟩ = some (.slice (some ⟨g, 0, none⟩) ds.length cap) ∧ w'.cell? ⟨w.heap.size, 1, none⟩ = some (.int .i64 e) ∧ w'.cell? ⟨g, i * 2, none⟩ = some (.pointer (some ⟨d.1, 0, none⟩)) ∧ w'.cell? ⟨g, i * 2 + 1, none⟩ = some (.pointer (some ⟨d.2, 0, none⟩))) (go_keep) ((go_at_call 60; refine pick_any e ds.length _ HE.out H0.out HLT.out ?_; rw [hpi]))
  all_goals
    go_wp2_with (first
      | (go_at_call 63; refine (HCALL.out _ ?_).mono ?_; (exact ((Kp.alloc _ _ _).trans (Kp.alloc (fun _ => False) _ _) (fun _ _ h => h)).trans (Kp.drew (fun _ => False) _) (fun _ _ h => h)); rintro r w'' ⟨rfl, hr⟩)
      | fail)
    exact hr

set_option maxRecDepth 20000 in
set_option maxHeartbeats 2000000 in
theorem step_16 (h : Inv own w p ds vL vP vK bk nt) (h0 : 0 < ds.length) (hnt : nt < 1000000) (e a b : Int) (he : -9223372036854775808 ≤ e ∧ e ≤ 9223372036854775807) (st tt : ByteArray) (vl vm : Value)
    (hC : ∀ w2 (i : Nat) (hi : i < ds.length), Kp (fun _ => False) w w2 → Calls Tryz.prog 63 #[.pointer (some ⟨p, 0, none⟩), .agg #[.pointer (some ⟨(ds[i]).1, 0, none⟩), .pointer (some ⟨(ds[i]).2, 0, none⟩)], .agg #[.int .i64 16, .int .i64 e, .int .i64 a, .int .i64 b, .string st, .string tt, vl, vm]] w2 (fun r w' => r = .returned (.bool true) ∧ R (.returned (.bool true)) w')) :
    Calls Tryz.prog 31 #[.pointer (some ⟨p, 0, none⟩), .agg #[.int .i64 16, .int .i64 e, .int .i64 a, .int .i64 b, .string st, .string tt, vl, vm]] w R := by
  obtain ⟨g, cap, hvL, hcap, hgl, hcells⟩ := duos_row h.rowL h0
  have hk1 : Kp (fun _ => False) w (w.alloc (.cells #[.int .i64 16, .int .i64 e, .int .i64 a, .int .i64 b, .string st, .string tt, vl, vm] 71)) := Kp.alloc _ _ _
  have lp : p < w.heap.size := block_lt h.book.world
  have c0 : w.cell? ⟨p, 0, none⟩ = some vL := cell_of h.book.world 0
  rw [hvL] at c0
  have d0 := (hk1.cell (a := ⟨p, 0, none⟩) lp (fun h => h)).trans c0
  have hil := pickN_lt e ds.length h0
  have e0 := (hk1.cell (a := ⟨g, pickN e ds.length * 2, none⟩) hgl (fun h => h)).trans (hcells _ hil).1
  have e1 := (hk1.cell (a := ⟨g, pickN e ds.length * 2 + 1, none⟩) hgl (fun h => h)).trans (hcells _ hil).2
  have z1 : (w.alloc (.cells #[.int .i64 16, .int .i64 e, .int .i64 a, .int .i64 b, .string st, .string tt, vl, vm] 71)).cell? ⟨w.heap.size, 1, none⟩ = some (.int .i64 e) := cell_of (heap_alloc_new w _) 1
  have hil' : (pickN e ds.length : Int) < ds.length := by omega
  have ng1 : g ≠ w.heap.size + 1 := by omega
  have np1 : p ≠ w.heap.size + 1 := by omega
  have hn1 := h.nds
  have hdl : (ds.length : Int) < 1000000 := by omega
  have HCALL := hid_of (fun w2 (k : Kp (fun _ => False) w w2) => hC w2 _ hil k)
  have HE := hid_of he
  have H0 := hid_of h0
  have HLT : Hid (ds.length < 1000000000) := by show _ < _; omega
  generalize hds : ds[pickN e ds.length] = d at *
  clear hds hil
  generalize hpi : pickN e ds.length = i at *
  clear h hC hcells hvL hk1 he hnt hn1 h0 c0 lp hgl
  go_enter Tryz.func31, Tryz.ntmps31
  go_wp2
  go_region_held3 (fun w' => w'.cell? ⟨p, 0, none⟩ = some (.slice (some ⟨g, 0, none⟩) ds.length cap) ∧ w'.cell? ⟨w.heap.size, 1, none⟩ = some (.int .i64 e) ∧ w'.cell? ⟨g, i * 2, none⟩ = some (.pointer (some ⟨d.1, 0, none⟩)) ∧ w'.cell? ⟨g, i * 2 + 1, none⟩ = some (.pointer (some ⟨d.2, 0, none⟩))) (go_keep) ((go_at_call 60; refine pick_any e ds.length _ HE.out H0.out HLT.out ?_; rw [hpi]))
  all_goals
    go_wp2_with (first
      | (go_at_call 63; refine (HCALL.out _ ?_).mono ?_; (exact ((Kp.alloc _ _ _).trans (Kp.alloc (fun _ => False) _ _) (fun _ _ h => h)).trans (Kp.drew (fun _ => False) _) (fun _ _ h => h)); rintro r w'' ⟨rfl, hr⟩)
      | fail)
    exact hr

set_option maxRecDepth 20000 in
set_option maxHeartbeats 2000000 in
theorem step_17 (h : Inv own w p ds vL vP vK bk nt) (h0 : 0 < ds.length) (hnt : nt < 1000000) (e a b : Int) (he : -9223372036854775808 ≤ e ∧ e ≤ 9223372036854775807) (st tt : ByteArray) (vl vm : Value)
    (hC : ∀ w2 (i : Nat) (hi : i < ds.length), Kp (fun _ => False) w w2 → Calls Tryz.prog 63 #[.pointer (some ⟨p, 0, none⟩), .agg #[.pointer (some ⟨(ds[i]).1, 0, none⟩), .pointer (some ⟨(ds[i]).2, 0, none⟩)], .agg #[.int .i64 17, .int .i64 e, .int .i64 a, .int .i64 b, .string st, .string tt, vl, vm]] w2 (fun r w' => r = .returned (.bool true) ∧ R (.returned (.bool true)) w')) :
    Calls Tryz.prog 31 #[.pointer (some ⟨p, 0, none⟩), .agg #[.int .i64 17, .int .i64 e, .int .i64 a, .int .i64 b, .string st, .string tt, vl, vm]] w R := by
  obtain ⟨g, cap, hvL, hcap, hgl, hcells⟩ := duos_row h.rowL h0
  have hk1 : Kp (fun _ => False) w (w.alloc (.cells #[.int .i64 17, .int .i64 e, .int .i64 a, .int .i64 b, .string st, .string tt, vl, vm] 71)) := Kp.alloc _ _ _
  have lp : p < w.heap.size := block_lt h.book.world
  have c0 : w.cell? ⟨p, 0, none⟩ = some vL := cell_of h.book.world 0
  rw [hvL] at c0
  have d0 := (hk1.cell (a := ⟨p, 0, none⟩) lp (fun h => h)).trans c0
  have hil := pickN_lt e ds.length h0
  have e0 := (hk1.cell (a := ⟨g, pickN e ds.length * 2, none⟩) hgl (fun h => h)).trans (hcells _ hil).1
  have e1 := (hk1.cell (a := ⟨g, pickN e ds.length * 2 + 1, none⟩) hgl (fun h => h)).trans (hcells _ hil).2
  have z1 : (w.alloc (.cells #[.int .i64 17, .int .i64 e, .int .i64 a, .int .i64 b, .string st, .string tt, vl, vm] 71)).cell? ⟨w.heap.size, 1, none⟩ = some (.int .i64 e) := cell_of (heap_alloc_new w _) 1
  have hil' : (pickN e ds.length : Int) < ds.length := by omega
  have ng1 : g ≠ w.heap.size + 1 := by omega
  have np1 : p ≠ w.heap.size + 1 := by omega
  have hn1 := h.nds
  have hdl : (ds.length : Int) < 1000000 := by omega
  have HCALL := hid_of (fun w2 (k : Kp (fun _ => False) w w2) => hC w2 _ hil k)
  have HE := hid_of he
  have H0 := hid_of h0
  have HLT : Hid (ds.length < 1000000000) := by show _ < _; omega
  generalize hds : ds[pickN e ds.length] = d at *
  clear hds hil
  generalize hpi : pickN e ds.length = i at *
  clear h hC hcells hvL hk1 he hnt hn1 h0 c0 lp hgl
  go_enter Tryz.func31, Tryz.ntmps31
  go_wp2
  go_region_held3 (fun w' => w'.cell? ⟨p, 0, none⟩ = some (.slice (some ⟨g, 0, none⟩) ds.length cap) ∧ w'.cell? ⟨w.heap.size, 1, none⟩ = some (.int .i64 e) ∧ w'.cell? ⟨g, i * 2, none⟩ = some (.pointer (some ⟨d.1, 0, none⟩)) ∧ w'.cell? ⟨g, i * 2 + 1, none⟩ = some (.pointer (some ⟨d.2, 0, none⟩))) (go_keep) ((go_at_call 60; refine pick_any e ds.length _ HE.out H0.out HLT.out ?_; rw [hpi]))
  all_goals
    go_wp2_with (first
      | (go_at_call 63; refine (HCALL.out _ ?_).mono ?_; (exact ((Kp.alloc _ _ _).trans (Kp.alloc (fun _ => False) _ _) (fun _ _ h => h)).trans (Kp.drew (fun _ => False) _) (fun _ _ h => h)); rintro r w'' ⟨rfl, hr⟩)
      | fail)
    exact hr

set_option maxRecDepth 20000 in
set_option maxHeartbeats 2000000 in
theorem step_19 (h : Inv own w p ds vL vP vK bk nt) (h0 : 0 < ds.length) (hnt : nt < 1000000) (e a b : Int) (he : -9223372036854775808 ≤ e ∧ e ≤ 9223372036854775807) (st tt : ByteArray) (vl vm : Value)
    (hC : ∀ w2 (i : Nat) (hi : i < ds.length), Kp (fun _ => False) w w2 → Calls Tryz.prog 63 #[.pointer (some ⟨p, 0, none⟩), .agg #[.pointer (some ⟨(ds[i]).1, 0, none⟩), .pointer (some ⟨(ds[i]).2, 0, none⟩)], .agg #[.int .i64 19, .int .i64 e, .int .i64 a, .int .i64 b, .string st, .string tt, vl, vm]] w2 (fun r w' => r = .returned (.bool true) ∧ R (.returned (.bool true)) w')) :
    Calls Tryz.prog 31 #[.pointer (some ⟨p, 0, none⟩), .agg #[.int .i64 19, .int .i64 e, .int .i64 a, .int .i64 b, .string st, .string tt, vl, vm]] w R := by
  obtain ⟨g, cap, hvL, hcap, hgl, hcells⟩ := duos_row h.rowL h0
  have hk1 : Kp (fun _ => False) w (w.alloc (.cells #[.int .i64 19, .int .i64 e, .int .i64 a, .int .i64 b, .string st, .string tt, vl, vm] 71)) := Kp.alloc _ _ _
  have lp : p < w.heap.size := block_lt h.book.world
  have c0 : w.cell? ⟨p, 0, none⟩ = some vL := cell_of h.book.world 0
  rw [hvL] at c0
  have d0 := (hk1.cell (a := ⟨p, 0, none⟩) lp (fun h => h)).trans c0
  have hil := pickN_lt e ds.length h0
  have e0 := (hk1.cell (a := ⟨g, pickN e ds.length * 2, none⟩) hgl (fun h => h)).trans (hcells _ hil).1
  have e1 := (hk1.cell (a := ⟨g, pickN e ds.length * 2 + 1, none⟩) hgl (fun h => h)).trans (hcells _ hil).2
  have z1 : (w.alloc (.cells #[.int .i64 19, .int .i64 e, .int .i64 a, .int .i64 b, .string st, .string tt, vl, vm] 71)).cell? ⟨w.heap.size, 1, none⟩ = some (.int .i64 e) := cell_of (heap_alloc_new w _) 1
  have hil' : (pickN e ds.length : Int) < ds.length := by omega
  have ng1 : g ≠ w.heap.size + 1 := by omega
  have np1 : p ≠ w.heap.size + 1 := by omega
  have hn1 := h.nds
  have hdl : (ds.length : Int) < 1000000 := by omega
  have HCALL := hid_of (fun w2 (k : Kp (fun _ => False) w w2) => hC w2 _ hil k)
  have HE := hid_of he
  have H0 := hid_of h0
  have HLT : Hid (ds.length < 1000000000) := by show _ < _; omega
  generalize hds : ds[pickN e ds.length] = d at *
  clear hds hil
  generalize hpi : pickN e ds.length = i at *
  clear h hC hcells hvL hk1 he hnt hn1 h0 c0 lp hgl
  go_enter Tryz.func31, Tryz.ntmps31
  go_wp2
  go_region_held3 (fun w' => w'.cell? ⟨p, 0, none⟩ = some (.slice (some ⟨g, 0, none⟩) ds.length cap) ∧ w'.cell? ⟨w.heap.size, 1, none⟩ = some (.int .i64 e) ∧ w'.cell? ⟨g, i * 2, none⟩ = some (.pointer (some ⟨d.1, 0, none⟩)) ∧ w'.cell? ⟨g, i * 2 + 1, none⟩ = some (.pointer (some ⟨d.2, 0, none⟩))) (go_keep) ((go_at_call 60; refine pick_any e ds.length _ HE.out H0.out HLT.out ?_; rw [hpi]))
  all_goals
    go_wp2_with (first
      | (go_at_call 63; refine (HCALL.out _ ?_).mono ?_; (exact ((Kp.alloc _ _ _).trans (Kp.alloc (fun _ => False) _ _) (fun _ _ h => h)).trans (Kp.drew (fun _ => False) _) (fun _ _ h => h)); rintro r w'' ⟨rfl, hr⟩)
      | fail)
    exact hr

set_option maxRecDepth 20000 in
set_option maxHeartbeats 2000000 in
theorem step_18 (w : World) (p : Nat) (e a b : Int) (st tt : ByteArray) (vl vm : Value)
    (hC : ∀ w2, Kp (fun _ => False) w w2 → Calls Tryz.prog 57 #[.pointer (some ⟨p, 0, none⟩), vl] w2 (fun r w' => r = .returned (.bool true) ∧ R (.returned (.bool true)) w')) :
    Calls Tryz.prog 31 #[.pointer (some ⟨p, 0, none⟩), .agg #[.int .i64 18, .int .i64 e, .int .i64 a, .int .i64 b, .string st, .string tt, vl, vm]] w R := by
  have HC := hid_of hC
  clear hC
  go_enter Tryz.func31, Tryz.ntmps31
  go_wp2_with (first
    | (go_at_call 57; refine (HC.out _ (Kp.alloc _ _ _)).mono ?_; rintro r w'' ⟨rfl, hr⟩)
    | fail)
  exact hr

end

end Go.Proofs.YthbdpfccfcceiaaGreatDoor

namespace Go.Proofs.YthbdpfccfcceiaaGreatDoor
open Go.RowKit Go.Maps Go.Lib

theorem file_le {lg : List (List UInt8)} (h : ∀ b ∈ lg, b.length ≤ 400) (i : Nat) : (fileAt lg i).length ≤ 1635 := by
  unfold fileAt
  rw [List.length_append, openB_length]
  have key : ∀ l : List (List UInt8), (∀ b ∈ l, b.length ≤ 400) → (l.flatMap frameB).length ≤ l.length * 406 := by
    intro l
    induction l with
    | nil => intro _; simp
    | cons b r ih =>
      intro h
      have h1 := ih (fun x hx => h x (by simp [hx]))
      have h2 := h b (by simp)
      have h3 := frameB_length b
      simp only [List.flatMap_cons, List.length_append, List.length_cons]
      omega
  have h1 := key ((lg.drop (4 * i)).take 4) (fun b hb => h b (List.mem_of_mem_drop (List.mem_of_mem_take hb)))
  have h2 : ((lg.drop (4 * i)).take 4).length ≤ 4 := List.length_take_le _ _
  omega

theorem first_le {lg : List (List UInt8)} (h : ∀ b ∈ lg, b.length ≤ 400) {n : Nat} {f : List UInt8} (hf : f ∈ firstB (filesB lg) n) : f.length ≤ 1635 := by
  obtain ⟨q, hq⟩ := List.getElem?_of_mem hf
  obtain ⟨f0, h1, _, rfl⟩ := firstB_at _ _ _ _ hq
  have hl := (List.getElem?_eq_some_iff.1 h1).1
  rw [filesB_length] at hl
  rw [filesB_at lg q (by omega)] at h1
  injection h1 with h1
  subst h1
  have := file_le h q
  rw [List.length_take]
  omega

theorem first_ne : ∀ {fs : List (List UInt8)} {n : Nat}, (∀ f ∈ fs, f ≠ []) → ∀ f ∈ firstB fs n, f ≠ []
  | [], _, _, f, hf => by simp [firstB] at hf
  | g :: r, n, h, f, hf => by
    unfold firstB at hf
    split at hf
    · cases hf
    · rcases List.mem_cons.1 hf with rfl | hf
      · have := h g (by simp)
        cases g with
        | nil => exact absurd rfl this
        | cons x z =>
          cases n with
          | zero => omega
          | succ m => simp
      · exact first_ne (fun x hx => h x (List.mem_cons_of_mem _ hx)) f hf

theorem first_bytes : ∀ (fs : List (List UInt8)) (n : Nat), bytesOf (firstB fs n) ≤ bytesOf fs
  | [], _ => by simp [firstB]
  | g :: r, n => by
    unfold firstB
    split
    · simp [bytesOf]
    · rw [bytesOf_cons, bytesOf_cons, List.length_take]
      have := first_bytes r (n - g.length)
      omega

theorem files_ne (lg : List (List UInt8)) : ∀ f ∈ filesB lg, f ≠ [] := fun f hf e => by
  obtain ⟨q, hq⟩ := List.getElem?_of_mem hf
  have hl := (List.getElem?_eq_some_iff.1 hq).1
  rw [filesB_length] at hl
  rw [filesB_at lg q (by omega)] at hq
  injection hq with hq
  have h1 : (fileAt lg q).length = 0 := by rw [hq, e]; rfl
  unfold fileAt at h1
  rw [List.length_append, openB_length] at h1
  omega

theorem OutR.fin {base : Nat} {w : World} {v : Value} {fs : List (List UInt8)} {lv : List Value} (h : OutR base w v fs lv) (hl : fs.length ≤ 1100000) (hs : ∀ f ∈ fs, f.length ≤ 1100000) : FIn w v fs (fun b => b < w.heap.size) := by
  obtain ⟨a, cap, e⟩ := ownsRow_slice h.row
  refine ⟨a, cap, e, hl, fun hne => ?_⟩
  obtain ⟨g, cap2, cur, e2, hg, _⟩ := ownsRow_some h.row (List.length_pos_iff.2 hne)
  have hlt := block_lt hg
  rw [e] at e2
  injection e2 with e2 _ _
  subst e2
  refine ⟨g, 0, rfl, hlt, hlt, fun i f hf => ?_⟩
  have hi : i < lv.length := by rw [h.len]; exact (List.getElem?_eq_some_iff.1 hf).1
  have hu := List.getElem?_eq_getElem hi
  obtain ⟨g1, hr, _, hg1, _, b, n, c, e3⟩ := h.at_ i _ f hu hf
  have hc := World.ownsRow.cells h.row (g := g) (by rw [e]; rfl) i _ hu
  rw [addr_add] at hc
  rw [e3] at hc hr
  exact ⟨b, n, c, g1, hc, hr, hg1, hs f (List.mem_of_getElem? hf)⟩

/-- What a step adds to the pairs. -/
def StepD (kind b : Int) (ds ds' : List (Nat × Nat)) : Prop :=
  (kind = 1 → ds'.length = ds.length + 1) ∧ (kind = 19 → pickN b 4 ≠ 0 → ds'.length = ds.length + 1) ∧ (kind ≠ 1 → kind ≠ 18 → kind ≠ 19 → ds'.length = ds.length) ∧ ds.length ≤ ds'.length

section
variable {own : Nat → Lab} {i : Nat} {w : World} {p nt : Nat} {ds : List (Nat × Nat)} {vL vP vK : Value} {bk : BO}
variable {R : Ending → World → Prop}

theorem i_lsync (h : Inv own w p ds vL vP vK bk nt) (hi : i < ds.length) (e a b : Int) (st tt : ByteArray) (vl vm : Value)
    (hK : ∀ w' own', Kp (fun b => own b ≠ lab9) w w' → (∀ b, b < w.heap.size → own' b = own b) → Inv own' w' p ds vL vP vK bk (nt + 1) → R (.returned (.bool true)) w') :
    Calls Tryz.prog 63 #[.pointer (some ⟨p, 0, none⟩), pairV (ds[i]).1 (ds[i]).2, stepV 16 e a b st tt vl vm] w R :=
  d_sync (h.duos i hi) e a b st tt vl vm (fun w3 own3 k a d => hK w3 own3 (k.mono (fun _ _ e => cap_not9 e)) a (h.touch hi k a d))

theorem i_lfall (h : Inv own w p ds vL vP vK bk nt) (hi : i < ds.length) (hnt : nt < 1000000) (e a b : Int) (ha : -9223372036854775808 ≤ a ∧ a ≤ 9223372036854775807) (hb : -9223372036854775808 ≤ b ∧ b ≤ 9223372036854775807) (st tt : ByteArray) (vl vm : Value)
    (hK : ∀ w' own' ds' vL', Kp (fun b => own b ≠ lab9) w w' → (∀ b, b < w.heap.size → own' b = own b) → ((ds' = ds ∧ pickN b 4 = 0) ∨ ∃ q, ds' = ds ++ [q]) → Inv own' w' p ds' vL' vP vK bk (nt + 1) → R (.returned (.bool true)) w') :
    Calls Tryz.prog 63 #[.pointer (some ⟨p, 0, none⟩), pairV (ds[i]).1 (ds[i]).2, stepV 19 e a b st tt vl vm] w R := by
  obtain ⟨s, y, hx, hy, ht, hI, hn⟩ := h.duos i hi
  refine logs_fall w p _ _ e a b hb st tt vl vm ?_
  have hw := boxW_kp w (ds[i]).1 (ds[i]).2 19 e a b st tt vl vm
  generalize boxW w (ds[i]).1 (ds[i]).2 19 e a b st tt vl vm = w1 at hw ⊢
  obtain ⟨vL', vT, vG, sv, lg, Y, hl, hg⟩ := hy.box hw
  obtain ⟨f1, f2, f3⟩ := files_small (ht.small hI) ht.lgok
  have hsy : s.log.sy ≤ bytesOf (filesB y.lg) := by rw [ht.lg]; exact ht.sy
  refine dcrash _ _ _ vG y.lg s.log.sy a w1 Y.store rfl (by rw [← ht.syn]; rfl) (hg.lgIn Y.rowG) (ht.small hI) ht.lgok hsy ha (fun v' lv' w2 hf' k2 => ⟨v', rfl, kpF k2, ?_⟩)
  have k02 := hw.trans k2 (fun _ _ h => h)
  have hfl := firstB_length_le (filesB y.lg) (leftN s.log.sy (bytesOf (filesB y.lg)) a)
  have hfb := first_bytes (filesB y.lg) (leftN s.log.sy (bytesOf (filesB y.lg)) a)
  have hsm : ∀ f ∈ firstB (filesB y.lg) (leftN s.log.sy (bytesOf (filesB y.lg)) a), f.length ≤ 1100000 := fun f hf => by
    have := first_le (fun b hb => (ht.lgok b hb).2) hf
    omega
  have hne : ∀ f ∈ firstB (filesB y.lg) (leftN s.log.sy (bytesOf (filesB y.lg)) a), f ≠ [] := first_ne (files_ne _)
  have hnd := no_damage hI.lgv (by have := ht.small hI; omega) (leftN s.log.sy (bytesOf (filesB y.lg)) a)
  generalize firstB (filesB y.lg) (leftN s.log.sy (bytesOf (filesB y.lg)) a) = fs at hf' hfl hfb hsm hne hnd
  have h0 : 0 < w2.heap.size := Nat.lt_of_lt_of_le (Nat.lt_of_le_of_lt (Nat.zero_le _) (block_lt h.book.world)) k02.size
  have hfin := hf'.fin (by omega) hsm
  have I2 := h.same k02 (fun _ _ => rfl)
  have fin : ∀ w3, Kp (fun _ => False) w2 w3 → ∀ w' own' ds' vL', Kp (fun b => own b ≠ lab9) w3 w' → (∀ b, b < w3.heap.size → own' b = own b) → ((ds' = ds ∧ pickN b 4 = 0) ∨ ∃ q, ds' = ds ++ [q]) → Inv own' w' p ds' vL' vP vK bk (nt + 1) → R (.returned (.bool true)) w' := fun w3 k3 w' own' ds' vL' k' a' hd I => by
    have k03 := k02.trans k3 (fun _ _ h => h)
    exact hK w' own' ds' vL' ((kpF k03).trans k' (fun _ _ h => h)) (fun b hb => a' b (Nat.lt_of_lt_of_le hb k03.size)) hd I
  refine ⟨i_recovers I2 hnt v' fs hfin (fun w' own' ds' vL' k' a' hd I => ⟨rfl, fin w2 (Kp.refl _ _) w' own' ds' vL' k' a' (Or.inr ?_) I⟩), fun x q hx => changed_any v' fs hfin hne (by omega) h0 x hx (fun w3 v3 fs3 hfin3 k3 => ⟨v3, rfl, ?_⟩)⟩
  · exact hd.elim (fun e => absurd e.2 hnd) id
  · exact i_recovers (I2.same k3 (fun _ _ => rfl)) hnt v3 fs3 hfin3 (fun w' own' ds' vL' k' a' hd I => ⟨rfl, fin w3 k3 w' own' ds' vL' k' a' (hd.imp (fun e => ⟨e.1, q⟩) id) I⟩)

theorem step_logs (h : Inv own w p ds vL vP vK bk nt) (h0 : 0 < ds.length) (hnt : nt < 1000000) (kind e a b : Int) (hk : 15 ≤ kind ∧ kind ≤ 19 ∧ kind ≠ 18) (he : -9223372036854775808 ≤ e ∧ e ≤ 9223372036854775807) (ha : -9223372036854775808 ≤ a ∧ a ≤ 9223372036854775807) (hb : -9223372036854775808 ≤ b ∧ b ≤ 9223372036854775807) (st tt : ByteArray) (vl vm : Value)
    (hK : ∀ w' own' ds' vL' bk', Kp (fun b => own b ≠ lab9) w w' → (∀ b, b < w.heap.size → own' b = own b) → StepD kind b ds ds' → (kind ≠ 19 → ds' = ds ∧ vL' = vL) → Inv own' w' p ds' vL' vP vK bk' (nt + 1) → R (.returned (.bool true)) w') :
    Calls Tryz.prog 31 #[.pointer (some ⟨p, 0, none⟩), .agg #[.int .i64 kind, .int .i64 e, .int .i64 a, .int .i64 b, .string st, .string tt, vl, vm]] w R := by
  have K : ∀ w2, Kp (fun _ => False) w w2 → ∀ w' own' ds' vL' bk', Kp (fun b => own b ≠ lab9) w2 w' → (∀ b, b < w2.heap.size → own' b = own b) → StepD kind b ds ds' → (kind ≠ 19 → ds' = ds ∧ vL' = vL) → Inv own' w' p ds' vL' vP vK bk' (nt + 1) → R (.returned (.bool true)) w' := fun w2 k w' own' ds' vL' bk' k' a' hd hs I =>
    hK w' own' ds' vL' bk' ((kpF k).trans k' (fun _ _ h => h)) (fun b hb => a' b (Nat.lt_of_lt_of_le hb k.size)) hd hs I
  have same : kind ≠ 19 → StepD kind b ds ds := fun h => ⟨fun h => by omega, fun h2 => absurd h2 h, fun _ _ _ => rfl, Nat.le_refl _⟩
  rcases (by omega : kind = 15 ∨ kind = 16 ∨ kind = 17 ∨ kind = 19) with rfl | rfl | rfl | rfl
  · exact step_15 h h0 hnt e a b he st tt vl vm (fun w2 i hi k => i_lfiles (h.same k (fun _ _ => rfl)) hi hnt e a b st tt vl vm (fun w' own' bk' k' a' I => ⟨rfl, K w2 k w' own' ds vL bk' k' a' (same (by omega)) (fun _ => ⟨rfl, rfl⟩) I⟩))
  · exact step_16 h h0 hnt e a b he st tt vl vm (fun w2 i hi k => i_lsync (h.same k (fun _ _ => rfl)) hi e a b st tt vl vm (fun w' own' k' a' I => ⟨rfl, K w2 k w' own' ds vL bk k' a' (same (by omega)) (fun _ => ⟨rfl, rfl⟩) I⟩))
  · exact step_17 h h0 hnt e a b he st tt vl vm (fun w2 i hi k => i_lcrash (h.same k (fun _ _ => rfl)) hi hnt e a b ha st tt vl vm (fun w' own' bk' k' a' I => ⟨rfl, K w2 k w' own' ds vL bk' k' a' (same (by omega)) (fun _ => ⟨rfl, rfl⟩) I⟩))
  · exact step_19 h h0 hnt e a b he st tt vl vm (fun w2 i hi k => i_lfall (h.same k (fun _ _ => rfl)) hi hnt e a b ha hb st tt vl vm (fun w' own' ds' vL' k' a' hd I => ⟨rfl, K w2 k w' own' ds' vL' bk k' a' ⟨fun h => by omega, fun _ hp => by
      rcases hd with ⟨_, h1⟩ | ⟨q, rfl⟩
      · exact absurd h1 hp
      · simp, fun _ _ h => absurd rfl h, by
      rcases hd with ⟨rfl, _⟩ | ⟨q, rfl⟩
      · exact Nat.le_refl _
      · simp⟩ (fun h => absurd rfl h) I⟩))

theorem step_recover (h : Inv own w p ds vL vP vK bk nt) (hnt : nt < 1000000) (e a b : Int) (st tt : ByteArray) (vl vm : Value) (fs : List (List UInt8)) (hv : FIn w vl fs (fun b => b < w.heap.size))
    (hK : ∀ w' own' ds' vL', Kp (fun b => own b ≠ lab9) w w' → (∀ b, b < w.heap.size → own' b = own b) → StepD 18 b ds ds' → Inv own' w' p ds' vL' vP vK bk (nt + 1) → R (.returned (.bool true)) w') :
    Calls Tryz.prog 31 #[.pointer (some ⟨p, 0, none⟩), .agg #[.int .i64 18, .int .i64 e, .int .i64 a, .int .i64 b, .string st, .string tt, vl, vm]] w R := by
  refine step_18 w p e a b st tt vl vm (fun w2 k => i_recovers (h.same k (fun _ _ => rfl)) hnt vl fs ((hv.kp k (fun _ _ e => e)).imp (fun b e => Nat.lt_of_lt_of_le e k.size)) (fun w' own' ds' vL' k' a' hd I => ⟨rfl, ?_⟩))
  refine hK w' own' ds' vL' ((kpF k).trans k' (fun _ _ h => h)) (fun b hb => a' b (Nat.lt_of_lt_of_le hb k.size)) ⟨fun h => by omega, fun h => by omega, fun _ h => absurd rfl h, ?_⟩ I
  rcases hd with ⟨rfl, _⟩ | ⟨q, rfl⟩
  · exact Nat.le_refl _
  · simp

end

end Go.Proofs.YthbdpfccfcceiaaGreatDoor
