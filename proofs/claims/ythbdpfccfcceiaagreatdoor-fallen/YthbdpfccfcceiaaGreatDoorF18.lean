/-
  A file, read: its number, its records up to the first that is not right: journal.Read.
-/
import Derived.Test.YthbdpfccfcceiaaGreatDoorF17
namespace Go.Proofs.YthbdpfccfcceiaaGreatDoor
open Go.RowKit Go.Maps Go.Lib

theorem infoRec : (Tryz.prog.info? 110).map (fun i => (i.zero, i.size, i.bytes)) = some (some (.agg #[.int .u8 0, .int .i64 0, .slice none 0 0]), 3, 40) := by kernel_rfl

/-- A record that was read: kind, moment, writes; and where its writes lie. -/
structure RecV where
  k : Nat
  t : Nat
  ws : List W3
  u : Value

def RecV.cells (r : RecV) : List Value := [.int .u8 r.k, .int .i64 r.t, r.u]

/-- Bytes begin with these records, one behind the other; this stands behind them. -/
def ReadsAs : List UInt8 → List RecV → List UInt8 → Prop
  | bs, [], rest => bs = rest
  | bs, r :: rs, rest => ∃ m, CutIs bs r.k r.t r.ws m ∧ ReadsAs m rs rest

theorem ReadsAs.snoc {r : RecV} {m' : List UInt8} : ∀ {rs : List RecV} {bs m : List UInt8}, ReadsAs bs rs m → CutIs m r.k r.t r.ws m' → ReadsAs bs (rs ++ [r]) m'
  | [], bs, m, h, hc => by
    have h : bs = m := h
    subst h
    exact ⟨m', hc, rfl⟩
  | a :: rs, bs, m, ⟨q, h1, h2⟩, hc => ⟨q, h1, ReadsAs.snoc h2 hc⟩

theorem unseal_length {bs c r : List UInt8} {n : Nat} (h : unsealB bs n = some (c, r)) : r.length + n + 4 = bs.length ∧ c = bs.take n ∧ r = bs.drop (n + 4) := by
  unfold unsealB at h
  split at h
  · cases h
  · rename_i hq
    injection h with h
    injection h with h1 h2
    refine ⟨?_, h1.symm, h2.symm⟩
    rw [← h2, List.length_drop]
    omega

theorem CutIs.len {bs r : List UInt8} {k t : Nat} {ws : List W3} (h : CutIs bs k t ws r) : r.length < bs.length := by
  obtain ⟨_, c, h1, _⟩ := h
  have := (unseal_length h1).1
  omega

structure RecsR (base : Nat) (w : World) (v : Value) (l : List RecV) : Prop where
  row : w.ownsRow base 110 3 v l.length (l.flatMap RecV.cells)
  wr : ∀ r ∈ l, WR base w r.u r.ws
  hor : ∀ r ∈ l, r.k = 72 → r.u = .slice none 0 0
  lt : ∀ r ∈ l, r.t < 4294967296

theorem row_type {w : World} {base base' e e' size size' n n' : Nat} {v v' : Value} {xs xs' : List Value} (h : w.ownsRow base e size v n xs) (h' : w.ownsRow base' e' size' v' n' xs') (he : e ≠ e') : ∀ b, v.ownBlock = some b → v'.ownBlock ≠ some b := fun b e1 e2 => by
  rcases h.2 with ⟨rfl, rfl⟩ | ⟨g, cap, cur, rfl, _, hg, _⟩
  · cases e1
  · rcases h'.2 with ⟨rfl, rfl⟩ | ⟨g', cap', cur', rfl, _, hg', _⟩
    · cases e2
    · cases e1; cases e2
      rw [hg] at hg'
      injection hg' with hg'
      injection hg' with _ hg'
      exact he hg'

theorem RecsR.kept {base : Nat} {w w' : World} {v : Value} {l : List RecV} (h : RecsR base w v l) (k : Kp (fun _ => False) w w') : RecsR base w' v l :=
  ⟨ownsRow_kp h.row k (fun _ _ e => e), fun r hr => ownsRow_kp (h.wr r hr) k (fun _ _ e => e), h.hor, h.lt⟩

/-- A record more. -/
theorem RecsR.more {base : Nat} {w w' : World} {v v' : Value} {l : List RecV} {r : RecV} (h : RecsR base w v l) (hr : WR base w r.u r.ws) (h2 : r.k = 72 → r.u = .slice none 0 0) (h3 : r.t < 4294967296)
    (k : Kp (fun b => v.ownBlock = some b) w w') (hrow : w'.ownsRow base 110 3 v' (l.length + 1) (l.flatMap RecV.cells ++ r.cells)) : RecsR base w' v' (l ++ [r]) := by
  have keep : ∀ {u ws}, WR base w u ws → WR base w' u ws := fun hw => ownsRow_kp hw k (fun b e e2 => row_type hw h.row (by decide) b e e2)
  refine ⟨?_, fun x hx => ?_, fun x hx => ?_, fun x hx => ?_⟩
  · rw [List.length_append, List.flatMap_append]
    simpa using hrow
  · rcases List.mem_append.1 hx with hx | hx
    · exact keep (h.wr x hx)
    · rw [List.mem_singleton] at hx; subst hx; exact keep hr
  · rcases List.mem_append.1 hx with hx | hx
    · exact h.hor x hx
    · rw [List.mem_singleton] at hx; subst hx; exact h2
  · rcases List.mem_append.1 hx with hx | hx
    · exact h.lt x hx
    · rw [List.mem_singleton] at hx; subst hx; exact h3

theorem WR.base {base base' : Nat} {w : World} {u : Value} {ws : List W3} (h : WR base w u ws) (hb : base' ≤ base) : WR base' w u ws :=
  ⟨h.1, h.2.imp id (fun ⟨g, cap, cur, e1, e2, e3⟩ => ⟨g, cap, cur, e1, Nat.le_trans hb e2, e3⟩)⟩

/-- What journal.Read tells of a file: its number, these records; this is left. -/
structure FileIs (bs : List UInt8) (n : Nat) (l : List RecV) (rest : List UInt8) : Prop where
  num : cutO bs = some n
  recs : ReadsAs (bs.drop 11) l rest
  le : l.length ≤ 4
  stop : l.length < 4 → ∀ k t ws r, ¬ CutIs rest k t ws r

def FileFine (bs : List UInt8) : Prop := ∀ rs rest, ReadsAs (bs.drop 11) rs rest → CutFine rest

def lenV (v : Value) : Nat := match v with | .slice _ n _ => n | _ => 0

section
variable {R : Ending → World → Prop}

theorem wpR_append {ops : Array Oper} {rest : List Oper} {o : Oper} {a : Act} {Q : Exit → Act → World → Prop} (w : World) (hgd : o.guard = none) (s x : Operand)
    (ho : o.op = .call { callee := .builtin .append, args := #[s, x], argTypes := #[114, 114] })
    (base : Nat) (v : Value) (n : Nat) (xs : List Value) (hs : a.eval s = v) (hown : w.ownsRow base 110 3 v n xs) (g : Nat) (u1 u2 u3 : Value) (hx : a.eval x = .slice (some ⟨g, 0, none⟩) 1 1) (hu : w.heap[g]? = some (.cells #[u1, u2, u3] 110 (0, 0))) (h1 : ∀ u ∈ [u1, u2, u3], u.oneCell' = true) (hl : n ≤ 1000) (hb : base ≤ w.heap.size)
    (h : ∀ v' w', w'.ownsRow base 110 3 v' (n + 1) (xs ++ [u1, u2, u3]) → Kp (fun b => v.ownBlock = some b) w w' → wpList Tryz.prog ops Q rest (a.put o.dst v') w') :
    wpList Tryz.prog ops Q (o :: rest) a w := by
  obtain ⟨i0, hi, hz0, hz1, hz2⟩ := info_parts infoRec
  refine wpList_append_own_at _ hgd s x 114 ho base 110 i0 (.agg #[.int .u8 0, .int .i64 0, .slice none 0 0]) 3 40 Tryz.underlying114 hi hz0 hz1 hz2 rfl (by decide) v n xs hs hown ⟨g, 0, none⟩ 1 1 [u1, u2, u3] hx rfl (fun j y hj => ?_) h1 (by unfold maxLen; omega) (by omega) hb (fun v' w' r1 r2 _ _ => h v' w' r1 (Kp.of_grown r2 (fun _ e => e)))
  rw [addr_add, Nat.zero_add, cell_of hu]
  simpa using hj

set_option maxRecDepth 20000 in
set_option maxHeartbeats 2000000 in
theorem read_any (v : Value) (bs : List UInt8) (g : Nat) (w : World) (h : RdN w v bs g) (hT : Tab w) (hl : bs.length ≤ 1000000) (hf : FileFine bs)
    (h1 : cutO bs = none → ∀ w', Kp (fun _ => False) w w' → R (.returned (.tuple #[.int .i64 0, .slice none 0 0, .bool false])) w')
    (h2 : ∀ (n : Nat) l rest v' w', FileIs bs n l rest → Kp (fun _ => False) w w' → RecsR w.heap.size w' v' l → R (.returned (.tuple #[.int .i64 n, v', .bool (decide (rest = []))])) w') :
    Calls Tryz.prog 75 #[v] w R := by
  have H := hid_of h
  have HT := hid_of hT
  have HL := hid_of hl
  have H1 := hid_of h1
  have H2 := hid_of h2
  have HFI := hid_of hf
  clear h hT hl h1 h2 hf
  go_enter Tryz.func75, Tryz.ntmps75
  go_wp2_with (first
    | (go_at_call 128; refine cutOpening_any _ bs g _ H.out HT.out HL.out ?_ ?_)
    | fail)
  · intro e w1 hk1
    have HF := hid_of (H1.out e w1 hk1)
    clear hk1 e
    go_wp2_with fail
    refine bodyPost_ret (results_tmp3 rfl _ _ _) rfl ?_
    exact HF.out
  · intro n v1 w1 e hg hr1 hk1
    have HE := hid_of e
    have HG := hid_of hg
    have HR1 := hid_of hr1
    have HK1 := hid_of hk1
    clear e hg hr1 hk1
    go_wp2_with fail
    go_loopw [3, 5] (fun v3 v5 wr => ∃ l rest, l.length ≤ 4 ∧ Kp (fun _ => False) w wr ∧ RecsR w.heap.size wr v3 l ∧ RdC wr v5 rest g ∧ ReadsAs (bs.drop 11) l rest ∧ rest.length ≤ bs.length) (fun v3 _ _ => 4 - lenV v3)
    case atStart => exact ⟨[], bs.drop 11, by simp, HK1.out, ⟨World.ownsRow_nil _ _ _ _, fun r hr => (by cases hr), fun r hr => (by cases hr), fun r hr => (by cases hr)⟩, HR1.out, rfl, by simp⟩
    case round =>
      obtain ⟨l, rest, hl4, hk, hrs, hrd, hra, hrl⟩ := hrel
      obtain ⟨pu, cu, rfl⟩ := ownsRow_slice hrs.row
      obtain ⟨o5, c5, rfl, hc51, hc52⟩ := hrd
      have HRD : Hid (RdC wr (.slice (some ⟨g, o5, none⟩) rest.length c5) rest g) := ⟨o5, c5, rfl, hc51, hc52⟩
      have HK := hid_of hk
      have HRS := hid_of hrs
      have HRA := hid_of hra
      have HRL := hid_of hrl
      clear hk hrs hra hrl hc51 hc52
      by_cases q : l.length < 4
      · have q' : (l.length : Int) < 4 := by omega
        have HQ := hid_of q
        have HGW : Hid (g < wr.heap.size) := Nat.lt_of_lt_of_le HG.out HK.out.size
        clear q hl4
        go_wp2_with (first
          | (go_at_call 129; refine cutRecord_any _ rest g wr HRD.out HGW.out (HT.out.kept HK.out) (Nat.le_trans HRL.out HL.out) (HFI.out l rest HRA.out) ?_ ?_)
          | fail)
        · intro hno w2 hk2
          have HF := hid_of (fun w' (k : Kp (fun _ => False) w2 w') => H2.out n l rest (.slice pu l.length cu) w' ⟨HE.out, HRA.out, Nat.le_of_lt HQ.out, fun _ => hno⟩ ((HK.out.trans hk2 (fun _ _ h => h)).trans k (fun _ _ h => h)) ((HRS.out.kept hk2).kept k))
          clear hno hk2
          unfold recZ
          by_cases q0 : rest = []
          · have q1 : rest.length = 0 := by rw [q0]; rfl
            rw [show decide (rest = []) = true by simpa using q0] at HF
            rw [q1]
            clear q0
            go_wp2_with fail
            refine bodyPost_ret (results_tmp3 rfl _ _ _) rfl ?_
            exact HF.out _ (Kp.alloc _ _ _)
          · have q1 : ((rest.length : Int) == 0) = false := by
              have : rest.length ≠ 0 := fun e => q0 (List.eq_nil_of_length_eq_zero e)
              simp; omega
            rw [show decide (rest = []) = false by simpa using q0] at HF
            clear q0
            go_wp2_with fail
            refine bodyPost_ret (results_tmp3 rfl _ _ _) rfl ?_
            exact HF.out _ (Kp.alloc _ _ _)
        · intro k t ws r w2 u v' hcut ht hu hk2 hw hr2
          obtain ⟨p3, c3, rfl⟩ := ownsRow_slice hw
          obtain ⟨o6, c6, rfl, hc61, hc62⟩ := hr2
          have kA := Kp.alloc (fun _ => False) w2 (.cells #[.int .u8 k, .int .i64 t, .slice p3 ws.length c3] 110)
          have kB := kA.trans (Kp.alloc (fun _ => False) _ (.cells #[.int .u8 k, .int .i64 t, .slice p3 ws.length c3] 110)) (fun _ _ h => h)
          have KB := hid_of kB
          have K2 := hid_of hk2
          have HW := hid_of (WR.base hw HK.out.size)
          have HU := hid_of hu
          have HTT := hid_of ht
          have HCUT := hid_of hcut
          have HR6 : Hid (RdC w2 (.slice (some ⟨g, o6, none⟩) r.length c6) r g) := ⟨o6, c6, rfl, hc61, hc62⟩
          have sA : (w2.alloc (.cells #[.int .u8 k, .int .i64 t, .slice p3 ws.length c3] 110)).heap.size = w2.heap.size + 1 := by simp
          have hbB := heap_alloc_new (w2.alloc (.cells #[.int .u8 k, .int .i64 t, .slice p3 ws.length c3] 110)) (.cells #[.int .u8 k, .int .i64 t, .slice p3 ws.length c3] 110)
          rw [sA] at hbB
          have HBB := hid_of hbB
          clear kA kB hcut ht hu hk2 hw hc61 hc62 sA hbB
          go_wp2_with (first
            | (at_builtin; refine wpR_append _ rfl _ _ rfl w.heap.size (.slice pu l.length cu) l.length _ rfl ((HRS.out.kept K2.out).kept KB.out).row (w2.heap.size + 1) _ _ _ rfl HBB.out (by simp [Value.oneCell']) (by have := HQ.out; omega) (HK.out.trans (K2.out.trans KB.out (fun _ _ h => h)) (fun _ _ h => h)).size ?_; intro v5 w5 hown5 hk5; have HOW := hid_of hown5; have HK5 := hid_of hk5; clear hown5 hk5)
            | fail)
          go_roundw
          case rel =>
            have k2 := K2.out.trans KB.out (fun _ _ h => h)
            refine ⟨l ++ [⟨k, t, ws, .slice p3 ws.length c3⟩], r, by have := HQ.out; simp; omega, ?_, ?_, ?_, ?_, ?_⟩
            · exact (HK.out.trans k2 (fun _ _ h => h)).trans HK5.out (fun b hb e => by have := (HRS.out.row.lt b e).1; omega)
            · exact ((HRS.out.kept K2.out).kept KB.out).more (r := ⟨k, t, ws, .slice p3 ws.length c3⟩) (ownsRow_kp HW.out KB.out (fun _ _ e => e)) HU.out HTT.out HK5.out HOW.out
            · exact (HR6.out.kept KB.out).kp HK5.out (fun e => by have := (HRS.out.row.lt g e).1; have := HG.out; omega)
            · exact ReadsAs.snoc (r := ⟨k, t, ws, .slice p3 ws.length c3⟩) HRA.out HCUT.out
            · have := HCUT.out.len; have := HRL.out; omega
          case measure =>
            obtain ⟨p5, c5', rfl⟩ := ownsRow_slice HOW.out
            have := HQ.out
            simp [lenV]; omega
      · have q' : ¬ (l.length : Int) < 4 := by omega
        have HF := hid_of (H2.out n l rest (.slice pu l.length cu) wr ⟨HE.out, HRA.out, hl4, fun h => absurd h q⟩ HK.out HRS.out)
        clear q hl4
        by_cases q0 : rest = []
        · have q1 : rest.length = 0 := by rw [q0]; rfl
          rw [show decide (rest = []) = true by simpa using q0] at HF
          rw [q1]
          clear q0
          go_wp2_with fail
          refine bodyPost_ret (results_tmp3 rfl _ _ _) rfl ?_
          exact HF.out
        · have q1 : ((rest.length : Int) == 0) = false := by
            have : rest.length ≠ 0 := fun e => q0 (List.eq_nil_of_length_eq_zero e)
            simp; omega
          rw [show decide (rest = []) = false by simpa using q0] at HF
          clear q0
          go_wp2_with fail
          refine bodyPost_ret (results_tmp3 rfl _ _ _) rfl ?_
          exact HF.out

end

end Go.Proofs.YthbdpfccfcceiaaGreatDoor
