/-
  The calls of one store once more, what it is behind them told by what changed alone.
-/
import Derived.Test.YthbdpfccfcceiaaDoorE5
namespace Go.Proofs.YthbdpfccfcceiaaDoor
open Go.RowKit

structure Beg (s s' : XS) : Prop where
  ok : XOk s'
  now : s'.now = s.now
  hor : s'.hor = s.hor
  begun : s'.begun = s.begun + 1
  nopen : s'.nopen = s.nopen + 1
  mom : s'.mom = s.mom
  ver : s'.ver = s.ver
  mine : s'.txs (s.begun + 1) = some ⟨s.now, fun _ => none, 0⟩
  txs : ∀ n, n ≠ s.begun + 1 → s'.txs n = s.txs n

structure Wrt (s s' : XS) (tx : Int) (t' : XT) : Prop where
  ok : XOk s'
  now : s'.now = s.now
  hor : s'.hor = s.hor
  begun : s'.begun = s.begun
  nopen : s'.nopen = s.nopen
  mom : s'.mom = s.mom
  ver : s'.ver = s.ver
  mine : s'.txs tx = some t'
  txs : ∀ n, n ≠ tx → s'.txs n = s.txs n

structure Cls (s s' : XS) (tx : Int) : Prop where
  ok : XOk s'
  now : s'.now = s.now
  hor : s'.hor = s.hor
  begun : s'.begun = s.begun
  nopen : s'.nopen = s.nopen - 1
  mom : s'.mom = s.mom
  ver : s'.ver = s.ver
  mine : s'.txs tx = none
  txs : ∀ n, n ≠ tx → s'.txs n = s.txs n

structure Cmt (s s' : XS) (tx : Int) (wr : ByteArray → Option (ByteArray × Bool)) : Prop where
  ok : XOk s'
  now : s'.now = s.now + 1
  hor : s'.hor = s.hor
  begun : s'.begun = s.begun
  nopen : s'.nopen = s.nopen - 1
  mom : ∀ k, s'.mom k = if (wr k).isSome = true then s.mom k ++ [s.now + 1] else s.mom k
  ver : ∀ k m, s'.ver k m = if m = s.now + 1 ∧ (wr k).isSome = true then wr k else s.ver k m
  mine : s'.txs tx = none
  txs : ∀ n, n ≠ tx → s'.txs n = s.txs n

/-- Behind an act. -/
structure Actd (s s' : XS) (wr : ByteArray → Option (ByteArray × Bool)) : Prop where
  ok : XOk s'
  now : s'.now = s.now + 1
  hor : s'.hor = s.hor
  begun : s'.begun = s.begun + 1
  nopen : s'.nopen = s.nopen
  mom : ∀ k, s'.mom k = if (wr k).isSome = true then s.mom k ++ [s.now + 1] else s.mom k
  ver : ∀ k m, s'.ver k m = if m = s.now + 1 ∧ (wr k).isSome = true then wr k else s.ver k m
  txs : s'.txs = s.txs

section
variable {N : Nat → Prop} {w : World} {p : Nat} {s : XS}
variable {R : Ending → World → Prop}

theorem f_begin (h : St N w p s) (ok : XOk s) (hb : s.begun < 1000000000) (h8 : s.nopen < 8)
    (hR : ∀ w' s', Beg s s' → St N w' p s' → Kp (fun b => ¬ N b) w w' → R (.returned (.tuple #[.int .i64 (s.begun + 1), .int .i64 0])) w') :
    Calls Tryd.prog 8 #[.pointer (some ⟨p, 0, none⟩)] w R :=
  e_begin h ok hb h8 (fun w' S k => hR w' _ ⟨ok.begin _, rfl, rfl, rfl, rfl, rfl, rfl, updI_same _ _ _, fun _ hn => updI_other _ hn _⟩ S k)

theorem f_writes (h : St N w p s) (ok : XOk s) {tx : Int} (hwx : (Lit.int .i64 tx).wf = true) {t : XT} (e : s.txs tx = some t) (hn : t.nw < 10) (key v : ByteArray) (hk : isKey key = true) (hv : v.size ≤ 20)
    (hR : ∀ w' s' n, Wrt s s' tx ⟨t.sees, updS t.wr key (some (vOf v)), n⟩ → St N w' p s' → Kp (fun b => ¬ N b) w w' → R (.returned (.int .i64 0)) w') :
    Calls Tryd.prog 9 #[.pointer (some ⟨p, 0, none⟩), .int .i64 tx, .string key, .string v] w R := by
  obtain ⟨n, hw⟩ := wrote_two t key (vOf v) hn
  exact e_writes h ok hwx e key v hk hv hw (fun w' S k => hR w' _ n ⟨ok.write e hk (vOf_size hv) hw, rfl, rfl, rfl, rfl, rfl, rfl, updI_same _ _ _, fun _ hn => updI_other _ hn _⟩ S k)

theorem f_commit_over (h : St N w p s) (ok : XOk s) {tx : Int} (hwx : (Lit.int .i64 tx).wf = true) {t : XT} (e : s.txs tx = some t) (hov : overt s t)
    (hR : ∀ w' s', Cls s s' tx → St N w' p s' → Kp (fun b => ¬ N b) w w' → R (.returned (.tuple #[.int .i64 0, .int .i64 4])) w') :
    Calls Tryd.prog 18 #[.pointer (some ⟨p, 0, none⟩), .int .i64 tx] w R :=
  e_commit_over h ok hwx e hov (fun w' S k => hR w' _ ⟨ok.close tx _, rfl, rfl, rfl, rfl, rfl, rfl, updI_same _ _ _, fun _ hn => updI_other _ hn _⟩ S k)

theorem f_commit_good (h : St N w p s) (ok : XOk s) {tx : Int} (hwx : (Lit.int .i64 tx).wf = true) {t : XT} (e : s.txs tx = some t) {k0 : ByteArray} (hnw : (t.wr k0).isSome = true) (hov : ¬ overt s t) (hn : s.now < 2000)
    (hR : ∀ w' s', Cmt s s' tx t.wr → St N w' p s' → Kp (fun b => ¬ N b) w w' → R (.returned (.tuple #[.int .i64 (s.now + 1), .int .i64 0])) w') :
    Calls Tryd.prog 18 #[.pointer (some ⟨p, 0, none⟩), .int .i64 tx] w R :=
  e_commit_good h ok hwx e ((ok.tx tx t e).pos k0 hnw) hov hn (fun w' _ _ _ _ S O k => hR w' _ ⟨O, rfl, rfl, rfl, rfl, fun _ => rfl, fun _ _ => rfl, updI_same _ _ _, fun _ hn => updI_other _ hn _⟩ S k)

theorem f_commits (h : St N w p s) (ok : XOk s) (hb : s.begun < 1000000) (h8 : s.nopen < 8) (hn : s.now < 2000) (a1 a2 a3 : Int) (h1 : I64 a1) (h2 : I64 a2) (h3 : I64 a3)
    (hR : ∀ w' s', Actd s s' (actWr a1 a2 a3) → St N w' p s' → Kp (fun b => ¬ N b) w w' → R (.returned (.bool true)) w') :
    Calls Tryd.prog 13 #[.pointer (some ⟨p, 0, none⟩), actV a1 a2 a3] w R :=
  e_commits h ok hb h8 hn a1 a2 a3 h1 h2 h3 (fun w' _ _ _ _ S O k => hR w' _ ⟨O, rfl, rfl, rfl, rfl, fun _ => rfl, fun _ _ => rfl, rfl⟩ S k)

theorem e_abort (h : St N w p s) (ok : XOk s) {tx : Int} (hwx : (Lit.int .i64 tx).wf = true) {t : XT} (e : s.txs tx = some t)
    (hR : ∀ w' s', Cls s s' tx → St N w' p s' → Kp (fun b => ¬ N b) w w' → R (.returned (.int .i64 0)) w') :
    Calls Tryd.prog 16 #[.pointer (some ⟨p, 0, none⟩), .int .i64 tx] w R := by
  obtain ⟨own, ⟨mo, ph, mv, mm, pt, mw, sl, h⟩, hN⟩ := h
  refine x_abort h tx hwx (fun h0 => by rw [e] at h0; cases h0) (fun t1 _ w' k hx => ?_)
  have h1 := St.up ⟨mo, ph, mv, mm, pt, mw, sl, h⟩ hN k (fun _ _ => rfl) ⟨_, _, _, _, _, _, _, hx⟩
  exact hR w' _ ⟨ok.close tx _, rfl, rfl, rfl, rfl, rfl, rfl, updI_same _ _ _, fun _ hn => updI_other _ hn _⟩ h1.1 h1.2

/-- A transaction of the last moment has not been overtaken. -/
theorem not_overt (ok : XOk s) {t : XT} (h : t.sees = s.now) : ¬ overt s t := fun ⟨k, _, hk⟩ => by
  have := ok.fresh k
  rw [← h, hk] at this
  cases this

theorem Cmt.val {s' : XS} {tx : Int} {wr : ByteArray → Option (ByteArray × Bool)} (c : Cmt s s' tx wr) {k : ByteArray} {v : ByteArray × Bool} (hk : wr k = some v) : valAt s' k (s.now + 1) = (v.1, !v.2) := by
  have e1 : s'.mom k = s.mom k ++ [s.now + 1] := by rw [c.mom, hk]; rfl
  have e2 : s'.ver k (s.now + 1) = some v := by rw [c.ver, hk]; simp
  unfold valAt
  rw [e1, List.filter_append, List.filter_cons_of_pos (by simp), List.filter_nil, List.getLast?_concat]
  simp only [e2]

theorem Cmt.late {s' : XS} {tx : Int} {wr : ByteArray → Option (ByteArray × Bool)} (c : Cmt s s' tx wr) {k : ByteArray} (hk : (wr k).isSome = true) : changed (s'.mom k) s.now = true := by
  unfold changed
  rw [c.mom, if_pos hk, List.getLast?_concat]
  simp
  omega

end

end Go.Proofs.YthbdpfccfcceiaaDoor
