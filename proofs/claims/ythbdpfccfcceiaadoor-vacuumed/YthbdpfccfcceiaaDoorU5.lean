/-
  Vacuum changes no answer, told of the store.
-/
import Derived.Test.YthbdpfccfcceiaaDoorU4
namespace Go.Proofs.YthbdpfccfcceiaaDoor
open Go.RowKit

section
variable {R : Ending → World → Prop}

/-- What holds while versions go. -/
structure VacS (w : World) (h now : Int) (f : Nat → A3) (NN : Nat) (s0 s : XS) (lo hi p : Nat) (av : Option Addr) (nt capv la nv : Nat) (w' : World) : Prop where
  ran : Ran ((List.range (min NN 200)).map f) s0
  ok0 : XOk s0
  now0 : s0.now = now
  st : St (fun b => b < w.heap.size ∨ (lo ≤ b ∧ b < hi)) w' p s
  ok : XOk s
  six : Six s
  nowE : s.now = now
  hor : s.hor = h
  txs : ∀ n, s.txs n = none
  val : ∀ k t, h ≤ t → SameV (valAt s k t) (valAt s0 k t)
  late : lateX s h = lateX s0 h
  nvE : nv = s.nv
  laE : la = (pairs6 fun k => valAt s0 k h).length
  ntE : nt = (now - h + 1).toNat
  told : ToldAt lo hi w' (.slice av nt capv) nt (fun j => pairs6 fun k => valAt s0 k (h + j))
  kp : Kp (fun _ => False) w w'
  small : s.nv ≤ 401
  hb : 0 ≤ h ∧ h ≤ now
  nb : now ≤ 201

theorem VacS.kept {w : World} {h now : Int} {f : Nat → A3} {NN : Nat} {s0 s : XS} {lo hi p : Nat} {av : Option Addr} {nt capv la nv : Nat} {w' w'' : World} (v : VacS w h now f NN s0 s lo hi p av nt capv la nv w') (k : Kp (fun _ => False) w' w'') : VacS w h now f NN s0 s lo hi p av nt capv la nv w'' :=
  ⟨v.ran, v.ok0, v.now0, v.st.kept k, v.ok, v.six, v.nowE, v.hor, v.txs, v.val, v.late, v.nvE, v.laE, v.ntE, v.told.kp k (fun _ _ _ h => h), v.kp.trans k (fun _ _ h => h), v.small, v.hb, v.nb⟩

theorem VacS.pairs {w : World} {h now : Int} {f : Nat → A3} {NN : Nat} {s0 s : XS} {lo hi p : Nat} {av : Option Addr} {nt capv la nv : Nat} {w' : World} (v : VacS w h now f NN s0 s lo hi p av nt capv la nv w') : (fun j : Nat => pairs6 fun k => valAt s k (h + j)) = fun j : Nat => pairs6 fun k => valAt s0 k (h + j) := by
  funext j
  exact pairs6_same (fun k => v.val k _ (by omega))

def VacI (w : World) (hz : Int) (f : Nat → A3) (NN n i p : Nat) (now : Int) (av : Option Addr) (nt capv la nv : Nat) (w' : World) : Prop :=
  ∃ s0 s lo hi, VacS w (pk hz (now + 1)) now f NN s0 s lo hi p av nt capv la nv w' ∧ (i = n + 1 → ∀ k, spentX s k (pk hz (now + 1)) = 0)

def VacJ (w : World) (hz : Int) (f : Nat → A3) (NN n i p : Nat) (now : Int) (av : Option Addr) (nt capv : Nat) (vt : Value) (la nv : Nat) (w' : World) : Prop :=
  ∃ s0 s lo hi lo' hi', VacS w (pk hz (now + 1)) now f NN s0 s lo hi p av nt capv la nv w' ∧ (i = n + 1 → ∀ k, spentX s k (pk hz (now + 1)) = 0) ∧ ToldAt lo' hi' w' vt nt (fun j => pairs6 fun k => valAt s0 k (pk hz (now + 1) + j))

theorem mostN_b (m : Nat → Int) (n i : Nat) : 0 ≤ mostN m n i ∧ mostN m n i ≤ 1000 := by
  unfold mostN
  split
  · have := pk_lt (m i) (n := 9) (by decide); omega
  · omega

theorem e_vacuumed (w : World) (hT : Tab w) (v0 v2 : Value) (NN n : Nat) (f : Nat → A3) (m : Nat → Int) (hv0 : ActsIn w v0 NN f) (hv2 : IntsIn w v2 n m) (hz : Int) (hhz : I64 hz)
    (hR : ∀ w', Kp (fun _ => False) w w' → R (.returned (.bool true)) w') :
    Calls Tryd.prog 5 #[v0, .int .i64 hz, v2] w R := by
  obtain ⟨a0, cap0, rfl, hn0, hv0'⟩ := hv0
  obtain ⟨a, cap, rfl, hn, hv⟩ := hv2
  have hl : ((List.range (min NN 200)).map f).length ≤ 200 := by simp; omega
  refine vacuumed_walk w a0 NN cap0 f hn0 hv0' hz hhz a n cap m hn hv (VacI w hz f NN n) (VacJ w hz f NN n) ?_ ?_ ?_ ?_ ?_ ?_ ?_ hR
  · rintro i p now av nt capv la nv w' ⟨s0, s, lo, hi, v, _⟩
    refine ⟨v.kp, ?_, ?_⟩
    · rw [v.nvE]; have := v.small; omega
    · rw [v.laE]; exact pairs6_len _
  · refine e_filled w hT _ NN f ⟨a0, cap0, rfl, hn0, hv0'⟩ (fun w1 p s hr ok S1 k1 => ⟨p, rfl, ?_⟩)
    obtain ⟨f1, f2, f3, f4, f5⟩ := hr.facts
    have hpk := pk_lt hz (n := s.now + 1) (by omega)
    refine e_now S1 ⟨s.now, rfl, by omega, by omega, ?_⟩
    refine e_told S1 ok hr.six (pk hz (s.now + 1)) (by omega) (by omega) (fun w3 vw k3 ht => ?_)
    obtain ⟨av, capv, rfl, ht'⟩ := ht
    have ht : ToldAt w1.heap.size w3.heap.size w3 (.slice av (s.now - pk hz (s.now + 1) + 1).toNat capv) (s.now - pk hz (s.now + 1) + 1).toNat (fun j => pairs6 fun k => valAt s k (pk hz (s.now + 1) + j)) := ⟨av, capv, rfl, ht'⟩
    refine ⟨av, _, capv, rfl, by omega, ?_⟩
    have S3 : St (fun b => b < w.heap.size ∨ (w1.heap.size ≤ b ∧ b < w3.heap.size)) w3 p s := S1.read k3 (fun b hb => hb)
    refine e_range S3 ok hr.six (pk hz (s.now + 1)) (by omega) (by omega) (fun w4 va k4 hp => ?_)
    obtain ⟨aa, capa, rfl, _⟩ := hp
    refine ⟨aa, _, capa, rfl, ?_⟩
    refine e_retain (S3.kept k4) ok f3 hr.nob (pk hz (s.now + 1)) (by omega) (by omega) (fun w5 l hlg hlsy S5 k5 => ⟨rfl, ?_⟩)
    have ok5 := ok.retain f3 (t := pk hz (s.now + 1)) (by omega) (by omega) hlg hlsy
    refine e_stored S5 ⟨s.nv, rfl, s, { s with hor := pk hz (s.now + 1), log := l }, w1.heap.size, w3.heap.size, ⟨hr, ok, rfl, S5, ok5, hr.six, rfl, rfl, f3, fun k t _ => SameV.refl _, rfl, rfl, rfl, rfl, ?_, ?_, ?_, by omega, by omega⟩, fun h => by omega⟩
    · exact (ht.kp k4 (fun _ _ _ h => h)).kp k5 (fun b h1 h2 h => h (Or.inr ⟨h1, h2⟩))
    · exact ((k1.trans k3 (fun _ _ h => h)).trans k4 (fun _ _ h => h)).trans k5 (fun b hb h => h (Or.inl hb))
    · have h1 := S1.nv6 ok hr.six
      have h2 := hr.nv_le ok f (range_at f _)
      show s.nv ≤ 401
      omega
  · rintro i p now av nt capv la nv w' ⟨s0, s, lo, hi, v, hz0⟩ hin
    have hmb := mostN_b m n i
    refine e_vacuum v.st v.ok v.six (mostN m n i) ⟨by omega, by omega⟩ (fun w2 s2 c went g ok2 six2 S2 k2 hw hnv hle hall => ?_)
    have hsm := v.small
    have hnv' := v.nvE
    have hg : Gone s s2 (pk hz (now + 1)) c := by have := v.hor; rw [this] at g; exact g
    refine ⟨went, rfl, by omega, by omega, ?_⟩
    refine e_stored S2 ⟨by congr 3; omega, ?_⟩
    have hb := v.hb
    have e1 : s2.now = now := g.now.trans v.nowE
    have e2 : s2.hor = pk hz (now + 1) := g.hor.trans v.hor
    have htold := v.told.kp k2 (fun b h1 h2 h => h (Or.inr ⟨h1, h2⟩))
    have V2 : VacS w (pk hz (now + 1)) now f NN s0 s2 lo hi p av nt capv la (nv - went) w2 := ⟨v.ran, v.ok0, v.now0, S2, ok2, six2, e1, e2, fun n => by rw [g.txs]; exact v.txs n, fun k t ht => (hg.val v.ok k ht).trans (v.val k t ht), (hg.late v.ok).trans v.late, by omega, v.laE, v.ntE, htold, v.kp.trans k2 (fun b hb h => h (Or.inl hb)), by omega, v.hb, v.nb⟩
    have hsp : i + 1 = n + 1 → ∀ k, spentX s2 k (pk hz (now + 1)) = 0 := fun he k => by
      have hmo : mostN m n i = 1000 := by unfold mostN; rw [if_neg (by omega)]
      have := hall (by omega) k
      rw [v.hor] at this
      exact this
    have hT : ∀ {R : Ending → World → Prop}, (∀ w' v, Kp (fun _ => False) w2 w' → ToldAt w2.heap.size w'.heap.size w' v (s2.now - pk hz (now + 1) + 1).toNat (fun j => pairs6 fun k => valAt s2 k (pk hz (now + 1) + j)) → R (.returned (.tuple #[v, .bool true])) w') → Calls Tryd.prog 21 #[.pointer (some ⟨p, 0, none⟩), .int .i64 (pk hz (now + 1)), .int .i64 now] w2 R := fun hR => by
      have := e_told S2 ok2 six2 (pk hz (now + 1)) (by omega) (by omega) hR
      rw [e1] at this
      exact this
    refine hT (fun w4 vt k4 ht => ⟨vt, rfl, s0, s2, lo, hi, w2.heap.size, w4.heap.size, V2.kept k4, hsp, ?_⟩)
    rw [e1, ← v.ntE] at ht
    rw [← V2.pairs]
    exact ht
  · rintro i p now av nt capv vt la nv w' ⟨s0, s, lo, hi, lo', hi', v, _, ht⟩
    obtain ⟨at_, capt, rfl, ht'⟩ := ht
    exact ⟨at_, capt, lo, hi, lo', hi', _, rfl, v.told, ⟨at_, capt, rfl, ht'⟩, fun j => pairs6_len _⟩
  · rintro i p now av nt capv vt la nv w' w'' ⟨s0, s, lo, hi, lo', hi', v, hs, ht⟩ k
    exact ⟨s0, s, lo, hi, lo', hi', v.kept k, hs, ht.kp k (fun _ _ _ h => h)⟩
  · rintro i p now av nt capv vt la nv w' ⟨s0, s, lo, hi, lo', hi', v, hs, _⟩
    exact ⟨s0, s, lo, hi, v, hs⟩
  · rintro p now av nt capv la nv w' ⟨s0, s, lo, hi, v, hs⟩
    have h0 := hs rfl
    refine e_range_early v.st v.ok (pk hz (now + 1) - 1) (by have := v.hor; omega) ⟨rfl, ?_⟩
    refine e_vacuum v.st v.ok v.six 1 ⟨by omega, by omega⟩ (fun w3 s3 c went g ok3 six3 S3 k3 hw hnv hle hall => ?_)
    have hc : ∀ k, c k = 0 := fun k => by
      have := g.le k
      rw [v.hor, h0 k] at this
      omega
    have hw0 : went = 0 := by
      rw [hw]
      have : keys6.map c = keys6.map fun _ => 0 := List.map_congr_left (fun k _ => hc k)
      rw [this]; decide
    subst hw0
    refine ⟨rfl, v.kp.trans k3 (fun b hb h => h (Or.inl hb)), ?_⟩
    have h1 := nv_left v.ok (v.st.nv6 v.ok v.six) h0
    have h2 := v.ran.late (pk hz (now + 1)) f (range_at f _)
    have h3 : (pairs6 fun k => valAt s k (pk hz (now + 1))) = pairs6 fun k => valAt s0 k (pk hz (now + 1)) := pairs6_same (fun k => v.val k _ (Int.le_refl _))
    rw [v.nvE, h1, v.late, h2, v.laE, h3]
    simp

end

end Go.Proofs.YthbdpfccfcceiaaDoor
