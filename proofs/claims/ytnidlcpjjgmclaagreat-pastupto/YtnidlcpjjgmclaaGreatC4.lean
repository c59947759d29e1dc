/-
  Commit of a store: what the transaction wrote is taken in.
-/
import Derived.Test.YtnidlcpjjgmclaaGreatC2C3
namespace Go.Proofs.YtnidlcpjjgmclaaGreat
open Go.RowKit Go.Maps

section
variable {own own' : Nat → Lab} {c : Nat} {w w' : World} {p : Nat} {s : XS} {mo ph mv mm : Nat} {pt mw : Int → Nat} {sl : ByteArray → Value}

/-- How the store lies while what a transaction wrote is being taken in. -/
structure Mid (own : Nat → Lab) (c : Nat) (w0 : World) (r : Nat) (p : Nat) (s : XS) (tx : Int) (t : XT) (mo ph mv mm : Nat) (pt mw : Int → Nat) (w : World) (own' : Nat → Lab) (sl : ByteArray → Value) (left : Value → Bool) (cnt nv nm : Nat) : Prop where
  xr : XR own' c w p (comm s t left nv nm) mo ph mv mm pt mw sl
  ownE : ∀ b, b < w0.heap.size → own' b = own b
  rl : (own' r).c ≠ c
  rng : frng w Tryz.prog 9 (mw tx) r t.nw (encS fun k => (t.wr k).map encVer) left cnt
  kp : Kp (fun b => (own b).c = c) w0 w
  hv : nv + cnt ≤ s.nv + t.nw
  hm : nm + cnt ≤ s.nm + t.nw
  lt : w0.heap.size ≤ r

theorem frng.iter {P : Program} {k : TypeId} {b r n cnt : Nat} {f : Value → Option Value} {left : Value → Bool} (h : frng w P k b r n f left cnt) : ∃ m s e l, w.heap[r]? = some (.mapIter m s e l) := by
  obtain ⟨D, lf, ⟨es, clock, since, seen, c0, _, _, _, _, h5, _⟩, _⟩ := h
  exact ⟨_, _, _, _, h5⟩

theorem encS_inv2 {g : ByteArray → Option (ByteArray × Bool)} {k : ByteArray} {v : Value} (h : encS (fun k => (g k).map encVer) (.string k) = some v) : ∃ x y, g k = some (x, y) ∧ v = .agg #[.string x, .bool y] := by
  rw [encS_at] at h
  cases e : g k with
  | none => rw [e] at h; cases h
  | some q => rw [e] at h; cases h; exact ⟨q.1, q.2, rfl, rfl⟩

variable {R : Ending → World → Prop}

theorem mid_add {w0 : World} {r : Nat} {tx : Int} {t : XT} {left left' : Value → Bool} {cnt cnt' nv nm : Nat} {wr w1 W : World} (hM : Mid own c w0 r p s tx t mo ph mv mm pt mw wr own' sl left cnt nv nm)
    (k val : ByteArray) (g : Bool) (hk : t.wr k = some (val, g)) (e : s.txs tx = some t) (hlen : k.size ≤ 8) (hnow : 0 ≤ s.now ∧ s.now < 2000) (hmom : (s.mom k).length < 1000000) (hnv : s.nv + t.nw < 1000000) (hnm : s.nm + t.nw < 1000000)
    (hlk : left (.string k) = true) (hrg : frng w1 Tryz.prog 9 (mw tx) r t.nw (encS fun k => (t.wr k).map encVer) left' cnt') (hl1 : left' (.string k) = false) (hl2 : ∀ z, z ≠ .string k → left' z = left z) (hlt : cnt' < cnt)
    (hg : wr.grownBy w1 (some r)) (hKW : Kp (fun _ => False) w1 W)
    (hR : ∀ w' own'' sl' nv' nm', Mid own c w0 r p s tx t mo ph mv mm pt mw w' own'' sl' left' cnt' nv' nm' → R (.returned (.tuple #[])) w') :
    Calls Tryz.prog 87 #[.pointer (some ⟨ph, 0, none⟩), .string k, .int .i64 (s.now + 1), .agg #[.string val, .bool g]] W R := by
  have hx1 : XR own' c w1 p (comm s t left nv nm) mo ph mv mm pt mw sl := hM.xr.frame (fun b hb hc => hg.block b hb (fun e => hM.rl (by injection e with e; rw [← e]; exact hc))) (fun _ _ _ => rfl)
  have hxW := hx1.kept hKW
  have hmk : (comm s t left nv nm).mom k = s.mom k := by simp [comm, hlk]
  have hv := hM.hv; have hm := hM.hm
  have hrlt : r < w1.heap.size := by obtain ⟨m, s, e, l, hi⟩ := hrg.iter; exact block_lt hi
  have hrW : frng W Tryz.prog 9 (mw tx) r t.nw (encS fun k => (t.wr k).map encVer) left' cnt' := hrg.of_block (hKW.block _ hrg.toMap.lt (fun e => e)) (hKW.block _ hrlt (fun e => e))
  have kW : Kp (fun b => (own b).c = c) w0 W := (hM.kp.trans (Kp.of_grown (S := fun b => b = r) hg (fun b hb => by cases hb; rfl)) (fun b hb e => by have := hM.lt; omega)).trans hKW (fun _ _ h => h.elim)
  refine x_add hxW k val g (s.now + 1) hlen (WalkArith.wf_i64 (by omega)) (by rw [hmk]; omega) (show nm < 1000000 by omega) (show nv < 1000000 by omega) (fun w' own'' sl' nv' nm' hk' ho' h1 h2 hx' => ?_)
  have hrW' := Nat.lt_of_lt_of_le hrlt hKW.size
  refine hR w' own'' sl' nv' nm' ⟨?_, fun b hb => ?_, ?_, ?_, ?_, ?_, ?_, hM.lt⟩
  · rw [← comm_step s t left left' nv nm nv' nm' k (val, g) hk hlk hl1 hl2]; exact hx'
  · rw [ho' b (Nat.lt_of_lt_of_le hb kW.size)]; exact hM.ownE b hb
  · rw [ho' r hrW']; exact hM.rl
  · refine hrW.of_block (hk'.block _ hrW.toMap.lt ?_) (hk'.block _ hrW' ?_)
    · have hl := (hxW.ownT tx t e).2
      rintro (hb | hb | hb)
      · exact absurd (hb ▸ hl) (by rw [hxW.ownV]; simp)
      · exact absurd (hb ▸ hl) (by rw [hxW.ownM]; simp)
      · rw [hl] at hb; simp at hb
    · rintro (hb | hb | hb)
      · exact hM.rl (by rw [hb, hxW.ownV])
      · exact hM.rl (by rw [hb, hxW.ownM])
      · exact hM.rl (by rw [hb])
  · refine kW.trans hk' (fun b hb h => ?_)
    rw [← hM.ownE b hb]
    rcases h with h | h | h
    · rw [h, hxW.ownV]
    · rw [h, hxW.ownM]
    · rw [h]
  · have : nv' ≤ nv + 1 := h1
    omega
  · have : nm' ≤ nm + 1 := h2
    omega

theorem gone_opn' (txs : Int → Option XT) (tx : Int) (pt : Int → Nat) : IsDel (encI fun n => (txs n).map fun _ => Value.pointer (some ⟨pt n, 0, none⟩)) (.int .i64 tx) (encI fun n => ((updI txs tx none) n).map fun _ => Value.pointer (some ⟨pt n, 0, none⟩)) := by
  rw [map_updI]; exact del_encI _ _

set_option maxRecDepth 20000 in
set_option maxHeartbeats 1000000 in
theorem x_commit_good (h : XR own c w p s mo ph mv mm pt mw sl) (tx : Int) (hwx : (Lit.int .i64 tx).wf = true) (t : XT) (e : s.txs tx = some t) (hnw : 0 < t.nw) (hkeys : ∀ k, (t.wr k).isSome = true → k.size ≤ 8) (hmom : ∀ k, (s.mom k).length < 1000000) (hov : ¬ overt s t) (hnow : 0 ≤ s.now ∧ s.now < 2000)
    (hnv : s.nv + t.nw < 1000000) (hnm : s.nm + t.nw < 1000000)
    (hR : ∀ w' own' sl' nv' nm', Kp (fun b => (own b).c = c) w w' → (∀ b, b < w.heap.size → own' b = own b) → nv' ≤ s.nv + t.nw → nm' ≤ s.nm + t.nw →
      XR own' c w' p { comm s t (fun _ => false) nv' nm' with txs := updI s.txs tx none, nopen := s.nopen - 1 } mo ph mv mm pt mw sl' → R (.returned (.tuple #[.int .i64 (s.now + 1), .int .i64 0])) w') :
    Calls Tryz.prog 43 #[.pointer (some ⟨p, 0, none⟩), .int .i64 tx] w R := by
  have hkey : Hid _ := keyOf_int_mk Tryz.underlying3 hwx
  have c2 : w.cell? ⟨p, 4, none⟩ = some (.map (some mo)) := cell_of h.store 4
  have d1 : w.cell? ⟨pt tx, 1, none⟩ = some (.map (some (mw tx))) := cell_of (h.tx tx t e) 1
  have hw := h.wr tx t e
  have hf : (encI fun n => (s.txs n).map fun _ => Value.pointer (some ⟨pt n, 0, none⟩)) (.int .i64 tx) = some (.pointer (some ⟨pt tx, 0, none⟩)) := by rw [encI_at, e]; rfl
  have H : Hid (XR own c w p s mo ph mv mm pt mw sl) := h
  have hopn := h.opn
  have HR : Hid _ := hR
  have hn : (t.nw : Int) ≠ 0 := by omega
  have hn' : ((t.nw : Int) == 0) = false := by simpa using hn
  have hlt2 : s.now < 2000 := hnow.2
  have hge0 : 0 ≤ s.now := hnow.1
  have HV : Hid (s.nv + t.nw < 1000000 ∧ s.nm + t.nw < 1000000) := ⟨hnv, hnm⟩
  have nTP : pt tx ≠ p := lab_ne (own := own) (by rw [(h.ownT tx t e).1, h.ownP]; simp)
  clear h hR hnw hn hnow hnv hnm
  go_enter Tryz.func43, Tryz.ntmps43
  go_wp2_with (first
    | (at_lookup; refine wpL_lookup_ok _ rfl _ _ 72 rfl 3 150 kInt Tryz.underlying72 (zTxP _) mo s.nopen _ rfl hopn (.int .i64 tx) _ rfl hkey.out _ hf ?_)
    | (at_len; refine wpL_len _ rfl _ 151 rfl 9 164 Tryz.underlying151 (mw tx) t.nw _ rfl hw ?_)
    | (go_at_call 86; refine x_overtaken H.out tx t e hkeys hmom (fun _ w1 hk1 => ?_) (fun ho => absurd ho hov); have H1 : Hid (XR own c w1 p s mo ph mv mm pt mw sl) := H.out.kept hk1; have c0' : w1.cell? ⟨p, 2, none⟩ = some (.int .i64 s.now) := cell_of H1.out.store 2; have f0' : w1.frozen? ⟨p, 2, none⟩ = false := frozen_of H1.out.store 2; have d1' : (w1.setCell ⟨p, 2, none⟩ (.int .i64 (s.now + 1))).cell? ⟨pt tx, 1, none⟩ = some (.map (some (mw tx))) := cell_of ((H1.out.tick (s.now + 1)).tx tx t e) 1; have hw1 := (H1.out.tick (s.now + 1)).wr tx t e)
    | (at_range; refine wpL_range _ rfl _ 151 rfl 9 164 kStr Tryz.underlying151 (mw tx) t.nw _ rfl hw1 ?_; intro w2 hrg2 hg2 hs2)
    | go_in)
  go_frame
  have hr0 : (w1.setCell ⟨p, 2, none⟩ (.int .i64 (s.now + 1))).heap.size = w1.heap.size := by simp [World.setCell]
  rw [hr0] at hrg2 hs2
  rw [hr0]
  have hT := H1.out.tick (s.now + 1)
  have HT : Hid (Kp (fun b => (own b).c = c) w1 (w1.setCell ⟨p, 2, none⟩ (.int .i64 (s.now + 1)))) := Kp.setCell w1 _ _ (by show (own p).c = c; rw [H1.out.ownP])
  have HM : Hid (Mid own c w1 w1.heap.size p s tx t mo ph mv mm pt mw w2 (fun b => if b = w1.heap.size then ⟨c + 1, 99, 0, eb⟩ else own b) sl (fun x => ((encS fun k => (t.wr k).map encVer) x).isSome) t.nw s.nv s.nm) := by
    refine ⟨?_, fun b hb => ?_, ?_, hrg2, ?_, Nat.le_refl _, Nat.le_refl _, Nat.le_refl _⟩
    · rw [comm_start s t _ (fun k => by rw [encS_at, Option.isSome_map])]
      refine hT.frame (fun b hb _ => hg2.block b hb (by simp)) (fun b hb _ => ?_)
      have : b ≠ w1.heap.size := by omega
      simp [this]
    · have : b ≠ w1.heap.size := by omega
      simp [this]
    · simp
    · exact HT.out.trans (Kp.of_grown (S := fun _ => False) hg2 (fun _ h => by cases h)) (fun _ _ h => h.elim)
  clear hT HT hr0 hrg2 hg2 hs2 c0' f0' d1' hw1 c2 d1 hw hopn
  go_loopw [8] (fun _ wr => ∃ (own' : Nat → Lab) (sl' : ByteArray → Value) (left : Value → Bool) (cnt nv nm : Nat), Mid own c w1 w1.heap.size p s tx t mo ph mv mm pt mw wr own' sl' left cnt nv nm)
    (fun _ wr => wr.rangeLeft (mw tx) w1.heap.size)
  case atStart => exact ⟨_, _, _, _, _, _, HM.out⟩
  case round =>
    obtain ⟨own', sl', left, cnt, nv, nm, hM⟩ := hrel
    have hrng := hM.rng
    go_wp2_with (first
      | (at_next; refine wpL_next _ rfl _ rfl 9 kStr Value.string (fun v : Value => v) (mw tx) w1.heap.size t.nw _ left cnt (fun key v hv => ?inv) rfl hrng ?_ ?_)
      | go_in)
    case inv => exact encS_inv hv
    · intro _ hl0
      have hopn := hM.xr.opn
      have c2 : wr.cell? ⟨p, 4, none⟩ = some (.map (some mo)) := cell_of hM.xr.store 4
      have c0 : wr.cell? ⟨p, 2, none⟩ = some (.int .i64 (s.now + 1)) := cell_of hM.xr.store 2
      have nPO : p ≠ mo := lab_ne (own := own') (by rw [hM.xr.ownP, hM.xr.ownO]; simp)
      have hg : Hid _ := gone_opn' (comm s t left nv nm).txs tx pt
      have hfe : (encI fun n => ((comm s t left nv nm).txs n).map fun _ => Value.pointer (some ⟨pt n, 0, none⟩)) (.int .i64 tx) = some (.pointer (some ⟨pt tx, 0, none⟩)) := hf
      clear hf
      go_wp2_with (first
        | (at_delete; refine wpL_delete _ rfl _ _ 72 3 rfl 150 kInt Tryz.underlying72 mo s.nopen _ rfl hopn (.int .i64 tx) _ rfl hkey.out hg.out ?_; intro w4 hown4 hturn4; have c0' : w4.cell? ⟨p, 2, none⟩ = some (.int .i64 (s.now + 1)) := (World.cell?_of_block (w := wr) (mapTurned_block hturn4 _ nPO)).trans c0)
        | go_in)
      rw [hfe] at hown4
      have hcc : comm s t left nv nm = comm s t (fun _ => false) nv nm := by simp only [comm, hl0]
      have hfin := hM.xr.reopen (fun b hb => mapTurned_block hturn4 b hb) (updI s.txs tx none) (s.nopen - 1) hown4 sub_upd
      rw [hcc] at hfin
      exact HR.out w4 own' sl' nv nm (((hk1.own_of (fun _ h => h.elim)).trans hM.kp (fun _ _ h => h)).trans (Kp.of_turned (S := fun b => b = mo) hturn4 rfl) (fun b hb hbo => by rw [hbo, H.out.ownO])) (fun b hb => hM.ownE b (Nat.lt_of_lt_of_le hb hk1.size)) (by have := hM.hv; omega) (by have := hM.hm; omega) hfin
    · intro k v w3 cnt1 hlk hfk left' hrg1 hl1 hl2 hlt hg1 hs1 hen
      obtain ⟨x, y, hk, rfl⟩ := encS_inv2 hfk
      go_wp2_with fail
      have hx3 : XR own' c w3 p (comm s t left nv nm) mo ph mv mm pt mw sl' := hM.xr.frame (fun b hb hc => hg1.block b hb (fun e => hM.rl (by injection e with e; rw [← e]; exact hc))) (fun _ _ _ => rfl)
      have hkw : Kp (fun _ => False) w3 (w3.alloc (Obj.cells #[Value.string x, Value.bool y] 164)) := Kp.alloc _ _ _
      have b0 : (w3.alloc (Obj.cells #[Value.string x, Value.bool y] 164)).cell? ⟨wr.heap.size, 0, none⟩ = some (.string x) := by rw [← hs1]; go_simp
      have b1 : (w3.alloc (Obj.cells #[Value.string x, Value.bool y] 164)).cell? ⟨wr.heap.size, 1, none⟩ = some (.bool y) := by rw [← hs1]; go_simp
      generalize hW : w3.alloc (Obj.cells #[Value.string x, Value.bool y] 164) = W at hkw b0 b1 ⊢
      have hxW := hx3.kept hkw
      have d3 : W.cell? ⟨p, 0, none⟩ = some (.pointer (some ⟨ph, 0, none⟩)) := cell_of hxW.store 0
      have d0 : W.cell? ⟨p, 2, none⟩ = some (.int .i64 (s.now + 1)) := cell_of hxW.store 2
      have hkd : Kp (fun _ => False) w3 W.drew := hkw.trans (Kp.drew _ _) (fun _ _ h => h)
      have Hgo : Hid (∀ {R : Ending → World → Prop}, (∀ w' own'' sl' nv' nm', Mid own c w1 w1.heap.size p s tx t mo ph mv mm pt mw w' own'' sl' left' cnt1 nv' nm' → R (.returned (.tuple #[])) w') → Calls Tryz.prog 87 #[.pointer (some ⟨ph, 0, none⟩), .string k, .int .i64 (s.now + 1), .agg #[.string x, .bool y]] W.drew R) :=
        fun hR => mid_add hM k x y hk e (hkeys k (by rw [hk]; rfl)) ⟨hge0, hlt2⟩ (hmom k) HV.out.1 HV.out.2 hlk hrg1 hl1 hl2 hlt hg1 hkd hR
      clear hW hen hfk hlk hx3 hkw hxW hkd hg1 hs1
      go_region_with (go_at_call 87; refine Hgo.out ?_; intro w5 own5 sl5 nv5 nm5 hM5)
      all_goals
        clear b0 b1 d0 d3 Hgo
        try go_wp2_with fail
        go_roundw
        case rel => exact ⟨own5, sl5, left', cnt1, nv5, nm5, hM5⟩
        case measure => rw [hM5.rng.left_eq, hrng.left_eq]; exact hlt

end

end Go.Proofs.YtnidlcpjjgmclaaGreat
