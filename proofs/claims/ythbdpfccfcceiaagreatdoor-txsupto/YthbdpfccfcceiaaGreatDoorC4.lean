/-
  Commit of a store: what the transaction wrote is taken in, and written to the log.
-/
import Derived.Test.YthbdpfccfcceiaaGreatDoorT1C3
import Derived.Test.YthbdpfccfcceiaaGreatDoorJ4J5
namespace Go.Proofs.YthbdpfccfcceiaaGreatDoor
open Go.RowKit Go.Maps

/-- A list of writes is all that a transaction wrote, by keys. -/
structure WsOf (wr : ByteArray → Option (ByteArray × Bool)) (ws : List (ByteArray × ByteArray × Bool)) : Prop where
  up : (ws.map Prod.fst).Pairwise blt
  at_ : ∀ x ∈ ws, wr x.1 = some x.2
  all : ∀ k, (wr k).isSome = true → k ∈ ws.map Prod.fst

theorem WsOf.nodup {wr : ByteArray → Option (ByteArray × Bool)} {ws : List (ByteArray × ByteArray × Bool)} (h : WsOf wr ws) : (ws.map Prod.fst).Nodup := by
  unfold List.Nodup
  exact h.up.imp (fun {a b} hab (e : a = b) => blt_irrefl a (by rw [← e] at hab; exact hab))
theorem WsOf.eq {wr : ByteArray → Option (ByteArray × Bool)} {ws : List (ByteArray × ByteArray × Bool)} (h : WsOf wr ws) : wrL ws = wr := by
  funext k
  cases e : wr k with
  | some v =>
    obtain ⟨x, hx, rfl⟩ := List.mem_map.1 (h.all k (by rw [e]; rfl))
    rw [wrL_at ws h.nodup x hx, ← h.at_ x hx, e]
  | none =>
    cases e2 : wrL ws k with
    | none => rfl
    | some v =>
      have h1 : (wrL ws k).isSome = true := by rw [e2]; rfl
      rw [wrL_some, List.any_eq_true] at h1
      obtain ⟨x, hx, ek⟩ := h1
      have ek' : x.1 = k := by simpa using ek
      have := h.at_ x hx
      rw [ek', e] at this; cases this
theorem comm_wr (s : XS) (t : XT) (left : Value → Bool) (nv nm : Nat) (ws : List (ByteArray × ByteArray × Bool)) (h : WsOf t.wr ws) : comm s ⟨0, wrL ws, 0⟩ left nv nm = comm s t left nv nm := by
  simp only [comm, h.eq]

/-- The log behind a commit. -/
def LogC (s : XS) (wr : ByteArray → Option (ByteArray × Bool)) (l : XL) : Prop := ∃ ws, WsOf wr ws ∧ ws.length ≤ 10 ∧ l.lg = s.log.lg ++ [bodyC (s.now + 1).toNat ws] ∧ l.sy = s.log.sy

theorem bytesOf_snoc (lg : List (List UInt8)) (b : List UInt8) : bytesOf (filesB lg) ≤ bytesOf (filesB (lg ++ [b])) := by
  rw [filesB_snoc, bytesOf_addF _ _ _ (fun h => filesB_ne h)]; omega

section
variable {own own' : Nat → Lab} {c : Nat} {w w' : World} {p : Nat} {s : XS} {mo ph mv mm : Nat} {pt mw : Int → Nat} {sl : ByteArray → Value}

theorem gone_opn' (txs : Int → Option XT) (tx : Int) (pt : Int → Nat) : IsDel (encI fun n => (txs n).map fun _ => Value.pointer (some ⟨pt n, 0, none⟩)) (.int .i64 tx) (encI fun n => ((updI txs tx none) n).map fun _ => Value.pointer (some ⟨pt n, 0, none⟩)) := by
  rw [map_updI]; exact del_encI _ _

variable {R : Ending → World → Prop}

theorem record_int (pt mw n : Nat) (wrf : ByteArray → Option (ByteArray × Bool)) (t : Int) (w : World) (c1 : w.cell? ⟨pt, 1, none⟩ = some (.map (some mw))) (hmap : fmap w Tryz.prog 9 mw n (encS fun k => (wrf k).map encVer)) (hn : n ≤ 10) (hpos : 0 < n) (hsz : ∀ k, (wrf k).isSome = true → k.size ≤ 8) (ht : 0 ≤ t ∧ t ≤ 100000)
    (hR : ∀ w' wv ws, Kp (fun _ => False) w w' → wv.oneCell' = true → RdW w' wv ws → WsOf wrf ws → ws.length = n → (∀ b, wv.ownBlock = some b → w.heap.size ≤ b) →
      R (.returned (.agg #[.int .u8 67, .int .i64 t, wv])) w') :
    Calls Tryz.prog 72 #[.pointer (some ⟨pt, 0, none⟩), .int .i64 t] w R := by
  obtain ⟨m, rfl⟩ : ∃ m : Nat, t = m := ⟨t.toNat, by omega⟩
  exact record_any pt mw n wrf m w c1 hmap hn hpos hsz (by omega) (fun w' wv ws h1 h2 h3 h4 h5 h6 h7 h8 => hR w' wv ws h1 h2 h3 ⟨h4, h5, h6⟩ h7 h8)

theorem x_do_int (h : XR own c w p s mo ph mv mm pt mw sl) (hT : Tab w) (hN : TabN own c) (rv : Value) (ws : List (ByteArray × ByteArray × Bool)) (h1c : rv.oneCell' = true) (hrd : RdW w rv ws) (hne : ws ≠ []) (hnd : (ws.map Prod.fst).Nodup) (hn : ws.length ≤ 10) (hsz : ∀ x ∈ ws, x.1.size ≤ 8 ∧ x.2.1.size ≤ 20) (hrv : ∀ b, rv.ownBlock = some b → (own b).c ≠ c)
    (hl : s.log.lg.length ≤ 4999) (hbs : ∀ b ∈ s.log.lg, b.length ≤ 400) (hnow : 0 ≤ s.now ∧ s.now < 2000) (hmom : ∀ k, (s.mom k).length < 1000000) (hnv : s.nv + 10 < 1000000) (hnm : s.nm + 10 < 1000000)
    (hR : ∀ w' own' sl' l' nv' nm', Kp (fun b => (own b).c = c) w w' → (∀ b, b < w.heap.size → own' b = own b) → l'.lg = s.log.lg ++ [bodyC (s.now + 1).toNat ws] → l'.sy = s.log.sy → nv' ≤ s.nv + ws.length → nm' ≤ s.nm + ws.length →
      XR own' c w' p (comm { s with log := l' } ⟨0, wrL ws, 0⟩ (fun _ => false) nv' nm') mo ph mv mm pt mw sl' → R (.returned (.tuple #[])) w') :
    Calls Tryz.prog 46 #[.pointer (some ⟨p, 0, none⟩), .agg #[.int .u8 67, .int .i64 (s.now + 1), rv]] w R := by
  have e : ((s.now + 1).toNat : Int) = s.now + 1 := by omega
  have := x_do_commit (R := R) h hT hN rv ws h1c hrd hne hnd hn hsz hrv hl hbs hnow hmom hnv hnm (s.now + 1).toNat e hR
  rw [e] at this
  exact this

set_option maxRecDepth 20000 in
set_option maxHeartbeats 2000000 in
theorem x_commit_good (h : XR own c w p s mo ph mv mm pt mw sl) (hT : Tab w) (hN : TabN own c) (tx : Int) (hwx : (Lit.int .i64 tx).wf = true) (t : XT) (e : s.txs tx = some t) (hnw : 0 < t.nw) (hnw2 : t.nw ≤ 10) (hkeys : ∀ k, (t.wr k).isSome = true → k.size ≤ 8) (hvals : ∀ k v, t.wr k = some v → v.1.size ≤ 20) (hmom : ∀ k, (s.mom k).length < 1000000) (hov : ¬ overt s t) (hnow : 0 ≤ s.now ∧ s.now < 2000)
    (hnv : s.nv + 10 < 1000000) (hnm : s.nm + 10 < 1000000) (hl : s.log.lg.length ≤ 4999) (hbs : ∀ b ∈ s.log.lg, b.length ≤ 400)
    (hR : ∀ w' own' sl' nv' nm' l' ws, Kp (fun b => (own b).c = c) w w' → (∀ b, b < w.heap.size → own' b = own b) → nv' ≤ s.nv + t.nw → nm' ≤ s.nm + t.nw → WsOf t.wr ws → ws.length = t.nw → l'.lg = s.log.lg ++ [bodyC (s.now + 1).toNat ws] → l'.sy = s.log.sy →
      XR own' c w' p { comm { s with log := l' } t (fun _ => false) nv' nm' with txs := updI s.txs tx none, nopen := s.nopen - 1 } mo ph mv mm pt mw sl' → R (.returned (.tuple #[.int .i64 (s.now + 1), .int .i64 0])) w') :
    Calls Tryz.prog 36 #[.pointer (some ⟨p, 0, none⟩), .int .i64 tx] w R := by
  have hkey : Hid _ := keyOf_int_mk Tryz.underlying3 hwx
  have c2 : w.cell? ⟨p, 7, none⟩ = some (.map (some mo)) := cell_of h.store 7
  have d1 : w.cell? ⟨pt tx, 1, none⟩ = some (.map (some (mw tx))) := cell_of (h.tx tx t e) 1
  have hw := h.wr tx t e
  have hf : (encI fun n => (s.txs n).map fun _ => Value.pointer (some ⟨pt n, 0, none⟩)) (.int .i64 tx) = some (.pointer (some ⟨pt tx, 0, none⟩)) := by rw [encI_at, e]; rfl
  have H : Hid (XR own c w p s mo ph mv mm pt mw sl) := h
  have hopn := h.opn
  have HR : Hid _ := hR
  have HT := hid_of hT
  have HN := hid_of hN
  have HL := hid_of hl
  have HBS := hid_of hbs
  have HPOS := hid_of hnw
  have HNW2 := hid_of hnw2
  have HKEYS := hid_of hkeys
  have HVALS := hid_of hvals
  have HMOM := hid_of hmom
  have HOV := hid_of hov
  have hn : (t.nw : Int) ≠ 0 := by omega
  have hn' : ((t.nw : Int) == 0) = false := by simpa using hn
  have hlt2 : s.now < 2000 := hnow.2
  have hge0 : 0 ≤ s.now := hnow.1
  have HNOW := hid_of hnow
  have HV : Hid (s.nv + 10 < 1000000 ∧ s.nm + 10 < 1000000) := ⟨hnv, hnm⟩
  clear h hR hnw hn hnow hnv hnm hT hN hl hbs hnw2 hkeys hvals hmom hov
  go_enter Tryz.func36, Tryz.ntmps36
  go_wp2_with (first
    | (at_lookup; refine wpL_lookup_ok _ rfl _ _ 99 rfl 3 129 kInt Tryz.underlying99 (zTxP _) mo s.nopen _ rfl hopn (.int .i64 tx) _ rfl hkey.out _ hf ?_)
    | (at_len; refine wpL_len _ rfl _ 130 rfl 9 138 Tryz.underlying130 (mw tx) t.nw _ rfl hw ?_)
    | (go_at_call 71; refine x_overtaken H.out tx t e HKEYS.out HMOM.out (fun _ w1 hk1 => ?_) (fun ho => absurd ho HOV.out); have HK1 := hid_of hk1; have H1 : Hid (XR own c w1 p s mo ph mv mm pt mw sl) := H.out.kept hk1; have c0' : w1.cell? ⟨p, 2, none⟩ = some (.int .i64 s.now) := cell_of H1.out.store 2; clear hk1)
    | (go_at_call 72; refine record_int (pt tx) (mw tx) t.nw t.wr (s.now + 1) _ (cell_of (H1.out.tx tx t e) 1) (H1.out.wr tx t e) HNW2.out HPOS.out HKEYS.out (by have := HNOW.out; omega) ?_; intro w2 wv ws hk2 h1c hrd hws hlen hown2; have HK2 := hid_of hk2; have HWS := hid_of hws; have HRD := hid_of hrd; have H1C := hid_of h1c; have HLEN := hid_of hlen; have HO2 := hid_of hown2; clear hk2 h1c hrd hws hlen hown2)
    | (go_at_call 46; refine x_do_int (H1.out.outer HK2.out) ((HT.out.kept HK1.out).kept HK2.out) (HN.out.outer (HT.out.kept HK1.out)) wv ws H1C.out HRD.out (fun e => by have h1 := HLEN.out; have h2 := HPOS.out; rw [e] at h1; simp at h1; omega) HWS.out.nodup (by have := HLEN.out; have := HNW2.out; omega) (fun x hx => ⟨HKEYS.out x.1 (by rw [HWS.out.at_ x hx]; rfl), HVALS.out x.1 x.2 (HWS.out.at_ x hx)⟩) (fun b eb => outer_new (HO2.out b eb)) HL.out HBS.out HNOW.out HMOM.out HV.out.1 HV.out.2 ?_; intro w3 own3 sl3 l3 nv3 nm3 hk3 ho3 hl3 hs3 hnv3 hnm3 hx3; rw [comm_wr _ t _ _ _ ws HWS.out] at hx3; have HX3 := hid_of hx3; have HK3 := hid_of hk3; have HO3 := hid_of ho3; have HL3 := hid_of hl3; have HS3 := hid_of hs3; have HNV3 := hid_of hnv3; have HNM3 := hid_of hnm3; have hopn3 := hx3.opn; have c23 : w3.cell? ⟨p, 7, none⟩ = some (.map (some mo)) := cell_of hx3.store 7; have c03 : w3.cell? ⟨p, 2, none⟩ = some (.int .i64 (s.now + 1)) := cell_of hx3.store 2; have nPO : p ≠ mo := lab_ne (own := own3) (by rw [hx3.ownP, hx3.ownO]; simp); have hg3 : Hid _ := gone_opn' s.txs tx pt; clear hx3 hk3 ho3 hl3 hs3 hnv3 hnm3)
    | (at_delete; refine wpL_delete _ rfl _ _ 99 3 rfl 129 kInt Tryz.underlying99 mo s.nopen _ rfl hopn3 (.int .i64 tx) _ rfl hkey.out hg3.out ?_; intro w4 hown4 hturn4; have c04 : w4.cell? ⟨p, 2, none⟩ = some (.int .i64 (s.now + 1)) := (World.cell?_of_block (w := w3) (mapTurned_block hturn4 _ nPO)).trans c03)
    | go_in)
  have hf3 : (encI fun n => (s.txs n).map fun _ => Value.pointer (some ⟨pt n, 0, none⟩)) (.int .i64 tx) = some (.pointer (some ⟨pt tx, 0, none⟩)) := hf
  have hown5 : fmap w4 Tryz.prog 3 mo (s.nopen - 1) (encI fun n => ((updI s.txs tx none) n).map fun _ => Value.pointer (some ⟨pt n, 0, none⟩)) := by
    have h5 := hown4
    rw [show (comm { s with log := l3 } t (fun _ => false) nv3 nm3).txs = s.txs from rfl] at h5
    rw [hf3] at h5
    exact h5
  have hfin := HX3.out.reopen (fun b hb => mapTurned_block hturn4 b hb) (updI s.txs tx none) (s.nopen - 1) hown5 sub_upd
  refine HR.out w4 own3 sl3 nv3 nm3 l3 ws ?_ (fun b hb => ?_) (by have := HNV3.out; have := HLEN.out; omega) (by have := HNM3.out; have := HLEN.out; omega) HWS.out HLEN.out HL3.out HS3.out hfin
  · refine ((((HK1.out.own_of (fun _ h => h.elim)).trans HK2.out (fun _ _ h => h.elim)).trans HK3.out (fun b hb e => ?_)).trans (Kp.of_turned (S := fun b => b = mo) hturn4 rfl) (fun b hb hbo => by rw [hbo, H.out.ownO]))
    rw [outer_old (Nat.lt_of_lt_of_le hb HK1.out.size)] at e
    exact e
  · rw [HO3.out b (Nat.lt_of_lt_of_le (Nat.lt_of_lt_of_le hb HK1.out.size) HK2.out.size), outer_old (Nat.lt_of_lt_of_le hb HK1.out.size)]

end

end Go.Proofs.YthbdpfccfcceiaaGreatDoor
