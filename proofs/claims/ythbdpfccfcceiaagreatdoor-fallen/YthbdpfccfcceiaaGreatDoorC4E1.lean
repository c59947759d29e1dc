/-
  Commit of a store: what the transaction wrote is taken in, and written to the log.
  What holds of a store's plain state, and that every call keeps it.
-/
import Derived.Test.YthbdpfccfcceiaaGreatDoorZ1Z2F19C3
import Derived.Test.YthbdpfccfcceiaaGreatDoorJ4J5
import Derived.Test.YthbdpfccfcceiaaGreatDoorL1L2
namespace Go.Proofs.YthbdpfccfcceiaaGreatDoor
open Go.RowKit Go.Maps

/-- A list of writes is all that a transaction wrote, by keys. -/
structure WsOf (wr : ByteArray → Option (ByteArray × Bool)) (ws : List (ByteArray × ByteArray × Bool)) : Prop where
  up : (ws.map Prod.fst).Pairwise blt
  at_ : ∀ x ∈ ws, wr x.1 = some x.2
  all : ∀ k, (wr k).isSome = true → k ∈ ws.map Prod.fst

theorem WsOf.nodup {wr : ByteArray → Option (ByteArray × Bool)} {ws : List (ByteArray × ByteArray × Bool)} (h : WsOf wr ws) : (ws.map Prod.fst).Nodup := by
  unfold List.Nodup
  exact h.up.imp (fun {a b} hab (e : a = b) => blt_irrefl a (by rw [← e] at hab; exact hab))
theorem WsOf.eq {wr : ByteArray → Option (ByteArray × Bool)} {ws : List (ByteArray × ByteArray × Bool)} (h : WsOf wr ws) : wrL ws = wr := by
  funext k
  cases e : wr k with
  | some v =>
    obtain ⟨x, hx, rfl⟩ := List.mem_map.1 (h.all k (by rw [e]; rfl))
    rw [wrL_at ws h.nodup x hx, ← h.at_ x hx, e]
  | none =>
    cases e2 : wrL ws k with
    | none => rfl
    | some v =>
      have h1 : (wrL ws k).isSome = true := by rw [e2]; rfl
      rw [wrL_some, List.any_eq_true] at h1
      obtain ⟨x, hx, ek⟩ := h1
      have ek' : x.1 = k := by simpa using ek
      have := h.at_ x hx
      rw [ek', e] at this; cases this
theorem comm_wr (s : XS) (t : XT) (left : Value → Bool) (nv nm : Nat) (ws : List (ByteArray × ByteArray × Bool)) (h : WsOf t.wr ws) : comm s ⟨0, wrL ws, 0⟩ left nv nm = comm s t left nv nm := by
  simp only [comm, h.eq]

/-- The log behind a commit. -/
def LogC (s : XS) (wr : ByteArray → Option (ByteArray × Bool)) (l : XL) : Prop := ∃ ws, WsOf wr ws ∧ ws.length ≤ 10 ∧ l.lg = s.log.lg ++ [bodyC (s.now + 1).toNat ws] ∧ l.sy = s.log.sy

theorem bytesOf_snoc (lg : List (List UInt8)) (b : List UInt8) : bytesOf (filesB lg) ≤ bytesOf (filesB (lg ++ [b])) := by
  rw [filesB_snoc, bytesOf_addF _ _ _ (fun h => filesB_ne h)]; omega

section
variable {own own' : Nat → Lab} {c : Nat} {w w' : World} {p : Nat} {s : XS} {mo ph mv mm : Nat} {pt mw : Int → Nat} {sl : ByteArray → Value}

theorem gone_opn' (txs : Int → Option XT) (tx : Int) (pt : Int → Nat) : IsDel (encI fun n => (txs n).map fun _ => Value.pointer (some ⟨pt n, 0, none⟩)) (.int .i64 tx) (encI fun n => ((updI txs tx none) n).map fun _ => Value.pointer (some ⟨pt n, 0, none⟩)) := by
  rw [map_updI]; exact del_encI _ _

variable {R : Ending → World → Prop}

theorem record_int (pt mw n : Nat) (wrf : ByteArray → Option (ByteArray × Bool)) (t : Int) (w : World) (c1 : w.cell? ⟨pt, 1, none⟩ = some (.map (some mw))) (hmap : fmap w Tryz.prog 9 mw n (encS fun k => (wrf k).map encVer)) (hn : n ≤ 10) (hpos : 0 < n) (hsz : ∀ k, (wrf k).isSome = true → k.size ≤ 8) (ht : 0 ≤ t ∧ t ≤ 100000)
    (hR : ∀ w' wv ws, Kp (fun _ => False) w w' → wv.oneCell' = true → RdW w' wv ws → WsOf wrf ws → ws.length = n → (∀ b, wv.ownBlock = some b → w.heap.size ≤ b) →
      R (.returned (.agg #[.int .u8 67, .int .i64 t, wv])) w') :
    Calls Tryz.prog 72 #[.pointer (some ⟨pt, 0, none⟩), .int .i64 t] w R := by
  obtain ⟨m, rfl⟩ : ∃ m : Nat, t = m := ⟨t.toNat, by omega⟩
  exact record_any pt mw n wrf m w c1 hmap hn hpos hsz (by omega) (fun w' wv ws h1 h2 h3 h4 h5 h6 h7 h8 => hR w' wv ws h1 h2 h3 ⟨h4, h5, h6⟩ h7 h8)

theorem x_do_int (h : XR own c w p s mo ph mv mm pt mw sl) (hT : Tab w) (hN : TabN own c) (rv : Value) (ws : List (ByteArray × ByteArray × Bool)) (h1c : rv.oneCell' = true) (hrd : RdW w rv ws) (hne : ws ≠ []) (hnd : (ws.map Prod.fst).Nodup) (hn : ws.length ≤ 10) (hsz : ∀ x ∈ ws, x.1.size ≤ 8 ∧ x.2.1.size ≤ 20) (hrv : ∀ b, rv.ownBlock = some b → (own b).c ≠ c)
    (hl : s.log.lg.length ≤ 4999) (hbs : ∀ b ∈ s.log.lg, b.length ≤ 400) (hnow : 0 ≤ s.now ∧ s.now < 2000) (hmom : ∀ k, (s.mom k).length < 1000000) (hnv : s.nv + 10 < 1000000) (hnm : s.nm + 10 < 1000000)
    (hR : ∀ w' own' sl' l' nv' nm', Kp (fun b => (own b).c = c) w w' → (∀ b, b < w.heap.size → own' b = own b) → l'.lg = s.log.lg ++ [bodyC (s.now + 1).toNat ws] → l'.sy = s.log.sy → nv' ≤ s.nv + ws.length → nm' ≤ s.nm + ws.length →
      XR own' c w' p (comm { s with log := l' } ⟨0, wrL ws, 0⟩ (fun _ => false) nv' nm') mo ph mv mm pt mw sl' → R (.returned (.tuple #[])) w') :
    Calls Tryz.prog 46 #[.pointer (some ⟨p, 0, none⟩), .agg #[.int .u8 67, .int .i64 (s.now + 1), rv]] w R := by
  have e : ((s.now + 1).toNat : Int) = s.now + 1 := by omega
  have := x_do_commit (R := R) h hT hN rv ws h1c hrd hne hnd hn hsz hrv hl hbs hnow hmom hnv hnm (s.now + 1).toNat e hR
  rw [e] at this
  exact this

set_option maxRecDepth 20000 in
set_option maxHeartbeats 2000000 in
theorem x_commit_good (h : XR own c w p s mo ph mv mm pt mw sl) (hT : Tab w) (hN : TabN own c) (tx : Int) (hwx : (Lit.int .i64 tx).wf = true) (t : XT) (e : s.txs tx = some t) (hnw : 0 < t.nw) (hnw2 : t.nw ≤ 10) (hkeys : ∀ k, (t.wr k).isSome = true → k.size ≤ 8) (hvals : ∀ k v, t.wr k = some v → v.1.size ≤ 20) (hmom : ∀ k, (s.mom k).length < 1000000) (hov : ¬ overt s t) (hnow : 0 ≤ s.now ∧ s.now < 2000)
    (hnv : s.nv + 10 < 1000000) (hnm : s.nm + 10 < 1000000) (hl : s.log.lg.length ≤ 4999) (hbs : ∀ b ∈ s.log.lg, b.length ≤ 400)
    (hR : ∀ w' own' sl' nv' nm' l' ws, Kp (fun b => (own b).c = c) w w' → (∀ b, b < w.heap.size → own' b = own b) → nv' ≤ s.nv + t.nw → nm' ≤ s.nm + t.nw → WsOf t.wr ws → ws.length = t.nw → l'.lg = s.log.lg ++ [bodyC (s.now + 1).toNat ws] → l'.sy = s.log.sy →
      XR own' c w' p { comm { s with log := l' } t (fun _ => false) nv' nm' with txs := updI s.txs tx none, nopen := s.nopen - 1 } mo ph mv mm pt mw sl' → R (.returned (.tuple #[.int .i64 (s.now + 1), .int .i64 0])) w') :
    Calls Tryz.prog 36 #[.pointer (some ⟨p, 0, none⟩), .int .i64 tx] w R := by
  have hkey : Hid _ := keyOf_int_mk Tryz.underlying3 hwx
  have c2 : w.cell? ⟨p, 7, none⟩ = some (.map (some mo)) := cell_of h.store 7
  have d1 : w.cell? ⟨pt tx, 1, none⟩ = some (.map (some (mw tx))) := cell_of (h.tx tx t e) 1
  have hw := h.wr tx t e
  have hf : (encI fun n => (s.txs n).map fun _ => Value.pointer (some ⟨pt n, 0, none⟩)) (.int .i64 tx) = some (.pointer (some ⟨pt tx, 0, none⟩)) := by rw [encI_at, e]; rfl
  have H : Hid (XR own c w p s mo ph mv mm pt mw sl) := h
  have hopn := h.opn
  have HR : Hid _ := hR
  have HT := hid_of hT
  have HN := hid_of hN
  have HL := hid_of hl
  have HBS := hid_of hbs
  have HPOS := hid_of hnw
  have HNW2 := hid_of hnw2
  have HKEYS := hid_of hkeys
  have HVALS := hid_of hvals
  have HMOM := hid_of hmom
  have HOV := hid_of hov
  have hn : (t.nw : Int) ≠ 0 := by omega
  have hn' : ((t.nw : Int) == 0) = false := by simpa using hn
  have hlt2 : s.now < 2000 := hnow.2
  have hge0 : 0 ≤ s.now := hnow.1
  have HNOW := hid_of hnow
  have HV : Hid (s.nv + 10 < 1000000 ∧ s.nm + 10 < 1000000) := ⟨hnv, hnm⟩
  clear h hR hnw hn hnow hnv hnm hT hN hl hbs hnw2 hkeys hvals hmom hov
  go_enter Tryz.func36, Tryz.ntmps36
  go_wp2_with (first
    | (at_lookup; refine wpL_lookup_ok _ rfl _ _ 99 rfl 3 129 kInt Tryz.underlying99 (zTxP _) mo s.nopen _ rfl hopn (.int .i64 tx) _ rfl hkey.out _ hf ?_)
    | (at_len; refine wpL_len _ rfl _ 130 rfl 9 138 Tryz.underlying130 (mw tx) t.nw _ rfl hw ?_)
    | (go_at_call 71; refine x_overtaken H.out tx t e HKEYS.out HMOM.out (fun _ w1 hk1 => ?_) (fun ho => absurd ho HOV.out); have HK1 := hid_of hk1; have H1 : Hid (XR own c w1 p s mo ph mv mm pt mw sl) := H.out.kept hk1; have c0' : w1.cell? ⟨p, 2, none⟩ = some (.int .i64 s.now) := cell_of H1.out.store 2; clear hk1)
    | (go_at_call 72; refine record_int (pt tx) (mw tx) t.nw t.wr (s.now + 1) _ (cell_of (H1.out.tx tx t e) 1) (H1.out.wr tx t e) HNW2.out HPOS.out HKEYS.out (by have := HNOW.out; omega) ?_; intro w2 wv ws hk2 h1c hrd hws hlen hown2; have HK2 := hid_of hk2; have HWS := hid_of hws; have HRD := hid_of hrd; have H1C := hid_of h1c; have HLEN := hid_of hlen; have HO2 := hid_of hown2; clear hk2 h1c hrd hws hlen hown2)
    | (go_at_call 46; refine x_do_int (H1.out.outer HK2.out) ((HT.out.kept HK1.out).kept HK2.out) (HN.out.outer (HT.out.kept HK1.out)) wv ws H1C.out HRD.out (fun e => by have h1 := HLEN.out; have h2 := HPOS.out; rw [e] at h1; simp at h1; omega) HWS.out.nodup (by have := HLEN.out; have := HNW2.out; omega) (fun x hx => ⟨HKEYS.out x.1 (by rw [HWS.out.at_ x hx]; rfl), HVALS.out x.1 x.2 (HWS.out.at_ x hx)⟩) (fun b eb => outer_new (HO2.out b eb)) HL.out HBS.out HNOW.out HMOM.out HV.out.1 HV.out.2 ?_; intro w3 own3 sl3 l3 nv3 nm3 hk3 ho3 hl3 hs3 hnv3 hnm3 hx3; rw [comm_wr _ t _ _ _ ws HWS.out] at hx3; have HX3 := hid_of hx3; have HK3 := hid_of hk3; have HO3 := hid_of ho3; have HL3 := hid_of hl3; have HS3 := hid_of hs3; have HNV3 := hid_of hnv3; have HNM3 := hid_of hnm3; have hopn3 := hx3.opn; have c23 : w3.cell? ⟨p, 7, none⟩ = some (.map (some mo)) := cell_of hx3.store 7; have c03 : w3.cell? ⟨p, 2, none⟩ = some (.int .i64 (s.now + 1)) := cell_of hx3.store 2; have nPO : p ≠ mo := lab_ne (own := own3) (by rw [hx3.ownP, hx3.ownO]; simp); have hg3 : Hid _ := gone_opn' s.txs tx pt; clear hx3 hk3 ho3 hl3 hs3 hnv3 hnm3)
    | (at_delete; refine wpL_delete _ rfl _ _ 99 3 rfl 129 kInt Tryz.underlying99 mo s.nopen _ rfl hopn3 (.int .i64 tx) _ rfl hkey.out hg3.out ?_; intro w4 hown4 hturn4; have c04 : w4.cell? ⟨p, 2, none⟩ = some (.int .i64 (s.now + 1)) := (World.cell?_of_block (w := w3) (mapTurned_block hturn4 _ nPO)).trans c03)
    | go_in)
  have hf3 : (encI fun n => (s.txs n).map fun _ => Value.pointer (some ⟨pt n, 0, none⟩)) (.int .i64 tx) = some (.pointer (some ⟨pt tx, 0, none⟩)) := hf
  have hown5 : fmap w4 Tryz.prog 3 mo (s.nopen - 1) (encI fun n => ((updI s.txs tx none) n).map fun _ => Value.pointer (some ⟨pt n, 0, none⟩)) := by
    have h5 := hown4
    rw [show (comm { s with log := l3 } t (fun _ => false) nv3 nm3).txs = s.txs from rfl] at h5
    rw [hf3] at h5
    exact h5
  have hfin := HX3.out.reopen (fun b hb => mapTurned_block hturn4 b hb) (updI s.txs tx none) (s.nopen - 1) hown5 sub_upd
  refine HR.out w4 own3 sl3 nv3 nm3 l3 ws ?_ (fun b hb => ?_) (by have := HNV3.out; have := HLEN.out; omega) (by have := HNM3.out; have := HLEN.out; omega) HWS.out HLEN.out HL3.out HS3.out hfin
  · refine ((((HK1.out.own_of (fun _ h => h.elim)).trans HK2.out (fun _ _ h => h.elim)).trans HK3.out (fun b hb e => ?_)).trans (Kp.of_turned (S := fun b => b = mo) hturn4 rfl) (fun b hb hbo => by rw [hbo, H.out.ownO]))
    rw [outer_old (Nat.lt_of_lt_of_le hb HK1.out.size)] at e
    exact e
  · rw [HO3.out b (Nat.lt_of_lt_of_le (Nat.lt_of_lt_of_le hb HK1.out.size) HK2.out.size), outer_old (Nat.lt_of_lt_of_le hb HK1.out.size)]

end

end Go.Proofs.YthbdpfccfcceiaaGreatDoor

namespace Go.Proofs.YthbdpfccfcceiaaGreatDoor
open Go.RowKit

structure TOk (s : XS) (n : Int) (t : XT) : Prop where
  num : 1 ≤ n ∧ n ≤ s.begun
  sees : s.hor ≤ t.sees ∧ t.sees ≤ s.now
  nw : t.nw ≤ 10
  keys : ∀ k, (t.wr k).isSome = true → isKey k = true
  pos : ∀ k, (t.wr k).isSome = true → 0 < t.nw
  vals : ∀ k v, t.wr k = some v → v.1.size ≤ 20

structure XOk (s : XS) : Prop where
  now : 0 ≤ s.now ∧ s.now ≤ 2000
  hor : 0 ≤ s.hor ∧ s.hor ≤ s.now
  begun : 0 ≤ s.begun
  up : ∀ k, (s.mom k).Pairwise (· < ·)
  mom : ∀ k m, m ∈ s.mom k → 1 ≤ m ∧ m ≤ s.now
  ver : ∀ k m, (s.ver k m).isSome = true ↔ m ∈ s.mom k
  key : ∀ k, s.mom k ≠ [] → isKey k = true
  tx : ∀ n t, s.txs n = some t → TOk s n t
  nm : (s.nm : Int) ≤ 10 * s.now
  nv : (s.nv : Int) ≤ 10 * s.now
  lgl : (s.log.lg.length : Int) ≤ s.now + s.hor
  lgb : ∀ b ∈ s.log.lg, b.length ≤ 400
  sy : s.log.sy ≤ bytesOf (filesB s.log.lg)

theorem len_le : ∀ {l : List Int} {a b : Int}, l.Pairwise (· < ·) → (∀ m ∈ l, a < m ∧ m ≤ b) → (l.length : Int) ≤ (b - a).toNat
  | [], _, _, _, _ => by simp only [List.length_nil]; omega
  | x :: r, a, b, h, hm => by
    obtain ⟨h1, h2⟩ := List.pairwise_cons.1 h
    have hx := hm x (by simp)
    have := len_le (a := x) (b := b) h2 (fun m hr => ⟨h1 m hr, (hm m (List.mem_cons_of_mem _ hr)).2⟩)
    rw [List.length_cons]
    omega

theorem wfI {a : Int} (h : -9223372036854775808 ≤ a ∧ a ≤ 9223372036854775807) : (Lit.int .i64 a).wf = true := by
  have e0 : IntKind.i64.min = -9223372036854775808 := rfl
  simp [Lit.wf]
  omega

section
variable {s : XS}

theorem XOk.len (h : XOk s) (k : ByteArray) : (s.mom k).length ≤ 2000 := by
  have h1 := len_le (a := 0) (b := s.now) (h.up k) (fun m hm => by have := h.mom k m hm; omega)
  have := h.now
  omega

theorem XOk.momOk (h : XOk s) (k : ByteArray) : MomOk s k := by
  have h1 := h.len k
  have hn := h.now
  exact ⟨by omega, h.up k, fun m hm => ⟨wfI (by have := h.mom k m hm; omega), (h.ver k m).2 hm⟩⟩

theorem XOk.keysW (h : XOk s) {n : Int} {t : XT} (e : s.txs n = some t) : ∀ k, (t.wr k).isSome = true → k.size ≤ 8 := fun k hk => isKey_le k ((h.tx n t e).keys k hk)
theorem XOk.keysM (h : XOk s) : ∀ k, s.mom k ≠ [] → k.size ≤ 8 := fun k hk => isKey_le k (h.key k hk)

theorem XOk.newTx (h : XOk s) : s.txs (s.begun + 1) = none := by
  cases e : s.txs (s.begun + 1) with
  | none => rfl
  | some t => have := (h.tx _ _ e).num; omega

theorem XOk.begin (h : XOk s) (n : Nat) : XOk { s with begun := s.begun + 1, txs := updI s.txs (s.begun + 1) (some ⟨s.now, fun _ => none, 0⟩), nopen := n } := by
  have hb := h.begun
  have hh := h.hor
  refine ⟨h.now, h.hor, by show 0 ≤ s.begun + 1; omega, h.up, h.mom, h.ver, h.key, fun n t e => ?_, h.nm, h.nv, h.lgl, h.lgb, h.sy⟩
  by_cases en : n = s.begun + 1
  · subst en
    simp only [updI_same, Option.some.injEq] at e
    subst e
    exact ⟨⟨by omega, Int.le_refl _⟩, ⟨hh.2, Int.le_refl _⟩, by simp, fun k hk => (by cases hk), fun k hk => (by cases hk), fun k v hk => (by cases hk)⟩
  · simp only [updI_other _ en] at e
    have := h.tx n t e
    exact ⟨⟨this.num.1, by show n ≤ s.begun + 1; have := this.num; omega⟩, this.sees, this.nw, this.keys, this.pos, this.vals⟩

theorem XOk.write (h : XOk s) {tx : Int} {t t' : XT} (e : s.txs tx = some t) {key : ByteArray} {v : ByteArray × Bool} (hk : isKey key = true) (hv : v.1.size ≤ 20) (hw : wrote t key v = some t') : XOk { s with txs := updI s.txs tx (some t') } := by
  have ht := h.tx tx t e
  refine ⟨h.now, h.hor, h.begun, h.up, h.mom, h.ver, h.key, fun n t1 e1 => ?_, h.nm, h.nv, h.lgl, h.lgb, h.sy⟩
  by_cases en : n = tx
  · subst en
    simp only [updI_same, Option.some.injEq] at e1
    subst e1
    have hkeys : ∀ k, ((updS t.wr key (some v)) k).isSome = true → isKey k = true := fun k hk' => by
      by_cases ek : k = key
      · subst ek; exact hk
      · rw [updS_other _ ek] at hk'; exact ht.keys k hk'
    have hvals : ∀ k u, (updS t.wr key (some v)) k = some u → u.1.size ≤ 20 := fun k u hu => by
      by_cases ek : k = key
      · subst ek; rw [updS_same] at hu; cases hu; exact hv
      · rw [updS_other _ ek] at hu; exact ht.vals k u hu
    unfold wrote at hw
    split at hw
    · rename_i h1
      cases hw
      exact ⟨ht.num, ht.sees, ht.nw, hkeys, fun k _ => ht.pos key h1, hvals⟩
    · split at hw
      · cases hw
        exact ⟨ht.num, ht.sees, by show t.nw + 1 ≤ 10; omega, hkeys, fun k _ => by show 0 < t.nw + 1; omega, hvals⟩
      · cases hw
  · simp only [updI_other _ en] at e1
    have := h.tx n t1 e1
    exact ⟨this.num, this.sees, this.nw, this.keys, this.pos, this.vals⟩

theorem XOk.close (h : XOk s) (tx : Int) (n : Nat) : XOk { s with txs := updI s.txs tx none, nopen := n } := by
  refine ⟨h.now, h.hor, h.begun, h.up, h.mom, h.ver, h.key, fun n t1 e1 => ?_, h.nm, h.nv, h.lgl, h.lgb, h.sy⟩
  by_cases en : n = tx
  · subst en
    simp only [updI_same] at e1
    cases e1
  · simp only [updI_other _ en] at e1
    have := h.tx n t1 e1
    exact ⟨this.num, this.sees, this.nw, this.keys, this.pos, this.vals⟩

/-- A store behind a commit. -/
def commd (s : XS) (wr : ByteArray → Option (ByteArray × Bool)) (txs : Int → Option XT) (nopen nv nm : Nat) : XS :=
  { s with now := s.now + 1, mom := fun k => if (wr k).isSome = true then s.mom k ++ [s.now + 1] else s.mom k, ver := fun k m => if m = s.now + 1 ∧ (wr k).isSome = true then wr k else s.ver k m, txs := txs, nopen := nopen, nv := nv, nm := nm }

theorem comm_eq (s : XS) (t : XT) (nv nm : Nat) (txs : Int → Option XT) (n : Nat) : { comm s t (fun _ => false) nv nm with txs := txs, nopen := n } = commd s t.wr txs n nv nm := by
  simp [comm, commd]

theorem XOk.commit (h : XOk s) {tx : Int} {t : XT} (e : s.txs tx = some t) (hn : s.now < 2000) {nv nm : Nat} (hnv : nv ≤ s.nv + t.nw) (hnm : nm ≤ s.nm + t.nw) (n : Nat) {l : XL} (hl : LogC s t.wr l) : XOk (commd { s with log := l } t.wr (updI s.txs tx none) n nv nm) := by
  obtain ⟨ws, hws, hw10, hlg, hsy⟩ := hl
  have ht := h.tx tx t e
  have hnow := h.now
  have hhor := h.hor
  have hnw := ht.nw
  refine ⟨⟨by show 0 ≤ s.now + 1; omega, by show s.now + 1 ≤ 2000; omega⟩, ⟨hhor.1, by show s.hor ≤ s.now + 1; omega⟩, h.begun, fun k => ?_, fun k m hm => ?_, fun k m => ?_, fun k hk => ?_, fun n t1 e1 => ?_, ?_, ?_, ?_, ?_, ?_⟩
  · simp only [commd]
    split
    · rw [List.pairwise_append]
      exact ⟨h.up k, by simp, fun a ha b hb => by simp at hb; have := h.mom k a ha; omega⟩
    · exact h.up k
  · simp only [commd] at hm ⊢
    split at hm
    · rcases List.mem_append.1 hm with h1 | h1
      · have := h.mom k m h1; omega
      · simp at h1; omega
    · have := h.mom k m hm; omega
  · simp only [commd]
    by_cases hw : (t.wr k).isSome = true
    · rw [if_pos hw]
      by_cases em : m = s.now + 1
      · subst em; simp [hw]
      · simp only [em, false_and, if_false, List.mem_append, List.mem_singleton, or_false]
        exact h.ver k m
    · rw [if_neg hw, if_neg (fun h => hw h.2)]
      exact h.ver k m
  · simp only [commd] at hk
    split at hk
    · rename_i hw; exact ht.keys k hw
    · exact h.key k hk
  · by_cases en : n = tx
    · subst en; simp [commd, updI_same] at e1
    · simp only [commd, updI_other _ en] at e1
      have := h.tx n t1 e1
      exact ⟨this.num, ⟨this.sees.1, by show t1.sees ≤ s.now + 1; have := this.sees; omega⟩, this.nw, this.keys, this.pos, this.vals⟩
  · have := h.nm
    show (nm : Int) ≤ 10 * (s.now + 1)
    omega
  · have := h.nv
    show (nv : Int) ≤ 10 * (s.now + 1)
    omega
  · have := h.lgl
    show (l.lg.length : Int) ≤ s.now + 1 + s.hor
    rw [hlg]; simp; omega
  · intro b hb
    have hb' : b ∈ l.lg := hb
    rw [hlg] at hb'
    rcases List.mem_append.1 hb' with h1 | h1
    · exact h.lgb b h1
    · simp at h1; subst h1
      have := bodyC_length_le (s.now + 1).toNat ws (fun x hx => ⟨isKey_le x.1 (ht.keys x.1 (by rw [hws.at_ x hx]; rfl)), ht.vals x.1 x.2 (hws.at_ x hx)⟩)
      omega
  · show l.sy ≤ bytesOf (filesB l.lg)
    rw [hlg, hsy]
    exact Nat.le_trans h.sy (bytesOf_snoc _ _)

end

end Go.Proofs.YthbdpfccfcceiaaGreatDoor
