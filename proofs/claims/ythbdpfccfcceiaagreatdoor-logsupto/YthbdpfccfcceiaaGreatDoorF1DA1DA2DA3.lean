/-
  The log's own questions: how many bytes, and the first so many of them: (*Journal).size, first.
  The document's answer: numbers, texts and versions as bytes: four, Text, Bytes.
  The document's answer: the sum of bytes, bit by bit.
  The document's answer: the body of a commit, a record's frame, a file's opening, exactly.
-/
import Derived.Test.YthbdpfccfcceiaaGreatDoorD6J1
import Derived.Test.YthbdpfccfcceiaaGreatDoorShelf
import Derived.Test.YthbdpfccfcceiaaGreatDoorB1B2O1C1
namespace Go.Proofs.YthbdpfccfcceiaaGreatDoor
open Go.RowKit Go.Maps Go.Lib

/-- The first so many bytes, file by file. -/
def firstB : List (List UInt8) → Nat → List (List UInt8)
  | [], _ => []
  | f :: r, n => if n = 0 then [] else f.take n :: firstB r (n - f.length)

/-- Rows of bytes in a row, each its own, in blocks from a number on. -/
structure FR (base : Nat) (w : World) (v : Value) (fs : List (List UInt8)) (lv : List Value) : Prop where
  row : w.ownsRow base 48 1 v fs.length lv
  at_ : ∀ (i : Nat) u f, lv[i]? = some u → fs[i]? = some f → BR base w u f
  apart : ∀ (i j : Nat) u v b, lv[i]? = some u → lv[j]? = some v → u.ownBlock = some b → v.ownBlock = some b → i = j

theorem FR.len {base : Nat} {w : World} {v : Value} {fs : List (List UInt8)} {lv : List Value} (h : FR base w v fs lv) : lv.length = fs.length := by simpa using h.row.1
theorem FR.nil (base : Nat) (w : World) : FR base w (.slice none 0 0) [] [] := ⟨World.ownsRow_nil _ _ _ _, fun i u f hu => by simp at hu, fun i j u v b hu => by simp at hu⟩
theorem FR.kept {base : Nat} {w w' : World} {v : Value} {fs : List (List UInt8)} {lv : List Value} (h : FR base w v fs lv) (hk : Kp (fun _ => False) w w') : FR base w' v fs lv :=
  ⟨ownsRow_kp h.row hk (fun _ _ e => e), fun i u f hu hf => (h.at_ i u f hu hf).kept hk, h.apart⟩

/-- A row more. -/
theorem FR.snoc {base : Nat} {w w1 w2 : World} {v v2 u : Value} {fs : List (List UInt8)} {lv : List Value} {f : List UInt8} (h : FR base w1 v fs lv) (hu : BR w.heap.size w1 u f) (hsz : ∀ b, v.ownBlock = some b → b < w.heap.size) (hold : ∀ (i : Nat) x, lv[i]? = some x → ∀ b, x.ownBlock = some b → b < w.heap.size)
    (hb : base ≤ w.heap.size) (hrow : w2.ownsRow base 48 1 v2 (fs.length + 1) (lv ++ [u])) (hk : Kp (fun b => v.ownBlock = some b) w1 w2) : FR base w2 v2 (fs ++ [f]) (lv ++ [u]) := by
  have hl := h.len
  refine ⟨by simpa using hrow, fun i x g hx hg => ?_, fun i j x y b hx hy ex ey => ?_⟩
  · rcases Nat.lt_trichotomy i lv.length with hi | hi | hi
    · rw [List.getElem?_append_left hi] at hx
      rw [List.getElem?_append_left (by omega)] at hg
      have h0 := h.at_ i x g hx hg
      refine h0.kp hk (fun b e e2 => ?_)
      obtain ⟨c1, q1⟩ := h0.block e
      obtain ⟨c2, q2⟩ := ownsRow_block2 h.row e2
      exact ne_type q1 q2 (by decide) rfl
    · subst hi
      simp at hx
      rw [hl] at hg
      simp at hg
      subst hx; subst hg
      exact BR.mono (hu.kp hk (fun b e e2 => by have h1 := (hu.lt b e).1; have h2 := hsz b e2; omega)) hb
    · rw [List.getElem?_eq_none (by simp; omega)] at hx; cases hx
  · have last : ∀ (i : Nat) x, (lv ++ [u])[i]? = some x → (i < lv.length ∧ lv[i]? = some x) ∨ (i = lv.length ∧ x = u) := fun i x hx => by
      rcases Nat.lt_trichotomy i lv.length with hi | hi | hi
      · rw [List.getElem?_append_left hi] at hx; exact Or.inl ⟨hi, hx⟩
      · subst hi; simp at hx; exact Or.inr ⟨rfl, hx.symm⟩
      · rw [List.getElem?_eq_none (by simp; omega)] at hx; cases hx
    rcases last i x hx with ⟨h1, h2⟩ | ⟨h1, h2⟩ <;> rcases last j y hy with ⟨h3, h4⟩ | ⟨h3, h4⟩
    · exact h.apart i j x y b h2 h4 ex ey
    · subst h4
      have := hold i x h2 b ex
      have := (hu.lt b ey).1
      omega
    · subst h2
      have := hold j y h4 b ey
      have := (hu.lt b ex).1
      omega
    · omega

/-- A journal's files as they lie. -/
def JR (w : World) (fv : Value) (fs : List (List UInt8)) (lv : List Value) : Prop := w.ownsRow 0 48 1 fv fs.length lv ∧ (∀ (i : Nat) u f, lv[i]? = some u → fs[i]? = some f → BR 0 w u f)

theorem bytesOf_take (fs : List (List UInt8)) (k : Nat) (f : List UInt8) (h : fs[k]? = some f) : bytesOf (fs.take (k + 1)) = bytesOf (fs.take k) + f.length := by
  obtain ⟨hk, rfl⟩ := List.getElem?_eq_some_iff.1 h
  rw [List.take_succ_eq_append_getElem hk, bytesOf_append]
  simp [bytesOf]
theorem bytesOf_take_le (fs : List (List UInt8)) (k : Nat) : bytesOf (fs.take k) ≤ bytesOf fs := by
  conv => rhs; rw [← List.take_append_drop k fs]
  rw [bytesOf_append]; omega

theorem firstB_step : ∀ (fs : List (List UInt8)) (n k : Nat) (f : List UInt8), fs[k]? = some f → bytesOf (fs.take k) < n → firstB (fs.take (k + 1)) n = firstB (fs.take k) n ++ [f.take (n - bytesOf (fs.take k))]
  | [], _, _, _, h, _ => by simp at h
  | g :: r, n, 0, f, h, hn => by
    simp at h
    subst h
    have : n ≠ 0 := by simp [bytesOf] at hn; omega
    simp [firstB, this, bytesOf]
  | g :: r, n, k + 1, f, h, hn => by
    have h' : r[k]? = some f := by simpa using h
    have hb : bytesOf ((g :: r).take (k + 1)) = g.length + bytesOf (r.take k) := by rw [List.take_succ_cons, bytesOf_cons]
    rw [hb] at hn
    have hn0 : n ≠ 0 := by omega
    rw [List.take_succ_cons, List.take_succ_cons]
    show (if n = 0 then [] else g.take n :: firstB (r.take (k + 1)) (n - g.length)) = (if n = 0 then [] else g.take n :: firstB (r.take k) (n - g.length)) ++ _
    rw [if_neg hn0, if_neg hn0, firstB_step r (n - g.length) k f h' (by omega), bytesOf_cons]
    rw [List.cons_append, Nat.sub_sub]
theorem firstB_done : ∀ (fs : List (List UInt8)) (n k : Nat), n ≤ bytesOf (fs.take k) → firstB fs n = firstB (fs.take k) n
  | [], _, _, _ => by simp
  | g :: r, n, 0, h => by
    have : n = 0 := by simpa [bytesOf] using h
    subst this
    simp [firstB]
  | g :: r, n, k + 1, h => by
    rw [List.take_succ_cons, bytesOf_cons] at h
    rw [List.take_succ_cons]
    show (if n = 0 then [] else g.take n :: firstB r (n - g.length)) = (if n = 0 then [] else g.take n :: firstB (r.take k) (n - g.length))
    rw [firstB_done r (n - g.length) k (by omega)]

section
variable {R : Ending → World → Prop}

set_option maxRecDepth 20000 in
set_option maxHeartbeats 1000000 in
theorem size_any (p o : Nat) (fv : Value) (fs : List (List UInt8)) (lv : List Value) (w : World) (c0 : w.cell? ⟨p, o, none⟩ = some fv) (hJ : JR w fv fs lv) (hl : bytesOf fs ≤ 1000000000) (hfl : fs.length ≤ 1100000)
    (hR : R (.returned (.int .i64 (bytesOf fs : Nat))) w) :
    Calls Tryz.prog 74 #[.pointer (some ⟨p, o, none⟩)] w R := by
  obtain ⟨hrow, hat⟩ := hJ
  have HAT := hid_of hat
  have HROW := hid_of hrow
  have HR := hid_of hR
  have HL := hid_of hl
  have hfl' : (fs.length : Int) ≤ 1100000 := by omega
  have hlen : lv.length = fs.length := by simpa using hrow.1
  have HLEN := hid_of hlen
  by_cases h0 : fs.length = 0
  · have e0 : fs = [] := List.eq_nil_of_length_eq_zero h0
    subst e0
    obtain ⟨pf, cap, rfl⟩ := ownsRow_slice hrow
    clear hrow hat hR hl h0 hlen hfl hfl'
    go_enter Tryz.func74, Tryz.ntmps74
    go_wp2_with fail
    go_loop [3, 11] (fun v3 v11 => v3 = .int .i64 0 ∧ v11 = .int .i64 0) (fun _ _ => 0)
    case atStart => exact ⟨rfl, rfl⟩
    case round =>
      obtain ⟨rfl, rfl⟩ := hrel
      go_wp2_with fail
      exact HR.out
  · obtain ⟨g, cap, cur, rfl, _, _⟩ := ownsRow_some hrow (by omega)
    clear hrow hat hR hl h0 hlen
    go_enter Tryz.func74, Tryz.ntmps74
    go_wp2_with fail
    go_loop [3, 11] (fun v3 v11 => ∃ k : Nat, k ≤ fs.length ∧ v11 = .int .i64 k ∧ v3 = .int .i64 (bytesOf (fs.take k) : Nat)) (fun _ v11 => fs.length - (intOf v11).toNat)
    case atStart => exact ⟨0, Nat.zero_le _, rfl, rfl⟩
    case round =>
      obtain ⟨k, hk, rfl, rfl⟩ := hrel
      by_cases hlt : k < fs.length
      · obtain ⟨f, hf⟩ : ∃ f, fs[k]? = some f := ⟨fs[k], List.getElem?_eq_getElem hlt⟩
        obtain ⟨u, hu⟩ : ∃ u, lv[k]? = some u := ⟨lv[k]'(by rw [HLEN.out]; exact hlt), List.getElem?_eq_getElem (by rw [HLEN.out]; exact hlt)⟩
        have hc := ownsRow_cell HROW.out k u hu
        obtain ⟨pu, capu, rfl⟩ := ownsRow_slice (HAT.out k u f hu hf)
        have HB := hid_of (bytesOf_take fs k f hf)
        have hb1 : bytesOf (fs.take k) + f.length ≤ 1000000000 := by have := bytesOf_take_le fs (k + 1); have := HL.out; have := HB.out; omega
        have hb2 : (bytesOf (fs.take k) : Int) + f.length ≤ 1000000000 := by omega
        generalize bytesOf (fs.take k) = S at hb1 hb2 HB ⊢
        clear hf hu
        go_wp2_with fail
        go_round
        case rel => exact ⟨k + 1, by omega, by go_num, by rw [HB.out]; rfl⟩
        case measure => simp [intOf]; omega
      · have hk' : k = fs.length := by omega
        subst hk'
        rw [List.take_length]
        go_wp2_with fail
        exact HR.out

end

end Go.Proofs.YthbdpfccfcceiaaGreatDoor

namespace Go.Proofs.YthbdpfccfcceiaaGreatDoor
open Go.RowKit

theorem b8_u8 (n : Nat) : b8 (u8 n) = .int .u8 ((n % 256 : Nat) : Int) := by unfold b8; rw [u8_toNat]

theorem textB_take (s : ByteArray) (k : Nat) (h : k < s.size) : (textB s).take (k + 1 + 1) = (textB s).take (k + 1) ++ [s[k]] := by
  unfold textB
  rw [List.take_succ_cons, List.take_succ_cons, List.take_succ_eq_append_getElem (by simpa using h)]
  rfl

section
variable {R : Ending → World → Prop}

set_option maxRecDepth 20000 in
set_option maxHeartbeats 400000 in
theorem dfour (n : Nat) (w : World) (hn : n < 4294967296)
    (hR : ∀ v w', BR w.heap.size w' v (fourB n) → Kp (fun _ => False) w w' → R (.returned v) w') :
    Calls Tryz.prog 161 #[.int .i64 n] w R := by
  have h1 := br_new w #[b8 (u8 n), b8 (u8 (n / 256)), b8 (u8 (n / 65536)), b8 (u8 (n / 16777216))] (fourB n) rfl (by simp [fourB_length])
  have HR := hid_of (hR _ _ h1 (Kp.alloc _ _ _))
  have hn' : (n : Int) < 4294967296 := by omega
  clear hR h1
  go_enter Tryz.func161, Tryz.ntmps161
  go_wp2
  rw [b8_u8, b8_u8, b8_u8, b8_u8] at HR
  exact HR.out

set_option maxRecDepth 20000 in
set_option maxHeartbeats 400000 in
theorem four_x (n : Int) (w : World) (h0 : 0 ≤ n) (h1 : n ≤ 10000) (hR : ∀ a b c d, [Value.int .u8 72, .int .u8 a, .int .u8 b, .int .u8 c, .int .u8 d] = (bodyH n.toNat).map b8 → R (.returned (.slice (some ⟨w.heap.size, 0, none⟩) 4 4)) (w.alloc (.cells #[.int .u8 a, .int .u8 b, .int .u8 c, .int .u8 d] 5))) :
    Calls Tryz.prog 161 #[.int .i64 n] w R := by
  obtain ⟨m, rfl⟩ : ∃ m : Nat, n = m := ⟨n.toNat, by omega⟩
  have e : [Value.int .u8 72, .int .u8 ((m % 256 : Nat) : Int), .int .u8 ((m / 256 % 256 : Nat) : Int), .int .u8 ((m / 65536 % 256 : Nat) : Int), .int .u8 ((m / 16777216 % 256 : Nat) : Int)] = (bodyH m).map b8 := by
    simp only [bodyH, fourB, List.map_cons, List.map_nil, b8_u8]
    rfl
  have HR := hid_of (hR _ _ _ _ e)
  clear hR e
  go_enter Tryz.func161, Tryz.ntmps161
  go_wp2
  exact HR.out

set_option maxRecDepth 20000 in
set_option maxHeartbeats 1000000 in
theorem dtext (s : ByteArray) (w : World) (hs : s.size ≤ 255) (hR : ∀ v w', BR w.heap.size w' v (textB s) → Kp (fun _ => False) w w' → R (.returned v) w') :
    Calls Tryz.prog 201 #[.string s] w R := by
  have HR := hid_of hR
  have HS := hid_of hs
  have hs' : (s.size : Int) ≤ 255 := by omega
  have h0 := br_new w #[.int .u8 (s.size : Int)] [u8 s.size] (by simp [b8, u8_toNat]; omega) (by simp)
  have H0 := hid_of h0
  clear hR hs h0
  go_enter Tryz.func201, Tryz.ntmps201
  go_wp2
  go_loopw [3, 4] (fun v3 v4 wr => ∃ k : Nat, k ≤ s.size ∧ v4 = .int .i64 k ∧ Kp (fun _ => False) w wr ∧ BR w.heap.size wr v3 ((textB s).take (k + 1))) (fun _ v4 _ => s.size - (intOf v4).toNat)
  case atStart => exact ⟨0, Nat.zero_le _, rfl, Kp.alloc _ _ _, H0.out⟩
  case round =>
    obtain ⟨k, hk, rfl, hkp, hrow⟩ := hrel
    have HK := hid_of hkp
    have HB := hid_of hrow
    have hlen : ((textB s).take (k + 1)).length = k + 1 := by rw [List.length_take, textB_length]; omega
    have HLEN := hid_of hlen
    obtain ⟨pu, cu, rfl⟩ := ownsRow_slice hrow
    rw [hlen] at HB ⊢
    clear hkp hrow hlen
    by_cases hlt : k < s.size
    · have hlt' : (k : Int) < s.size := by omega
      have HT := hid_of (textB_take s k hlt)
      have hnw := br_new wr #[.int .u8 s[k].toNat] [s[k]] (by simp [b8]) (by simp)
      have HNW := hid_of hnw
      clear hnw
      go_wp2_with (first
        | (at_builtin; refine wpB_append _ rfl _ _ rfl w.heap.size _ ((textB s).take (k + 1)) rfl (HB.out.kept (Kp.alloc _ _ _)) _ [s[k]] rfl HNW.out.rd (by simp) (by have := HLEN.out; have := HS.out; simp only [List.length_cons, List.length_nil]; omega) (by have := HK.out.size; simp; omega) ?_; intro v5 w5 hb5 hk5 _; have HB5 := hid_of hb5; have HK5 := hid_of hk5; clear hb5 hk5)
        | go_in)
      go_roundw
      case rel =>
        refine ⟨k + 1, by omega, by go_num, ?_, by rw [HT.out]; exact HB5.out⟩
        exact HK.out.trans ((Kp.alloc (fun b => (Value.slice pu (k + 1) cu).ownBlock = some b) wr _).trans HK5.out (fun _ _ h => h)) (fun b hb e => by have := (HB.out.lt b e).1; omega)
      case measure => simp [intOf]; omega
    · have hke : k = s.size := by omega
      subst hke
      have hfin : BR w.heap.size wr (.slice pu (s.size + 1) cu) (textB s) := by
        have := HB.out
        rw [List.take_of_length_le (by rw [textB_length]; omega)] at this
        exact this
      have HF := hid_of (HR.out _ _ hfin HK.out)
      clear hfin
      go_wp2
      exact HF.out

set_option maxRecDepth 20000 in
set_option maxHeartbeats 1000000 in
theorem dbytes (key : ByteArray) (t : Int) (gone : Bool) (s : ByteArray) (w : World) (hs : s.size ≤ 255) (hR : ∀ v w', BR w.heap.size w' v (verB (s, gone)) → Kp (fun _ => False) w w' → R (.returned v) w') :
    Calls Tryz.prog 202 #[.agg #[.string key, .int .i64 t, .bool gone, .string s]] w R := by
  have HR := hid_of hR
  have HS := hid_of hs
  clear hR hs
  have sA : (w.alloc (.cells #[.string key, .int .i64 t, .bool gone, .string s] 193)).heap.size = w.heap.size + 1 := by simp
  cases gone
  · have h0 := br_at (w.alloc (.cells #[.string key, .int .i64 t, .bool false, .string s] 193)) (w.heap.size + 1) sA #[.int .u8 0] [0] (by simp [b8]) (by simp)
    have H0 := hid_of h0
    have hk0 : Hid (Kp (fun _ => False) w ((w.alloc (.cells #[.string key, .int .i64 t, .bool false, .string s] 193)).alloc (.cells #[.int .u8 0] 5))) := (Kp.alloc _ _ _).trans (Kp.alloc _ _ _) (fun _ _ h => h)
    clear h0 sA
    go_enter Tryz.func202, Tryz.ntmps202
    go_wp2_with (first
      | (go_at_call 201; refine dtext s _ HS.out (fun v2 w2 hb2 hk2 => ?_); obtain ⟨g2, c2, rfl⟩ := hb2.form (by simp [textB]); have HB2 := hid_of hb2; have HK2 := hid_of hk2; clear hb2 hk2)
      | (at_builtin; refine wpB_append _ rfl _ _ rfl (w.heap.size + 1) _ [0] rfl (H0.out.kept HK2.out) _ (textB s) rfl HB2.out.rd (by simp [textB]) (by rw [textB_length]; have := HS.out; simp; omega) (by have := (hk0.out.trans HK2.out (fun _ _ h => h)).size; have h := HK2.out.size; simp at h; omega) ?_; intro v5 w5 hb5 hk5 _; have HB5 := hid_of hb5; have HK5 := hid_of hk5; clear hb5 hk5)
      | go_in)
    refine HR.out v5 w5 (BR.mono HB5.out (by omega)) ((hk0.out.trans HK2.out (fun _ _ h => h)).trans HK5.out (fun b hb e => ?_))
    have := ((H0.out.kept HK2.out).lt b e).1
    omega
  · have h0 := br_at (w.alloc (.cells #[.string key, .int .i64 t, .bool true, .string s] 193)) (w.heap.size + 1) sA #[.int .u8 1] [1] (by simp [b8]) (by simp)
    have HF := hid_of (HR.out _ _ (BR.mono h0 (by omega)) ((Kp.alloc _ _ _).trans (Kp.alloc _ _ _) (fun _ _ h => h)))
    clear h0 sA
    go_enter Tryz.func202, Tryz.ntmps202
    go_wp2
    exact HF.out

end

end Go.Proofs.YthbdpfccfcceiaaGreatDoor

namespace Go.Proofs.YthbdpfccfcceiaaGreatDoor
open Go.RowKit

theorem bxor_i64 (a b : Nat) (ha : a < 4294967296) (hb : b < 4294967296) : bits .xor .i64 (a : Int) (b : Int) = ((a ^^^ b : Nat) : Int) := by
  have hx : a ^^^ b < 2 ^ 32 := Nat.xor_lt_two_pow (by omega) (by omega)
  have h1 : (BitVec.ofInt 64 (a : Int)).toNat = a := by rw [BitVec.ofInt_natCast, BitVec.toNat_ofNat]; exact Nat.mod_eq_of_lt (by omega)
  have h2 : (BitVec.ofInt 64 (b : Int)).toNat = b := by rw [BitVec.ofInt_natCast, BitVec.toNat_ofNat]; exact Nat.mod_eq_of_lt (by omega)
  show IntKind.i64.wrap ((BitVec.ofInt 64 (a : Int) ^^^ BitVec.ofInt 64 (b : Int)).toNat : Int) = _
  rw [BitVec.toNat_xor, h1, h2]
  exact IntWalk.i64_in _ (by omega)

/-- So many bits. -/
def crcIt : Nat → Nat → Nat
  | 0, x => x
  | n + 1, x => crcBit (crcIt n x)

theorem crcIt_lt {x : Nat} (h : x < 4294967296) : ∀ n, crcIt n x < 4294967296
  | 0 => h
  | n + 1 => crcBit_lt (crcIt_lt h n)

section
variable {R : Ending → World → Prop}

set_option maxRecDepth 20000 in
set_option maxHeartbeats 2000000 in
theorem dsum (v : Value) (bs : List UInt8) (w : World) (hl : bs.length ≤ 100000000) (hne : bs ≠ []) (h : RdB w v bs) (hR : ∀ v' w', BR w.heap.size w' v' (fourB (sumB bs)) → Kp (fun _ => False) w w' → R (.returned v') w') :
    Calls Tryz.prog 170 #[v] w R := by
  obtain ⟨p, cap, rfl, hc0⟩ := h
  obtain ⟨g, o, rfl, hc⟩ := hc0 hne
  have HC := hid_of hc
  have HR := hid_of hR
  have HL := hid_of hl
  have hl' : (bs.length : Int) ≤ 100000000 := by omega
  clear hc0 hc hR hl hne
  go_enter Tryz.func170, Tryz.ntmps170
  go_wp2
  go_loop [3, 4] (fun s i => ∃ k : Nat, k ≤ bs.length ∧ i = .int .i64 k ∧ s = .int .i64 (crcB ((bs.take k).map UInt8.toNat) : Nat)) (fun _ i => bs.length - (intOf i).toNat)
  case atStart => exact ⟨0, Nat.zero_le _, rfl, rfl⟩
  case round =>
    obtain ⟨k, hk, rfl, rfl⟩ := hrel
    have hS0 := crcB_bytes (bs.take k)
    by_cases hlt : k < bs.length
    · have hlt' : (k : Int) < bs.length := by omega
      have hck := HC.out k hlt
      have HT : Hid (crcB ((bs.take (k + 1)).map UInt8.toNat) = crcByte (crcB ((bs.take k).map UInt8.toNat)) (bs.getD k 0).toNat) := by
        show _ = _
        rw [take_snoc8 bs k hlt]; simp [crcB]
      generalize crcB ((bs.take k).map UInt8.toNat) = S at hS0 HT ⊢
      generalize bs.getD k 0 = B at hck HT
      unfold b8 at hck
      have hB := B.toNat_lt
      generalize B.toNat = b at hck HT hB
      have h1 := bxor_i64 S b hS0 (by omega)
      have hX : S ^^^ b < 4294967296 := Nat.xor_lt_two_pow (n := 32) hS0 (by omega)
      have hb' : (b : Int) < 256 := by omega
      unfold crcByte at HT
      generalize S ^^^ b = X at h1 hX HT
      clear hS0 hB
      go_wp2
      clear h1 hck
      go_loop [3, 5, 6] (fun s j _ => ∃ m : Nat, m ≤ 8 ∧ j = .int .i64 m ∧ s = .int .i64 (crcIt m X : Nat)) (fun _ j _ => 8 - (intOf j).toNat)
      case atStart => exact ⟨0, Nat.zero_le _, rfl, rfl⟩
      case round =>
        obtain ⟨m, hm, rfl, rfl⟩ := hrel
        have hY := crcIt_lt hX m
        by_cases hm8 : m < 8
        · have hm8' : (m : Int) < 8 := by omega
          have HIT : Hid (crcIt (m + 1) X = crcBit (crcIt m X)) := rfl
          generalize crcIt m X = Y at hY HIT ⊢
          have hY' : (Y : Int) < 4294967296 := by omega
          by_cases hodd : Y % 2 = 1
          · have e1 : ((Y : Int) % 2 == 1) = true := by simp; omega
            have e2 : Hid (bits .xor .i64 ((Y : Int) / 2) 3988292384 = (((Y / 2) ^^^ 3988292384 : Nat) : Int)) := by
              have := bxor_i64 (Y / 2) 3988292384 (by omega) (by omega)
              exact this
            have HB : Hid (crcBit Y = (Y / 2) ^^^ 3988292384) := by show _ = _; unfold crcBit; rw [if_pos hodd]
            clear hodd
            go_wp2
            go_round
            case rel => exact ⟨m + 1, by omega, by go_num, by rw [HIT.out, HB.out, ← e2.out]⟩
            case measure => simp [intOf]; omega
          · have e1 : ((Y : Int) % 2 == 1) = false := by simp; omega
            have HB : Hid (crcBit Y = Y / 2) := by show _ = _; unfold crcBit; rw [if_neg hodd]
            clear hodd
            go_wp2
            go_round
            case rel => exact ⟨m + 1, by omega, by go_num, by rw [HIT.out, HB.out]; rfl⟩
            case measure => simp [intOf]; omega
        · have hm' : m = 8 := by omega
          subst hm'
          go_wp2
          go_round
          case rel => exact ⟨k + 1, by omega, by go_num, by rw [HT.out]; rfl⟩
          case measure => simp [intOf]; omega
    · have hk' : k = bs.length := by omega
      subst hk'
      rw [List.take_length] at hS0 ⊢
      have HS : Hid (((sumB bs : Nat) : Int) = 4294967295 - ((crcB (bs.map UInt8.toNat) : Nat) : Int)) := by show _ = _; unfold sumB; omega
      have hsl := sumB_lt bs
      have HSL := hid_of hsl
      have hw : IntKind.i64.wrap (4294967295 - ((crcB (bs.map UInt8.toNat) : Nat) : Int)) = ((sumB bs : Nat) : Int) := by rw [← HS.out]; exact IntWalk.i64_in _ (by omega)
      generalize crcB (bs.map UInt8.toNat) = S at hS0 HS hw ⊢
      generalize sumB bs = T at HS HSL hsl hw HR
      have hS' : (S : Int) < 4294967296 := by omega
      have e0 : (4294967295 : Int) - S = T := HS.out.symm
      clear hsl
      go_wp2_with (first
        | (go_at_call 161; refine dfour T _ HSL.out (fun v2 w2 hb2 hk2 => ?_); obtain ⟨g2, c2, rfl⟩ := hb2.form (by simp [fourB]); have HF := hid_of (HR.out _ _ hb2 hk2); clear hb2 hk2)
        | go_in)
      exact HF.out

end

end Go.Proofs.YthbdpfccfcceiaaGreatDoor

namespace Go.Proofs.YthbdpfccfcceiaaGreatDoor
open Go.RowKit

/-- A version's write. -/
def toW (y : YV) : ByteArray × ByteArray × Bool := (y.key, y.s, y.gone)

/-- The beginning of a commit's body, with its first writes. -/
def bodyK (t n : Nat) (ws : List (ByteArray × ByteArray × Bool)) (k : Nat) : List UInt8 := 67 :: (fourB t ++ (u8 n :: (ws.take k).flatMap writeB))

theorem bodyK_length (t n : Nat) (ws : List (ByteArray × ByteArray × Bool)) (k : Nat) (h : ∀ x ∈ ws, x.1.size ≤ 8 ∧ x.2.1.size ≤ 20) : (bodyK t n ws k).length ≤ 6 + k * 31 := by
  have h1 := flatMap_le writeB 31 (ws.take k) (fun x hx => Nat.le_trans (writeB_length_le x) (by have := h x (List.mem_of_mem_take hx); omega))
  have h2 : (ws.take k).length * 31 ≤ k * 31 := Nat.mul_le_mul_right _ (by rw [List.length_take]; omega)
  simp only [bodyK, List.length_cons, List.length_append, fourB_length]
  omega

theorem bodyK_succ (t n : Nat) (ws : List (ByteArray × ByteArray × Bool)) (k : Nat) (x : ByteArray × ByteArray × Bool) (h : ws[k]? = some x) : bodyK t n ws (k + 1) = (bodyK t n ws k ++ textB x.1) ++ verB x.2 := by
  obtain ⟨hk, rfl⟩ := List.getElem?_eq_some_iff.1 h
  unfold bodyK
  rw [List.take_succ_eq_append_getElem hk, List.flatMap_append]
  simp only [List.flatMap_cons, List.flatMap_nil, List.append_nil, writeB, List.cons_append, List.append_assoc]

section
variable {R : Ending → World → Prop}

set_option maxRecDepth 20000 in
set_option maxHeartbeats 2000000 in
theorem dbody (t : Nat) (l : List YV) (g cap : Nat) (w : World) (h1 : t < 4294967296) (hl : l.length ≤ 10) (hv : VS w (.slice (some ⟨g, 0, none⟩) l.length cap) l g cap) (hs : ∀ y ∈ l, y.key.size ≤ 8 ∧ y.s.size ≤ 20)
    (hR : ∀ v w', BR w.heap.size w' v (bodyC t (l.map toW)) → Kp (fun _ => False) w w' → R (.returned v) w') :
    Calls Tryz.prog 160 #[.int .i64 t, .slice (some ⟨g, 0, none⟩) l.length cap] w R := by
  have HR := hid_of hR
  have HV := hid_of hv
  have HS := hid_of hs
  have HL := hid_of hl
  have H1 := hid_of h1
  have hl' : (l.length : Int) ≤ 10 := by omega
  have h0 := br_new w #[.int .u8 67] [67] (by simp [b8]) (by simp)
  have H0 := hid_of h0
  have HLW : Hid (∀ k, (bodyK t l.length (l.map toW) k).length ≤ 6 + k * 31) := fun k => bodyK_length t l.length (l.map toW) k (fun x hx => by
    obtain ⟨y, hy, rfl⟩ := List.mem_map.1 hx
    exact hs y hy)
  clear hR hv hs hl h1 h0
  go_enter Tryz.func160, Tryz.ntmps160
  go_wp2_with (first
    | (go_at_call 161; refine dfour t _ H1.out (fun v2 w2 hb2 hk2 => ?_); obtain ⟨g2, c2, rfl⟩ := hb2.form (by simp [fourB]); have HB2 := hid_of hb2; have HK2 : Hid (Kp (fun _ => False) w w2) := (Kp.alloc (fun _ => False) w _).trans hk2 (fun _ _ h => h); have HB1 := hid_of (H0.out.kept hk2); clear hb2 hk2)
    | (at_builtin; refine wpB_append _ rfl _ _ rfl w.heap.size _ [67] rfl HB1.out _ (fourB t) rfl HB2.out.rd (by simp [fourB]) (by simp [fourB_length]) HK2.out.size ?_; intro v3 w3 hb3 hk3 _; obtain ⟨g3, c3, rfl⟩ := hb3.form (by simp); have HB3 := hid_of hb3; have HK3 : Hid (Kp (fun _ => False) w w3) := HK2.out.trans hk3 (fun b hb e => by have := (HB1.out.lt b e).1; omega); have HNW := hid_of (br_new w3 #[.int .u8 (l.length : Int)] [u8 l.length] (by have := HL.out; simp [b8, u8_toNat]; omega) (by simp)); clear hb3 hk3 HB1)
    | (at_builtin; refine wpB_append _ rfl _ _ rfl w.heap.size _ ([67] ++ fourB t) rfl (HB3.out.kept (Kp.alloc _ _ _)) _ [u8 l.length] rfl HNW.out.rd (by simp) (by simp [fourB_length]) (by have := HK3.out.size; simp; omega) ?_; intro v4 w4 hb4 hk4 _; have HB4 := hid_of hb4; have HK4 : Hid (Kp (fun _ => False) w w4) := HK3.out.trans ((Kp.alloc _ _ _).trans hk4 (fun _ _ h => h)) (fun b hb e => by have := ((HB3.out.kept (Kp.alloc (fun _ => False) w3 (.cells #[.int .u8 (l.length : Int)] 5))).lt b e).1; omega); clear hb4 hk4)
    | go_in)
  go_loopw [5, 6] (fun v5 v6 wr => ∃ k : Nat, k ≤ l.length ∧ v6 = .int .i64 k ∧ Kp (fun _ => False) w wr ∧ BR w.heap.size wr v5 (bodyK t l.length (l.map toW) k)) (fun _ v6 _ => l.length - (intOf v6).toNat)
  case atStart =>
    refine ⟨0, Nat.zero_le _, rfl, HK4.out, ?_⟩
    have := HB4.out
    simpa [bodyK] using this
  case round =>
    obtain ⟨k, hk, rfl, hkp, hrow⟩ := hrel
    have HK := hid_of hkp
    have HB := hid_of hrow
    obtain ⟨pu, cu, rfl⟩ := hrow.form (by simp [bodyK])
    clear hrow
    by_cases hlt : k < l.length
    · have hlt' : (k : Int) < l.length := by omega
      have hVr := HV.out.kept hkp
      have hc0 := hVr.c0 k hlt
      obtain ⟨y, hy⟩ : ∃ y, l[k] = y := ⟨_, rfl⟩
      have HSK := hid_of (hy ▸ HS.out l[k] (List.getElem_mem _))
      have HSU := hid_of (bodyK_succ t l.length (l.map toW) k (toW y) (by rw [List.getElem?_map, List.getElem?_eq_getElem hlt, hy]; rfl))
      have HLT := hid_of hlt
      rw [hy] at hc0
      have HY := hid_of hy
      have HLK := hid_of (HLW.out k)
      generalize bodyK t l.length (l.map toW) k = bk at HB HSU HLK ⊢
      clear hkp hVr hy
      go_wp2_with (first
        | (go_at_call 201; refine dtext y.key _ (by have h := HSK.out.1; omega) (fun v3 w3 hb3 hk3 => ?_); obtain ⟨g3, c3, rfl⟩ := hb3.form (by simp [textB]); have HX3 := hid_of hb3; have HK3' := hid_of hk3; clear hb3 hk3)
        | (at_builtin; refine wpB_append _ rfl _ _ rfl w.heap.size _ bk rfl (HB.out.kept HK3'.out) _ (textB y.key) rfl HX3.out.rd (by simp [textB]) (by rw [textB_length]; have := HLK.out; have := HSK.out.1; have := HL.out; have := HLT.out; omega) (by have := HK3'.out.size; have := HK.out.size; omega) ?_; intro v4 w4 hb4 hk4 _; obtain ⟨g4, c4, rfl⟩ := hb4.form (by simp [textB]); have HX4 : Hid (BR w.heap.size w4 (.slice (some ⟨g4, 0, none⟩) (bk.length + (textB y.key).length) c4) (bk ++ textB y.key)) := (by rw [← List.length_append]; exact hb4); have HKA : Hid (Kp (fun _ => False) w w4) := (HK.out.trans HK3'.out (fun _ _ h => h)).trans hk4 (fun b hb e => by have := ((HB.out.kept HK3'.out).lt b e).1; omega); have hV4 := HV.out.kept HKA.out; have a0 := hV4.c0 k HLT.out; have a1 := hV4.c1 k HLT.out; have a2 := hV4.c2 k HLT.out; have a3 := hV4.c3 k HLT.out; rw [HY.out] at a0 a1 a2 a3; clear hb4 hk4 hV4 HX3)
        | (go_at_call 202; refine dbytes y.key y.t y.gone y.s _ (by have h := HSK.out.2; omega) (fun v5 w5 hb5 hk5 => ?_); obtain ⟨g5, c5, rfl⟩ := hb5.form (by unfold verB; split <;> simp); have HX5 := hid_of hb5; have HK5 := hid_of hk5; clear hb5 hk5)
        | (at_builtin; refine wpB_append _ rfl _ _ rfl w.heap.size _ (bk ++ textB y.key) rfl (HX4.out.kept HK5.out) _ (verB (y.s, y.gone)) rfl HX5.out.rd (by unfold verB; split <;> simp) (by rw [List.length_append, textB_length]; have := verB_length_le (y.s, y.gone); have := HLK.out; have := HSK.out; have := HL.out; have := HLT.out; simp only at *; omega) (by have := HK5.out.size; have := HKA.out.size; omega) ?_; intro v6 w6 hb6 hk6 _; have HX6 := hid_of hb6; have HK6 : Hid (Kp (fun _ => False) w w6) := (HKA.out.trans HK5.out (fun _ _ h => h)).trans hk6 (fun b hb e => by have := ((HX4.out.kept HK5.out).lt b e).1; omega); clear hb6 hk6)
        | go_in)
      go_roundw
      case rel => exact ⟨k + 1, by omega, by go_num, HK6.out, by rw [HSU.out]; exact HX6.out⟩
      case measure => simp [intOf]; omega
    · have hke : k = l.length := by omega
      subst hke
      have hfin : BR w.heap.size wr (.slice (some ⟨pu, 0, none⟩) (bodyK t l.length (l.map toW) l.length).length cu) (bodyC t (l.map toW)) := by
        have h := HB.out
        have e : bodyK t l.length (l.map toW) l.length = bodyC t (l.map toW) := by unfold bodyK bodyC; rw [List.take_of_length_le (by simp)]; simp
        rw [e] at h ⊢
        exact h
      have HF := hid_of (HR.out _ _ hfin HK.out)
      generalize (bodyK t l.length (l.map toW) l.length).length = nn at HF ⊢
      clear hfin
      go_wp2_with fail
      exact HF.out

theorem dbodyI (t : Int) (l : List YV) (g cap : Nat) (w : World) (h0 : 0 ≤ t) (h1 : t ≤ 10000) (hl : l.length ≤ 10) (hv : VS w (.slice (some ⟨g, 0, none⟩) l.length cap) l g cap) (hs : ∀ y ∈ l, y.key.size ≤ 8 ∧ y.s.size ≤ 20)
    (hR : ∀ v w' n, n + 1 = (bodyC t.toNat (l.map toW)).length → BR w.heap.size w' v (bodyC t.toNat (l.map toW)) → Kp (fun _ => False) w w' → R (.returned v) w') :
    Calls Tryz.prog 160 #[.int .i64 t, .slice (some ⟨g, 0, none⟩) l.length cap] w R := by
  obtain ⟨m, rfl⟩ : ∃ m : Nat, t = m := ⟨t.toNat, by omega⟩
  exact dbody m l g cap w (by omega) hl hv hs (fun v w' hb hk => hR v w' _ (by simp [bodyC]; rfl) hb hk)

set_option maxRecDepth 20000 in
set_option maxHeartbeats 1000000 in
theorem dframe (v : Value) (body : List UInt8) (w : World) (hl : body.length ≤ 60000) (hne : body ≠ []) (h : RdB w v body) (hR : ∀ v' w', BR w.heap.size w' v' (frameB body) → Kp (fun _ => False) w w' → R (.returned v') w') :
    Calls Tryz.prog 166 #[v] w R := by
  obtain ⟨p, cap, rfl, hc⟩ := h
  have HRD : Hid (RdB w (.slice p body.length cap) body) := ⟨p, cap, rfl, hc⟩
  have HR := hid_of hR
  have HL := hid_of hl
  have HNE := hid_of hne
  have hl' : (body.length : Int) ≤ 60000 := by omega
  have h0 := br_new w #[.int .u8 ((body.length : Int) % 256), .int .u8 ((body.length : Int) / 256)] [u8 body.length, u8 (body.length / 256)] (by simp [b8, u8_toNat]; omega) (by simp)
  have H0 := hid_of h0
  have HFR : Hid (frameB body = ([u8 body.length, u8 (body.length / 256)] ++ body) ++ fourB (sumB ([u8 body.length, u8 (body.length / 256)] ++ body))) := rfl
  clear hc hR hl hne h0
  generalize frameB body = fr at HR HFR
  go_enter Tryz.func166, Tryz.ntmps166
  go_wp2_with (first
    | (at_builtin; refine wpB_append _ rfl _ _ rfl w.heap.size _ [u8 body.length, u8 (body.length / 256)] rfl H0.out _ body rfl (HRD.out.kept (Kp.alloc _ _ _)) HNE.out (by have := HL.out; simp; omega) (by simp) ?_; intro v3 w3 hb3 hk3 _; obtain ⟨g3, c3, rfl⟩ := hb3.form (by simp); have HB3 := hid_of hb3; have HK3 : Hid (Kp (fun _ => False) w w3) := (Kp.alloc (fun _ => False) w _).trans hk3 (fun b hb e => by have := (H0.out.lt b e).1; omega); clear hb3 hk3)
    | (go_at_call 170; refine dsum _ ([u8 body.length, u8 (body.length / 256)] ++ body) _ (by have := HL.out; simp; omega) (by simp) HB3.out.rd (fun v4 w4 hb4 hk4 => ?_); obtain ⟨g4, c4, rfl⟩ := hb4.form (by simp [fourB]); have HB4 := hid_of hb4; have HK4 := hid_of hk4; clear hb4 hk4)
    | (at_builtin; refine wpB_append _ rfl _ _ rfl w.heap.size _ ([u8 body.length, u8 (body.length / 256)] ++ body) rfl (HB3.out.kept HK4.out) _ _ rfl HB4.out.rd (by simp [fourB]) (by have := HL.out; simp [fourB_length]; omega) (HK3.out.trans HK4.out (fun _ _ h => h)).size ?_; intro v5 w5 hb5 hk5 _; have HF := hid_of (HR.out v5 w5 (by rw [HFR.out]; exact hb5) ((HK3.out.trans HK4.out (fun _ _ h => h)).trans hk5 (fun b hb e => by have := ((HB3.out.kept HK4.out).lt b e).1; omega))); clear hb5 hk5)
    | go_in)
  exact HF.out

set_option maxRecDepth 20000 in
set_option maxHeartbeats 1000000 in
theorem dopening (n : Nat) (w : World) (hn : n < 4294967296) (hR : ∀ v' w', BR w.heap.size w' v' (openB n) → Kp (fun _ => False) w w' → R (.returned v') w') :
    Calls Tryz.prog 165 #[.int .i64 n] w R := by
  have HR := hid_of hR
  have HN := hid_of hn
  have h0 := br_new w #[.int .u8 80, .int .u8 76, .int .u8 49] [80, 76, 49] (by simp [b8]) (by simp)
  have H0 := hid_of h0
  have HFR : Hid (openB n = ([80, 76, 49] ++ fourB n) ++ fourB (sumB ([80, 76, 49] ++ fourB n))) := rfl
  clear hR hn h0
  generalize openB n = fr at HR HFR
  go_enter Tryz.func165, Tryz.ntmps165
  go_wp2_with (first
    | (go_at_call 161; refine dfour n _ HN.out (fun v2 w2 hb2 hk2 => ?_); obtain ⟨g2, c2, rfl⟩ := hb2.form (by simp [fourB]); have HB2 := hid_of hb2; have HK2 : Hid (Kp (fun _ => False) w w2) := (Kp.alloc (fun _ => False) w _).trans hk2 (fun _ _ h => h); have HB1 := hid_of (H0.out.kept hk2); clear hb2 hk2)
    | (at_builtin; refine wpB_append _ rfl _ _ rfl w.heap.size _ [80, 76, 49] rfl HB1.out _ (fourB n) rfl HB2.out.rd (by simp [fourB]) (by simp [fourB_length]) HK2.out.size ?_; intro v3 w3 hb3 hk3 _; obtain ⟨g3, c3, rfl⟩ := hb3.form (by simp); have HB3 := hid_of hb3; have HK3 : Hid (Kp (fun _ => False) w w3) := HK2.out.trans hk3 (fun b hb e => by have := (HB1.out.lt b e).1; omega); clear hb3 hk3 HB1)
    | (go_at_call 170; refine dsum _ ([80, 76, 49] ++ fourB n) _ (by simp [fourB_length]) (by simp) HB3.out.rd (fun v4 w4 hb4 hk4 => ?_); obtain ⟨g4, c4, rfl⟩ := hb4.form (by simp [fourB]); have HB4 := hid_of hb4; have HK4 := hid_of hk4; clear hb4 hk4)
    | (at_builtin; refine wpB_append _ rfl _ _ rfl w.heap.size _ ([80, 76, 49] ++ fourB n) rfl (HB3.out.kept HK4.out) _ _ rfl HB4.out.rd (by simp [fourB]) (by simp [fourB_length]) (HK3.out.trans HK4.out (fun _ _ h => h)).size ?_; intro v5 w5 hb5 hk5 _; have HF := hid_of (HR.out v5 w5 (by rw [HFR.out]; exact hb5) ((HK3.out.trans HK4.out (fun _ _ h => h)).trans hk5 (fun b hb e => by have := ((HB3.out.kept HK4.out).lt b e).1; omega))); clear hb5 hk5)
    | go_in)
  exact HF.out

end

end Go.Proofs.YthbdpfccfcceiaaGreatDoor
