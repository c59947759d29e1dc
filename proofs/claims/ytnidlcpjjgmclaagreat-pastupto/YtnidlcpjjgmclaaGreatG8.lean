/-
  A step of any kind; what comes ahead of a script.
-/
import Derived.Test.YtnidlcpjjgmclaaGreatG6
import Derived.Test.YtnidlcpjjgmclaaGreatZ2G7
import Derived.Test.YtnidlcpjjgmclaaGreatG11
import Derived.Test.YtnidlcpjjgmclaaGreatT7
namespace Go.Proofs.YtnidlcpjjgmclaaGreat
open Go.RowKit

/-- A step, as a script has it. -/
structure S8 where
  kind : Int
  e : Int
  a : Int
  b : Int
  s : ByteArray
  t : ByteArray
  vl : Value
  vm : Value

def S8.cells (x : S8) : List Value := [.int .i64 x.kind, .int .i64 x.e, .int .i64 x.a, .int .i64 x.b, .string x.s, .string x.t, x.vl, x.vm]

structure S8.ok (x : S8) : Prop where
  e : -9223372036854775808 ≤ x.e ∧ x.e ≤ 9223372036854775807
  a : -9223372036854775808 ≤ x.a ∧ x.a ≤ 9223372036854775807
  s : x.s.size ≤ maxLen
  t : x.t.size ≤ maxLen

section
variable {own : Nat → Lab} {w : World} {p nt : Nat} {ds : List (Nat × Nat)} {vL vP vK : Value} {bk : List (Value × Nat × Int)}
variable {R : Ending → World → Prop}

theorem step_past (h : Inv own w p ds vL vP vK bk nt) (h0 : 0 < ds.length) (hnt : nt < 1000000) (kind e a b : Int) (hk : 10 ≤ kind ∧ kind ≤ 14) (he : -9223372036854775808 ≤ e ∧ e ≤ 9223372036854775807) (ha : -9223372036854775808 ≤ a ∧ a ≤ 9223372036854775807) (st tt : ByteArray) (hst : st.size ≤ maxLen) (vl vm : Value)
    (hK : ∀ w' own' vP' vK' bk', Kp (fun b => own b ≠ lab9) w w' → (∀ b, b < w.heap.size → own' b = own b) → Inv own' w' p ds vL vP' vK' bk' (nt + 1) → R (.returned (.bool true)) w') :
    Calls Tryz.prog 7 #[.pointer (some ⟨p, 0, none⟩), .agg #[.int .i64 kind, .int .i64 e, .int .i64 a, .int .i64 b, .string st, .string tt, vl, vm]] w R := by
  have C : ∀ w2 (i : Nat) (hi : i < ds.length), Kp (fun _ => False) w w2 → Calls Tryz.prog 15 #[.pointer (some ⟨p, 0, none⟩), .agg #[.pointer (some ⟨(ds[i]).1, 0, none⟩), .pointer (some ⟨(ds[i]).2, 0, none⟩)], .agg #[.int .i64 kind, .int .i64 e, .int .i64 a, .int .i64 b, .string st, .string tt, vl, vm]] w2 (fun r w' => r = .returned (.bool true) ∧ R (.returned (.bool true)) w') := fun w2 i hi k =>
    i_past (h.same k (fun _ _ => rfl)) hi hnt kind e a b hk ha st tt hst vl vm (fun w' own' vP' vK' bk' k' a' I => ⟨rfl, hK w' own' vP' vK' bk' ((k.mono (fun _ _ h => h.elim)).trans k' (fun _ _ h => h)) (fun b hb => a' b (Nat.lt_of_lt_of_le hb k.size)) I⟩)
  rcases (by omega : kind = 10 ∨ kind = 11 ∨ kind = 12 ∨ kind = 13 ∨ kind = 14) with rfl | rfl | rfl | rfl | rfl
  · exact step_10 h h0 hnt e a b he st tt vl vm C
  · exact step_11 h h0 hnt e a b he st tt vl vm C
  · exact step_12 h h0 hnt e a b he st tt vl vm C
  · exact step_13 h h0 hnt e a b he st tt vl vm C
  · exact step_14 h h0 hnt e a b he st tt vl vm C

theorem step_any (h : Inv own w p ds vL vP vK bk nt) (hnt : nt < 1000000) (kind e a b : Int) (s t : ByteArray) (vl vm : Value) (hx : (⟨kind, e, a, b, s, t, vl, vm⟩ : S8).ok) (h9 : kind ≤ 14) (h0 : kind = 1 ∨ 0 < ds.length)
    (hK : ∀ w' own' ds' vL' vP' vK' bk', Kp (fun b => own b ≠ lab9) w w' → (∀ b, b < w.heap.size → own' b = own b) → Inv own' w' p ds' vL' vP' vK' bk' (nt + 1) → 0 < ds'.length → R (.returned (.bool true)) w') :
    Calls Tryz.prog 7 #[.pointer (some ⟨p, 0, none⟩), .agg #[.int .i64 kind, .int .i64 e, .int .i64 a, .int .i64 b, .string s, .string t, vl, vm]] w R := by
  obtain ⟨he, ha, hs, ht⟩ := hx
  dsimp only at he ha hs ht
  by_cases h1 : kind = 1
  · subst h1
    exact step_new h hnt e a b s t vl vm (fun w' own' vL' q k a I => hK w' own' _ vL' vP vK bk k a I (by simp))
  · replace h0 : 0 < ds.length := h0.resolve_left h1
    have K : ∀ w' own' vP' vK' bk', Kp (fun b => own b ≠ lab9) w w' → (∀ b, b < w.heap.size → own' b = own b) → Inv own' w' p ds vL vP' vK' bk' (nt + 1) → R (.returned (.bool true)) w' := fun w' own' vP' vK' bk' k a I => hK w' own' ds vL vP' vK' bk' k a I h0
    by_cases h2 : kind ≤ 0
    · exact step_none h h0 hnt kind e a b h2 he ha s t hs ht vl vm K
    · by_cases h10 : 10 ≤ kind
      · exact step_past h h0 hnt kind e a b ⟨h10, h9⟩ he ha s t hs vl vm K
      rcases (by omega : kind = 2 ∨ kind = 3 ∨ kind = 4 ∨ kind = 5 ∨ kind = 6 ∨ kind = 7 ∨ kind = 8 ∨ kind = 9) with rfl | rfl | rfl | rfl | rfl | rfl | rfl | rfl
      · exact step_2 h h0 hnt e a b he ha s t hs ht vl vm K
      · exact step_3 h h0 hnt e a b he ha s t hs ht vl vm K
      · exact step_4 h h0 hnt e a b he ha s t hs ht vl vm K
      · exact step_5 h h0 hnt e a b he ha s t hs ht vl vm K
      · exact step_6 h h0 hnt e a b he ha s t hs ht vl vm K
      · exact step_7 h h0 hnt e a b he ha s t hs ht vl vm K
      · exact step_8 h h0 hnt e a b he ha s t hs ht vl vm K
      · exact step_9 h h0 hnt e a b he ha s t hs ht vl vm K

theorem inv_kept (h : Inv own w p ds vL vP vK bk nt) (hnt : nt < 1000000) (hK : ∀ w', Kp (fun _ => False) w w' → Inv own w' p ds vL vP vK bk nt → R (.returned (.bool true)) w') :
    Calls Tryz.prog 8 #[.pointer (some ⟨p, 3, none⟩)] w R :=
  kept_any h.book (by have := h.nbk; omega) (fun w' k => hK w' k (h.same k (fun _ _ => rfl)))

/-- A script in memory. -/
structure Scr (w : World) (g off n : Nat) (f : Nat → S8) : Prop where
  cell : ∀ i, i < n → ∀ k v, (f i).cells[k]? = some v → w.cell? ⟨g, off + i * 8 + k, none⟩ = some v
  lt : g < w.heap.size
  ok : ∀ i, i < n → (f i).ok

theorem Scr.kept {w' : World} {g off n : Nat} {f : Nat → S8} {S : Nat → Prop} (h : Scr w g off n f) (k : Kp S w w') (hn : ¬ S g) : Scr w' g off n f :=
  ⟨fun i hi j v hv => (k.cell (a := ⟨g, off + i * 8 + j, none⟩) h.lt hn).trans (h.cell i hi j v hv), Nat.lt_of_lt_of_le h.lt k.size, h.ok⟩

theorem Scr.at {g off n : Nat} {f : Nat → S8} (h : Scr w g off n f) (i : Nat) (hi : i < n) : ∃ kind e a b s t vl vm, f i = ⟨kind, e, a, b, s, t, vl, vm⟩ ∧ (⟨kind, e, a, b, s, t, vl, vm⟩ : S8).ok ∧ w.cell? ⟨g, off + i * 8, none⟩ = some (.int .i64 kind) ∧ w.cell? ⟨g, off + i * 8 + 1, none⟩ = some (.int .i64 e) ∧ w.cell? ⟨g, off + i * 8 + 2, none⟩ = some (.int .i64 a) ∧ w.cell? ⟨g, off + i * 8 + 3, none⟩ = some (.int .i64 b) ∧
    w.cell? ⟨g, off + i * 8 + 4, none⟩ = some (.string s) ∧ w.cell? ⟨g, off + i * 8 + 5, none⟩ = some (.string t) ∧ w.cell? ⟨g, off + i * 8 + 6, none⟩ = some vl ∧ w.cell? ⟨g, off + i * 8 + 7, none⟩ = some vm :=
  ⟨_, _, _, _, _, _, _, _, rfl, h.ok i hi, h.cell i hi 0 _ rfl, h.cell i hi 1 _ rfl, h.cell i hi 2 _ rfl, h.cell i hi 3 _ rfl, h.cell i hi 4 _ rfl, h.cell i hi 5 _ rfl, h.cell i hi 6 _ rfl, h.cell i hi 7 _ rfl⟩

def bsteps : List S8 := [⟨1, 0, 0, 0, ⟨#[]⟩, ⟨#[]⟩, .slice none 0 0, .slice none 0 0⟩,
  ⟨2, 0, 0, 0, ⟨#[]⟩, ⟨#[]⟩, .slice none 0 0, .slice none 0 0⟩,
  ⟨5, 0, 1, 0, ⟨#[97]⟩, ⟨#[120]⟩, .slice none 0 0, .slice none 0 0⟩,
  ⟨2, 0, 0, 0, ⟨#[]⟩, ⟨#[]⟩, .slice none 0 0, .slice none 0 0⟩,
  ⟨7, 0, 1, 0, ⟨#[]⟩, ⟨#[]⟩, .slice none 0 0, .slice none 0 0⟩,
  ⟨5, 0, 2, 0, ⟨#[97]⟩, ⟨#[121]⟩, .slice none 0 0, .slice none 0 0⟩,
  ⟨7, 0, 2, 0, ⟨#[]⟩, ⟨#[]⟩, .slice none 0 0, .slice none 0 0⟩,
  ⟨10, 0, 1, 0, ⟨#[97]⟩, ⟨#[]⟩, .slice none 0 0, .slice none 0 0⟩,
  ⟨17, 0, 5, 0, ⟨#[]⟩, ⟨#[]⟩, .slice none 0 0, .slice none 0 0⟩,
  ⟨19, 0, 1000, 1, ⟨#[]⟩, ⟨#[]⟩, .slice none 0 0, .slice none 0 0⟩,
  ⟨20, 0, 0, 0, ⟨#[]⟩, ⟨#[]⟩, .slice none 0 0, .slice none 0 0⟩,
  ⟨21, 0, 1, 9, ⟨#[]⟩, ⟨#[]⟩, .slice none 0 0, .slice none 0 0⟩,
  ⟨23, 0, 1, 1, ⟨#[]⟩, ⟨#[]⟩, .slice none 0 0, .slice none 0 0⟩,
  ⟨25, 0, 1, 0, ⟨#[97]⟩, ⟨#[]⟩, .slice none 0 0, .slice none 0 0⟩]
def bstep (i : Nat) : S8 := bsteps.getD i ⟨0, 0, 0, 0, ⟨#[]⟩, ⟨#[]⟩, .slice none 0 0, .slice none 0 0⟩

theorem scr_begun (w : World) : Scr (w.alloc (.cells (bsteps.flatMap S8.cells).toArray 38)) w.heap.size 0 14 bstep := by
  have hb := heap_alloc_new w (.cells (bsteps.flatMap S8.cells).toArray 38)
  refine ⟨fun i hi k v hv => ?_, block_lt hb, fun i hi => ?_⟩
  · rw [cell_of hb]
    have hk : k < 8 := by
      have := (List.getElem?_eq_some_iff.1 hv).1
      simpa [S8.cells] using this
    have key : ∀ i, i < 14 → ∀ k, k < 8 → (bsteps.flatMap S8.cells).toArray[0 + i * 8 + k]? = (bstep i).cells[k]? := by
      intro i hi k hk
      rcases (by omega : i = 0 ∨ i = 1 ∨ i = 2 ∨ i = 3 ∨ i = 4 ∨ i = 5 ∨ i = 6 ∨ i = 7 ∨ i = 8 ∨ i = 9 ∨ i = 10 ∨ i = 11 ∨ i = 12 ∨ i = 13) with rfl | rfl | rfl | rfl | rfl | rfl | rfl | rfl | rfl | rfl | rfl | rfl | rfl | rfl <;>
      (rcases (by omega : k = 0 ∨ k = 1 ∨ k = 2 ∨ k = 3 ∨ k = 4 ∨ k = 5 ∨ k = 6 ∨ k = 7) with rfl | rfl | rfl | rfl | rfl | rfl | rfl | rfl) <;> rfl
    rw [key i hi k hk]
    exact hv
  · rcases (by omega : i = 0 ∨ i = 1 ∨ i = 2 ∨ i = 3 ∨ i = 4 ∨ i = 5 ∨ i = 6 ∨ i = 7 ∨ i = 8 ∨ i = 9 ∨ i = 10 ∨ i = 11 ∨ i = 12 ∨ i = 13) with rfl | rfl | rfl | rfl | rfl | rfl | rfl | rfl | rfl | rfl | rfl | rfl | rfl | rfl <;> exact ⟨by decide, by decide, by decide, by decide⟩

set_option maxRecDepth 20000 in
set_option maxHeartbeats 2000000 in
theorem begun_any (last : Int) (hlast : 9 ≤ last ∧ last ≤ 14) (h : Inv own w p [] vL vP vK bk nt) (hnt : nt < 900000)
    (hK : ∀ w' own' ds' vL' vP' vK' bk', Kp (fun b => own b ≠ lab9) w w' → (∀ b, b < w.heap.size → own' b = own b) → Inv own' w' p ds' vL' vP' vK' bk' (nt + 14) → 0 < ds'.length → R (.returned (.bool true)) w') :
    Calls Tryz.prog 6 #[.pointer (some ⟨p, 0, none⟩), .int .i64 last] w R := by
  have H := hid_of h
  have HK := hid_of hK
  have HNT := hid_of hnt
  clear h hK hnt
  go_enter Tryz.func6, Tryz.ntmps6
  go_wp2
  go_loopw [6] (fun v6 wr => ∃ i : Nat, i ≤ 14 ∧ v6 = .int .i64 i ∧ Scr wr w.heap.size 0 14 bstep ∧ ∃ own' ds vL vP vK bk, Inv own' wr p ds vL vP vK bk (nt + i) ∧ (0 < i → 0 < ds.length) ∧ Kp (fun b => own b ≠ lab9) w wr ∧ (∀ b, b < w.heap.size → own' b = own b) ∧ own' w.heap.size = lab9) (fun v6 _ => 14 - (intOf v6).toNat)
  case atStart =>
    refine ⟨0, Nat.zero_le _, rfl, scr_begun w, base9 own w.heap.size, [], vL, vP, vK, bk, ?_, fun h => absurd h (by omega), Kp.alloc _ _ _, fun b hb => base9_old hb, base9_new (by omega)⟩
    exact H.out.same (Kp.alloc _ _ _) (fun b hb => base9_old hb)
  case round =>
    obtain ⟨i, hile, rfl, hscr, own', ds, vL, vP, vK, bk, hI, hds, hkp, hag, h9⟩ := hrel
    by_cases hin : i < 14
    · have hin' : (i : Int) < 14 := by omega
      obtain ⟨kind, e, a, b, s, t, vl, vm, hf, hok, q0, q1, q2, q3, q4, q5, q6, q7⟩ := hscr.at i hin
      simp only [Nat.zero_add] at q0 q1 q2 q3 q4 q5 q6 q7
      have HSC := hid_of hscr
      have HKP := hid_of hkp
      have HAG := hid_of hag
      have H9 := hid_of h9
      have HLT : Hid (w.heap.size < wr.heap.size) := hscr.lt
      have HI1 := hid_of hI
      have HOK := hid_of hok
      by_cases hk : kind ≤ last
      · have H0 : Hid (kind = 1 ∨ 0 < ds.length) := by
          by_cases hi0 : 0 < i
          · exact Or.inr (hds hi0)
          · have : i = 0 := by omega
            subst this
            left
            have := congrArg S8.kind hf
            exact this.symm
        clear hscr hI hds hkp hag h9 hin hile hok hf
        go_wp2_with (first
          | (go_at_call 7; refine step_any HI1.out ?_ kind e a b s t vl vm HOK.out (by omega) H0.out (fun w2 own2 ds2 vL2 vP2 vK2 bk2 k2 a2 I2 hd2 => ?_); (have := HNT.out; omega))
          | fail)
        go_roundw
        case rel =>
          refine ⟨i + 1, by omega, by go_num, HSC.out.kept k2 (fun h => h H9.out), own2, ds2, vL2, vP2, vK2, bk2, I2, fun _ => hd2, HKP.out.trans k2 (fun b hb e => by rw [HAG.out b hb] at e; exact e), fun b hb => (a2 b (Nat.lt_of_lt_of_le hb HKP.out.size)).trans (HAG.out b hb), (a2 _ HLT.out).trans H9.out⟩
        case measure => simp [intOf]; omega
      · have hk' : ¬ kind ≤ last := hk
        have HD : Hid (0 < ds.length) := by
          apply hds
          by_cases hi0 : 0 < i
          · exact hi0
          · have : i = 0 := by omega
            subst this
            have := congrArg S8.kind hf
            have h1 : kind = 1 := this.symm
            omega
        clear hscr hI hds hkp hag h9 hin hile hok hf
        go_wp2
        go_roundw
        case rel => exact ⟨i + 1, by omega, by go_num, HSC.out, own', ds, vL, vP, vK, bk, HI1.out.mono (by omega), fun _ => HD.out, HKP.out, HAG.out, H9.out⟩
        case measure => simp [intOf]; omega
    · have hie : i = 14 := by omega
      subst hie
      have HF := hid_of (HK.out wr own' ds vL vP vK bk hkp hag hI (hds (by omega)))
      clear hscr hI hds hkp hag h9 hin hile
      go_wp2
      exact HF.out

end

end Go.Proofs.YtnidlcpjjgmclaaGreat
