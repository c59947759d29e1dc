/-
  A new store.
-/
import Derived.Test.YthbdpfccfcceiaaDoorL2
import Derived.Test.YthbdpfccfcceiaaDoorZ1
namespace Go.Proofs.YthbdpfccfcceiaaDoor
open Go.RowKit

section
variable {own : Nat → Lab} {c : Nat} {w w' : World}
variable {R : Ending → World → Prop}

/-- A store that New gave lies in its six blocks. -/
theorem x_new (s : Nat) (hm0 : w'.heap[s]? = some (.map #[] 0)) (hm1 : w'.heap[s + 1]? = some (.map #[] 0)) (hm2 : w'.heap[s + 3]? = some (.map #[] 0)) (hm3 : w'.heap[s + 4]? = some (.map #[] 0))
    (hh : w'.heap[s + 2]? = some (.cells #[.map (some s), .map (some (s + 1))] 111 (0, 0)))
    (hs : w'.heap[s + 5]? = some (.cells (newCells (s + 3) (s + 2) (s + 4)) 64 (0, 0)))
    (o0 : own s = ⟨c, 3, 0, eb⟩) (o1 : own (s + 1) = ⟨c, 4, 0, eb⟩) (o2 : own (s + 2) = ⟨c, 2, 0, eb⟩) (o3 : own (s + 3) = ⟨c, 1, 0, eb⟩) (o4 : own (s + 4) = ⟨c, 10, 0, eb⟩) (o5 : own (s + 5) = ⟨c, 0, 0, eb⟩) : XE own c w' (s + 5) (newXS (s + 4)) := by
  have f : ∀ (k : TypeId) (b : Nat), w'.heap[b]? = some (.map #[] 0) → fmap w' Tryd.prog k b 0 (fun _ => none) := fun k b hb => by
    have hlt := block_lt hb
    have hz : ({ w' with heap := w'.heap.extract 0 b } : World).heap.size = b := by simp; omega
    have h := fmap_made ({ w' with heap := w'.heap.extract 0 b } : World) Tryd.prog k
    have hn := heap_alloc_new ({ w' with heap := w'.heap.extract 0 b } : World) (.map #[] 0)
    rw [hz] at h hn
    exact h.of_block (hb.trans hn.symm)
  refine ⟨s + 3, s + 2, s, s + 1, fun _ => 0, fun _ => 0, fun _ => .slice none 0 0, o5, o3, o2, o0, o1, hs, hh, ?_, ?_, ?_, ?_, ?_, ?_, ?_, ?_, ⟨fun b e => by simp [newXS, Value.ownBlock] at e, World.ownsRow_nil _ _ _ _, fun i v hv => by simp [newXS] at hv, fun i v f hv => by simp [newXS] at hv⟩, ⟨o4, ?_, fun n b e => (by cases e), fun n b e => (by cases e)⟩⟩
  · refine (show (encI fun n => ((newXS (s + 4)).txs n).map fun _ => Value.pointer (some ⟨0, 0, none⟩)) = fun _ => none from ?_) ▸ f _ _ hm2
    funext v; unfold encI; split <;> rfl
  · intro n t e; cases e
  · intro n t e; cases e
  · intro n t e; cases e
  · refine (show (encP fun k m => ((newXS (s + 4)).ver k m).map encVer) = fun _ => none from ?_) ▸ f _ _ hm0
    funext v; unfold encP; split
    · split <;> rfl
    · rfl
  · refine (show (encS fun k => if (newXS (s + 4)).mom k = [] then none else some (Value.slice none 0 0)) = fun _ => none from ?_) ▸ f _ _ hm1
    funext v; cases v <;> rfl
  · intro k hk; exact absurd rfl hk
  · intro k hk; exact absurd rfl hk
  · refine (show (encI fun n => ((newXS (s + 4)).bk.un n).map fun b => Value.pointer (some ⟨b.pb, 0, none⟩)) = fun _ => none from ?_) ▸ f _ _ hm3
    funext v; unfold encI; split <;> rfl

theorem heap_push (w : World) (o : Obj) : (w.alloc o).heap = w.heap.push o := rfl

theorem new_any' (w : World) (s : Nat) (hs : w.heap.size = s)
    (hR : ∀ w3, Kp (fun _ => False) w w3 → w3.heap.size = s + 6 → w3.heap[s]? = some (.map #[] 0) → w3.heap[s + 1]? = some (.map #[] 0) → w3.heap[s + 3]? = some (.map #[] 0) → w3.heap[s + 4]? = some (.map #[] 0) →
      w3.heap[s + 2]? = some (.cells #[.map (some s), .map (some (s + 1))] 111 (0, 0)) →
      w3.heap[s + 5]? = some (.cells (newCells (s + 3) (s + 2) (s + 4)) 64 (0, 0)) → R (.returned (.pointer (some ⟨s + 5, 0, none⟩))) w3) :
    Calls Tryd.prog 25 #[] w R := by
  subst hs
  refine new_any w (hR _ ?_ (by simp) ?_ ?_ ?_ ?_ ?_ ?_)
  · exact (((((Kp.alloc _ _ _).trans (Kp.alloc (fun _ => False) _ _) (fun _ _ h => h)).trans (Kp.alloc (fun _ => False) _ _) (fun _ _ h => h)).trans (Kp.alloc (fun _ => False) _ _) (fun _ _ h => h)).trans (Kp.alloc (fun _ => False) _ _) (fun _ _ h => h)).trans (Kp.alloc (fun _ => False) _ _) (fun _ _ h => h)
  all_goals
    simp only [heap_push, Array.getElem?_push, Array.size_push]
    repeat (first | rw [if_pos (by omega)] | rw [if_neg (by omega)])
    exact if_pos trivial

/-- A new store, beside all that was there. -/
theorem e_new (w : World) (hT : Tab w) (hR : ∀ w' p, ∀ mu, St (fun b => b < w.heap.size) w' p (newXS mu) → Kp (fun _ => False) w w' → R (.returned (.pointer (some ⟨p, 0, none⟩))) w') :
    Calls Tryd.prog 25 #[] w R := by
  refine new_any' w _ rfl (fun w3 k3 s3 b0 b1 b2 b5 b3 b4 => hR w3 _ (w.heap.size + 4) ⟨fun b => if b = w.heap.size then ⟨2, 3, 0, eb⟩ else if b = w.heap.size + 1 then ⟨2, 4, 0, eb⟩ else if b = w.heap.size + 2 then ⟨2, 2, 0, eb⟩ else if b = w.heap.size + 3 then ⟨2, 1, 0, eb⟩ else if b = w.heap.size + 4 then ⟨2, 10, 0, eb⟩ else if b = w.heap.size + 5 then ⟨2, 0, 0, eb⟩ else ⟨0, 9, 0, eb⟩, x_new w.heap.size b0 b1 b2 b5 b3 b4 (by simp) (by simp) (by simp) (by simp) (by simp) (by simp), fun b hb => ⟨by omega, ?_⟩, hT.kept k3, ?_⟩ k3)
  · rw [if_neg (by omega), if_neg (by omega), if_neg (by omega), if_neg (by omega), if_neg (by omega), if_neg (by omega)]
    simp
  · have h0 := hT.lt
    unfold TabN
    simp only []
    rw [if_neg (by omega), if_neg (by omega), if_neg (by omega), if_neg (by omega), if_neg (by omega), if_neg (by omega), if_neg (by omega), if_neg (by omega), if_neg (by omega), if_neg (by omega), if_neg (by omega), if_neg (by omega)]
    simp

end

end Go.Proofs.YthbdpfccfcceiaaDoor
