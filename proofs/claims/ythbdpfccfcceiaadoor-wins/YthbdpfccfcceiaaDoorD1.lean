/-
  The sums of the program: the table of the sums of one byte, the sum of a row of bytes.
-/
import Derived.Test.YthbdpfccfcceiaaDoorW1
import Derived.Test.YthbdpfccfcceiaaDoorY2
namespace Go.Proofs.YthbdpfccfcceiaaDoor
open Go.RowKit

def b8 (b : UInt8) : Value := .int .u8 (b.toNat : Nat)
/-- A row of bytes that its owner may write on. -/
def BR (base : Nat) (w : World) (v : Value) (bs : List UInt8) : Prop := w.ownsRow base 5 1 v bs.length (bs.map b8)

/-- The tables of the program, as its text lays them. -/
def Tab (w : World) : Prop := ∀ i : Nat, i < 128 → w.cell? ⟨0, i, none⟩ = some (.int .u32 (crc8 i : Nat)) ∧ w.cell? ⟨1, i, none⟩ = some (.int .u32 (crc8 (i + 128) : Nat))

theorem Tab.lt {w : World} (h : Tab w) : 0 < w.heap.size ∧ 1 < w.heap.size := ⟨World.block_lt_of_cell? w _ (h 0 (by omega)).1, World.block_lt_of_cell? w _ (h 0 (by omega)).2⟩
theorem Tab.block {w w' : World} (h : Tab w) (h0 : w'.heap[0]? = w.heap[0]?) (h1 : w'.heap[1]? = w.heap[1]?) : Tab w' := fun i hi =>
  ⟨(World.cell?_of_block (w := w) (a := ⟨0, i, none⟩) h0).trans (h i hi).1, (World.cell?_of_block (w := w) (a := ⟨1, i, none⟩) h1).trans (h i hi).2⟩
theorem Tab.kp {S : Nat → Prop} {w w' : World} (h : Tab w) (hk : Kp S w w') (h0 : ¬ S 0) (h1 : ¬ S 1) : Tab w' := h.block (hk.block 0 h.lt.1 h0) (hk.block 1 h.lt.2 h1)
theorem Tab.kept {w w' : World} (h : Tab w) (hk : Kp (fun _ => False) w w') : Tab w' := h.kp hk (fun e => e) (fun e => e)

set_option maxRecDepth 20000 in
set_option maxHeartbeats 400000 in
theorem ofByte_any (b : Nat) (w : World) (hT : Tab w) (hb : b < 256) :
    Calls Tryd.prog 96 #[.int .u8 b] w fun e w' => e = .returned (.int .u32 (crc8 b : Nat)) ∧ w' = w := by
  by_cases h : b < 128
  · have hc := (hT b h).1
    have h' : (b : Int) < 128 := by omega
    generalize crc8 b = v at hc ⊢
    clear hT
    go_enter Tryd.func96, Tryd.ntmps96
    go_wp2
    go_ret
    exact ⟨rfl, rfl⟩
  · obtain ⟨i, rfl⟩ : ∃ i, b = i + 128 := ⟨b - 128, by omega⟩
    have hc := (hT i (by omega)).2
    have h' : ¬ ((i : Int) + 128 < 128) := by omega
    have h2 : (i : Int) < 128 := by omega
    generalize crc8 (i + 128) = v at hc ⊢
    clear hT h
    rw [show ((i + 128 : Nat) : Int) = (i : Int) + 128 from rfl]
    go_enter Tryd.func96, Tryd.ntmps96
    go_wp2
    go_ret
    exact ⟨rfl, rfl⟩

end Go.Proofs.YthbdpfccfcceiaaDoor
