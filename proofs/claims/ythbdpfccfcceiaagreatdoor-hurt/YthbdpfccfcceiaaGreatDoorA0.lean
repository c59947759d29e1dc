/-
  Of hurt_card.
-/
import Derived.Calls
set_option linter.all false
namespace Go.Proofs.YthbdpfccfcceiaaGreatDoor
abbrev Z:=World
abbrev D:=Value
abbrev Ac:=ByteArray
abbrev Ad:=Program
abbrev Ae:=Operand
abbrev Af:=TypeId
abbrev Ag:=FuncId
abbrev Ah:=Goroutine
abbrev Ai:=Frame
abbrev Aj:=List UInt8
abbrev Ak:=Array Value
abbrev Al:=Ending->World->Prop
abbrev Am:=Array Oper
abbrev Y (x:Int):Value:=.int .i64 x
abbrev ab (g:Nat):Value:=.pointer (some ⟨g,0,none⟩)
abbrev ae:Value:=.slice none 0 0
abbrev ag (g n c:Nat):Value:=.slice (some ⟨g,0,none⟩) n c
theorem af {S:Nat->Prop}{n:Nat}(k:Nat)(_:k<n)(h:S k):S k:=h
abbrev ah (g k:Nat):Addr:=⟨g,k,none⟩
abbrev ai:=@List.length_cons.{0}
abbrev aj:=@List.length_append.{0}
abbrev ak:=@List.getElem?_eq_some_iff.{0}
abbrev ao:=@Nat.zero_add
abbrev aq:=@Array.getElem?_push.{0}
abbrev au:=@List.mem_singleton.{0}
abbrev av:=@Bool.and_eq_true
abbrev aw:=@List.length_take.{0}
abbrev ax:=@List.length_nil.{0}
abbrev ay:=@List.size_toArray.{0}
abbrev az:=@List.getElem?_append_left.{0}
abbrev aA:=@List.eq_nil_of_length_eq_zero.{0}
abbrev aB:=@Option.map_eq_some_iff.{0,0}
abbrev aC:=@Option.getD_some.{0}
abbrev aD:=@List.mem_cons_of_mem.{0}
abbrev aE:=@List.take_succ_eq_append_getElem.{0}
abbrev aF:=@Array.mapM_eq_mapM_toList.{0,0,0}
abbrev aG:=@List.length_drop.{0}
abbrev aH:=@Option.some.injEq.{0}
abbrev aI:=@List.mem_of_getElem?.{0}
abbrev aJ:=@Option.some.inj.{0}
abbrev aK:=@List.mem_map.{0,0}
abbrev aL:=@List.mem_toArray.{0}
abbrev aM:=@List.mem_append.{0}
abbrev aN:=@List.take_of_length_le.{0}
abbrev aO:=@Array.getElem?_eq_some_iff.{0}
abbrev aP:=@Array.getElem?_eq_getElem.{0}
abbrev aQ:=@List.getElem?_eq_getElem.{0}
abbrev aR:=@Nat.lt_of_lt_of_le
abbrev aS:=@Array.getElem?_setIfInBounds_ne.{0}
abbrev aT:=@Array.getElem?_setIfInBounds_self_of_lt.{0}
abbrev aU:=@Array.getD_eq_getD_getElem?.{0}
abbrev aV:=@Array.getElem?_modify.{0}
abbrev aW:=@Nat.le_refl
abbrev aX:=@Nat.le_trans
abbrev aY:=@decide_eq_false
abbrev aZ:=@Nat.zero_le
abbrev bc:=@List.take_append_of_le_length.{0}
abbrev bg:=@Bool.false_eq_true
abbrev bh:=@List.getElem?_eq_none.{0}
abbrev bi:=@List.mem_cons_self.{0}
abbrev bj:=@List.map_append.{0,0}
abbrev bn:=@List.append_assoc.{0}
abbrev bo:=@List.append_nil.{0}
abbrev bt:=@List.getElem?_map.{0,0}
abbrev bu:=@List.getElem?_take.{0}
abbrev bx:=@absurd.{0}
abbrev bz:=@Bool.or_eq_true
abbrev bC:=@decide_eq_true_eq
abbrev bD:=@beq_iff_eq.{0}
abbrev bE:=@List.mem_cons.{0}
end Go.Proofs.YthbdpfccfcceiaaGreatDoor
