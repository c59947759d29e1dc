/-
  A dump with another byte, or cut off, is none; a log with a changed beginning, or without a file, is told: for every input, on every schedule, and no argument is changed.
-/
import Derived.Test.YthbdpfccfcceiaaGreatDoorPH0
import Derived.Test.YthbdpfccfcceiaaGreatDoorTie
import Derived.Test.YthbdpfccfcceiaaGreatDoorCards
set_option linter.all false
namespace Go.Proofs.YthbdpfccfcceiaaGreatDoor
set_option maxRecDepth 100000
open Go.ChangeShapes Go.WideShapes Go.ChangeAt Go.RowKit Go.Conc
def Lh:(Rows.hurtRow.unfollowed == Tryz.prog.unfollowed 9)=true:=by kernel_rfl
def Lg:(Rows.hurtRow.recurses == Tryz.prog.recurses 9)=true:=by kernel_rfl
def Le:(Rows.hurtRow.named == Tryz.prog.varsNamed 9)=true:=by kernel_rfl
def Lf:(Rows.hurtRow.inPlace == Tryz.prog.inPlace 9)=true:=by kernel_rfl
def Lb:true=Rows.hurtRow.goesBy Tryz.prog:=by kernel_rfl
def K8:joinedFacts Tryz.prog 9 Tryz.f9 Rows.hurtSpec Rows.hurtRow=true:=by
 unfold joinedFacts
 repeat' with_reducible refine G7 ?_ ?_
 .kernel_rfl
 .exact N0
 .exact N6
 .kernel_rfl
 .kernel_rfl
 .kernel_rfl
 .exact N7
 .kernel_rfl
 .exact NZ
 .exact Lf
 .exact Lh
 .exact Lg
 .exact Le
 .kernel_rfl
 .kernel_rfl
 .kernel_rfl
 .kernel_rfl
 .kernel_rfl
 .kernel_rfl
 .kernel_rfl
 .kernel_rfl
 .kernel_rfl
 .exact NY
 .kernel_rfl
 .exact NX
 .exact NW
 all_goals kernel_rfl
def Lc:Rows.HurtSaid:=
 OpenClaim.holds_of_wide_leaving 9 Tryz.f9 rfl rfl rfl rfl rfl rfl rfl ⟨rfl,rfl,rfl,rfl,rfl⟩ rfl rfl rfl rfl rfl (by kernel_rfl) Tryz.func9 K8
  (of_decide_eq_true (by kernel_rfl)) (by unfold Func.isWrapper;first | (rw[if_pos (by decide +kernel)];kernel_rfl) | (rw[if_neg (by decide +kernel)];exact⟨rfl,rfl⟩))
  (λos a H f _=>Ld os a H f)
theorem hurt_card:Rows.HurtCardSaid:=
 Is [.data,.data] _ false Lc (by kernel_rfl) hurt_row_tie rfl ⟨rfl,rfl⟩ (by kernel_rfl) rfl
  (λf fn h g=>by
   obtain rfl:f=9:=aJ ((show Tryz.prog.funcNamed Rows.hurtRow.func=some 9 by kernel_rfl).symm.trans h) |>.symm
   obtain rfl:fn=Tryz.f9:=(aJ (Tryz.func9.symm.trans g)).symm;exact⟨by kernel_rfl,λj t ht=>by
    rw[Tryz.params9]at ht;have a:(Tryz.f9.params.toList.all λu=>!Tryz.prog.wantsStandIn u)=true:=by kernel_rfl
    rw[Tryz.params9]at a;exact(show Tryz.prog.wantsStandIn t=false by simpa using List.all_eq_true.1 a t (by simpa using Array.mem_of_getElem? ht))⟩)
  Lb
end Go.Proofs.YthbdpfccfcceiaaGreatDoor
