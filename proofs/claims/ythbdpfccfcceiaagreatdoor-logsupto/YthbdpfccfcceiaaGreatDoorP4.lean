/-
  Every script of steps of P3 to P13 (New, Begin, Get, Scan, Put, Delete, Commit, Abort, Now, AsOf, Range, Retain, Vacuum, Stored, Files, Sync, Crash, Recover, and Recover of what a crash leaves, of which a byte may be changed; any stores, any arguments) is answered as the document's answer answers, and no argument is changed; where what comes in is of bulk at most 1048576.
-/
import Derived.Test.YthbdpfccfcceiaaGreatDoorP1x
import Derived.Test.YthbdpfccfcceiaaGreatDoorTie
import Derived.Test.YthbdpfccfcceiaaGreatDoorCards
import Derived.Deep.DeepHandedRow
namespace Go.Proofs.YthbdpfccfcceiaaGreatDoor
open Go.ChangeShapes Go.WideShapes Go.ChangeAt Go.RowKit
section
variable {R:Ending→World→Prop}{w:World}
theorem zmz (v:Value)(n:Nat)(f:Nat→S8)(hv:zfu w v n f)(hT:Tab w)(hn:n<120000)(hR:∀w',Kp (λ_=>False) w w'→R (.returned (.bool true)) w') :
  Calls Tryz.prog 5 #[v] w R:=by
 have HP:=ze (λR' (h:∀w',Kp (λ_=>False) w w'→R' (.returned (.bool true)) w')=>zyx (R:=R') 19 (by decide) v n f hv hT hn h)
 have HR:=ze hR
 clear hv hR
 go_enter Tryz.func5,Tryz.ntmps5
 go_wp2_with (first
  |(go_at_call 10;refine HP.out _ (λw' k=>?_);have HF:=ze (HR.out w' k);clear k)
  |fail)
 exact HF.out
end
set_option maxRecDepth 100000 in
theorem z1p (H:Type)(enc:TypeId × Value→H)(W:World)(base:Nat)(args:Array Value)(ds gs:List (DataW H))(before:List MemPlace)
  (hval:∀(j:Nat) t v,Tryz.f5.params[j]?=some t→args[j]?=some v→Value.okWide Tryz.prog W .any base t v)
  (hW:DataW.Whole enc Tryz.prog Tryz.f5.params.toList Rows.logsSpec.vars false W args.toList ds gs before) (hk:Rows.uptoSmall H (ds++gs)=true) (hT:Tab W) :
  Calls Tryz.prog 5 args W λe W'=>∃v,e = .returned v∧Rows.logsSpec.post enc Tryz.prog Tryz.f5 false true false false W args v W':=by
 have hW':=hW
 have hlt:=hW.lt
 obtain⟨p,q,hA0,hV,rfl,hfz,hnd⟩:=hW
 have hA:DataW.TrodAll enc Tryz.prog W 0 (λ_=>true) true Tryz.f5.params.toList args.toList ds p:=hA0
 rw[Tryz.params5]at hA hval
 obtain⟨v0,vs0,d0,ds0,p0,q0,hargs,rfl,rfl,h0,r0⟩:=trodAll_cons hA
 obtain⟨rfl,rfl,rfl⟩:=trodAll_nil r0
 obtain rfl:args=#[v0]:=by cases args;simp_all
 obtain⟨rfl,rfl⟩:=trodVars_none hV
 clear hA0
 simp only[List.append_nil]at hW' hk hlt
 have hb:Rows.uptoBulk d0≤1048576:=by
  have h:Rows.uptoBulkAll [d0]≤1048576:=of_decide_eq_true hk
  simp only[Rows.uptoBulkAll]at h
  omega
 obtain⟨n,f,hs,hn⟩:=z4s (okWide_slice Tryz.underlying22 (hval 0 22 v0 rfl rfl)) h0 hb
 refine zmz v0 n f hs hT hn (λW' k=>⟨_,rfl,?_⟩)
 refine⟨[d0],[],p0,[],p0,[],hW',trodAll_cons_mk (shut_bool Tryz.underlying4 _) trodAll_mk0,?_,rfl,z5u k _,λh=>by cases h⟩
 have hst:=Go.WideElems.Trod_stays zm0 z4r zo2 (sp':=λb=>decide (b<W.heap.size)) h0 (λp hp=>z5w k p (hlt p hp)) (λp hp=>by simpa using hlt p hp)
 have:=trodAll_cons_mk hst (trodAll_mk0 (enc:=enc) (P:=Tryz.prog) (w:=W') (base:=0) (spare:=λb=>decide (b<W.heap.size)) (held:=true))
 rw[List.append_nil]at this
 show DataW.TrodAll enc Tryz.prog W' 0 (λb=>decide (b<W.heap.size)) true Tryz.f5.params.toList [v0] [d0] p0
 rw[Tryz.params5]
 exact this
theorem zev (os:Os){H:Type}(enc:TypeId × Value→H):DataW.whole enc Tryz.prog ((World.doorLaid Tryz.prog 400 os).forCall (λ_ _=>0) ⟨#[],#[.slice none 0 0],[]⟩).memory Tryz.f5.params.toList (Rows.OpenSpec.upto Rows.logsSpec).vars false #[Value.slice none 0 0].toList 8=some ([.nil],[],[]):=by kernel_rfl
set_option maxRecDepth 100000 in
theorem z3s (os:Os)(started:os.Started)(H:Type)(enc:TypeId × Value→H)(F:Stop.Interp) :
  ReturnsInHanded {} Tryz.checked os 5 .any ((Rows.OpenSpec.upto Rows.logsSpec).preRow enc Tryz.prog Tryz.f5 Rows.logsUptoRow.domain false Rows.logsUptoRow.laid) (((Rows.OpenSpec.upto Rows.logsSpec).at F).post enc Tryz.prog Tryz.f5 false true false false):=by
 refine returnsInHanded_of_row (C:=Tryz.checked) (s:=Rows.OpenSpec.upto Rows.logsSpec) zm2 started (by kernel_rfl) Tryz.func5
  (witness_row_at (enc:=enc) (C:=Tryz.checked) false (World.doorLaid Tryz.prog 400 os) #[.slice none 0 0] rfl (by kernel_rfl) (by kernel_rfl) (by kernel_rfl)
   (OpenSpec.preRow_of_cond 8 (zev os enc) (by kernel_rfl) (λk hk=>by cases hk;kernel_rfl) (by kernel_rfl) (laidMet_of_run' 8 (by kernel_rfl) (by kernel_rfl)))) ?_
 intro W base args ds gs before hval hW _ hcond _ hL _ _
 exact z1p H enc W base args ds gs before hval hW (hcond _ rfl) (zit hL)
set_option maxRecDepth 100000 in
theorem zoz:(Rows.logsUptoRow.unfollowed == Tryz.prog.unfollowed 5)=true:=by kernel_rfl
set_option maxRecDepth 100000 in
theorem znz:(Rows.logsUptoRow.recurses == Tryz.prog.recurses 5)=true:=by kernel_rfl
set_option maxRecDepth 100000 in
theorem zcv:(Rows.logsUptoRow.named == Tryz.prog.varsNamed 5)=true:=by kernel_rfl
set_option maxRecDepth 100000 in
theorem zdv:(Rows.logsUptoRow.inPlace == Tryz.prog.inPlace 5)=true:=by kernel_rfl
set_option maxRecDepth 100000 in
theorem zfx:true=Rows.logsUptoRow.goesBy Tryz.prog:=by kernel_rfl
set_option maxRecDepth 100000 in
theorem z2s:joinedFacts Tryz.prog 5 Tryz.f5 (Rows.OpenSpec.upto Rows.logsSpec).bare (lv Rows.logsUptoRow false)=true:=by
 unfold joinedFacts
 repeat' with_reducible refine zd1 ?_ ?_
 ·kernel_rfl
 ·exact z61
 ·exact z71
 ·kernel_rfl
 ·kernel_rfl
 ·kernel_rfl
 ·exact z3z
 ·kernel_rfl
 ·exact z2z
 ·exact zdv
 ·exact zoz
 ·exact znz
 ·exact zcv
 ·kernel_rfl
 ·kernel_rfl
 ·kernel_rfl
 ·kernel_rfl
 ·kernel_rfl
 ·kernel_rfl
 ·kernel_rfl
 ·kernel_rfl
 ·kernel_rfl
 ·exact z51
 ·kernel_rfl
 ·exact z1z
 ·exact z0z
 all_goals kernel_rfl
set_option maxRecDepth 100000 in
theorem zfo:(lv Rows.logsUptoRow false).holds Tryz.pinned (Rows.OpenSpec.upto Rows.logsSpec):=
 OpenClaim.holds_of_cond 5 Tryz.f5 rfl rfl rfl rfl rfl rfl rfl ⟨rfl,rfl,rfl,rfl,rfl⟩ rfl rfl rfl rfl rfl (by kernel_rfl) Tryz.func5 z2s
  (of_decide_eq_true (by kernel_rfl)) (by unfold Func.isWrapper;first | (rw[if_pos (by decide +kernel)];kernel_rfl) | (rw[if_neg (by decide +kernel)];exact⟨rfl,rfl⟩))
  (λos started H enc _ F=>by rw[OpenClaim.pre_eq_preRow];exact z3s os started H enc F)
theorem zgo:Rows.LogsUptoSaid:=z0p (c:=Rows.logsUptoRow) rfl rfl (by kernel_rfl) zfo
set_option maxRecDepth 100000 in
theorem logsUpto_card:Rows.LogsUptoCardSaid:=
 zdw [.data,.data] _ false zgo (by kernel_rfl) logsUpto_row_tie rfl ⟨rfl,rfl⟩ (by kernel_rfl) rfl
  (λf fn hf hfn=>by
   obtain rfl:f=5:=Option.some.inj ((show Tryz.prog.funcNamed Rows.logsUptoRow.func=some 5 by kernel_rfl).symm.trans hf) |>.symm
   obtain rfl:fn=Tryz.f5:=(Option.some.inj (Tryz.func5.symm.trans hfn)).symm
   exact⟨by kernel_rfl,λj t ht=>by
    rw[Tryz.params5]at ht
    obtain rfl:t=22:=by simpa using Array.mem_of_getElem? ht
    exact (show Tryz.prog.wantsStandIn 22=false by kernel_rfl)⟩)
  zfx
end Go.Proofs.YthbdpfccfcceiaaGreatDoor
