/-
  Of the proof of logsUpto_card.
-/
import Derived.Test.YthbdpfccfcceiaaGreatDoorLA5
namespace Go.Proofs.YthbdpfccfcceiaaGreatDoor
section
open Go.RowKit Go.Maps Go.Lib
def zbj (O:Nat)(al:List Value)(b:Nat):Prop:=b=O∨∃(j n c:Nat),al[j]?=some (.slice (some ⟨b,0,none⟩) n c)
theorem zwd.lentLow {w:World}{base:Nat}{fs:List (List UInt8)}{X O:Nat}{va:Value}{al ol:List Value}(h:zwd w base fs X O va al ol){b:Nat}(hb:zbj O al b):base≤b:=by
 rcases hb with rfl|⟨j,n,c,hj⟩
 ·exact h.low.2.1
 ·have hall:al.length=fs.length:=by simpa using h.rowA.1
  have hl:=(List.getElem?_eq_some_iff.1 hj).1
  obtain⟨g,e,h1,_⟩:=h.at_ j _ fs[j] hj (List.getElem?_eq_getElem (by omega))
  injection e with e _ _
  injection e with e
  injection e with e _ _
  subst e
  exact h1
theorem zwd.read {w:World}{base:Nat}{fs:List (List UInt8)}{X O:Nat}{va:Value}{al ol:List Value}(h:zwd w base fs X O va al ol){i:Nat}{f:List UInt8}(hf:fs[i]?=some f) :
  ∃(ga cap g:Nat) (q:Option Addr) (k:Nat),va = .slice (some ⟨ga,0,none⟩) fs.length cap∧w.cell? ⟨ga,i,none⟩=some (.slice (some ⟨g,0,none⟩) (f.length+8) (f.length+8))∧
   w.cell? ⟨O,i,none⟩=some (.slice q f.length k)∧(f≠[]→q=some ⟨g,0,none⟩)∧w.heap[g]?=some (.cells (z4e f) 5 (0,0))∧al[i]?=some (.slice (some ⟨g,0,none⟩) (f.length+8) (f.length+8)):=by
 have hi:=(List.getElem?_eq_some_iff.1 hf).1
 have hall:al.length=fs.length:=by simpa using h.rowA.1
 obtain⟨ga,cap,cur,rfl,_,_⟩:=zib h.rowA (by omega)
 have hu:al[i]?=some al[i]:=List.getElem?_eq_getElem (by omega)
 obtain⟨g,e,_,h3⟩:=h.at_ i _ f hu hf
 rw[e]at hu
 have hc:=zfe h.rowA i _ hu
 rcases h.outs i f hf with ⟨h1,rfl⟩|⟨g2,h1,h2⟩
 ·exact⟨ga,cap,g,none,0,rfl,hc,(zg h.rowO i).trans (by rw[List.getElem?_toArray];exact h1),λe=>absurd rfl e,h3,hu⟩
 ·rw[hu]at h1
  injection h1 with h1
  injection h1 with h1 _ _
  injection h1 with h1
  injection h1 with h1 _ _
  subst h1
  exact⟨ga,cap,g,_,_,rfl,hc,(zg h.rowO i).trans (by rw[List.getElem?_toArray];exact h2),λ_=>rfl,h3,hu⟩
theorem zdx (f:List UInt8)(j:Nat)(hj:j<f.length):(z4e f)[j]?=some (b8 (f.getD j 0)):=by
 rw[z4e,List.getElem?_toArray,List.getElem?_append_left (by simpa using hj),List.getElem?_map,List.getElem?_eq_getElem hj,List.getD_eq_getElem?_getD,List.getElem?_eq_getElem hj]
 rfl
theorem zcx (f:List UInt8)(j:Nat)(hj:f.length≤j)(h8:j<f.length+8):(z4e f)[j]?=some (b8 77):=by
 rw[z4e,List.getElem?_toArray,List.getElem?_append_right (by simpa using hj),List.getElem?_replicate,if_pos (by simp;omega)]
end
section
open Go.RowKit Go.Maps Go.Lib
theorem zwd.notS {w:World}{base:Nat}{fs:List (List UInt8)}{X O:Nat}{va:Value}{al ol:List Value}(h:zwd w base fs X O va al ol):¬zbj O al X∧∀b,va.ownBlock=some b→¬zbj O al b:=by
 have hall:al.length=fs.length:=by simpa using h.rowA.1
 have key:∀(j g n c:Nat),al[j]?=some (.slice (some ⟨g,0,none⟩) n c)→∃f,w.heap[g]?=some (.cells (z4e f) 5 (0,0)):=λj g n c hj=>by
  have hl:=(List.getElem?_eq_some_iff.1 hj).1
  obtain⟨g2,e,_,h3⟩:=h.at_ j _ fs[j] hj (List.getElem?_eq_getElem (by omega))
  injection e with e _ _
  injection e with e
  injection e with e _ _
  subst e
  exact⟨_,h3⟩
 refine⟨λhb=>?_,λb e hb=>?_⟩
 ·rcases hb with e|⟨j,n,c,hj⟩
  ·exact h.low.2.2 e
  ·obtain⟨f,h3⟩:=key j _ n c hj
   rw[h.blk]at h3
   injection h3 with h3
   injection h3 with _ h3
   cases h3
 ·rcases hb with rfl|⟨j,n,c,hj⟩
  ·exact h.vaO e
  ·obtain⟨f,h3⟩:=key j _ n c hj
   exact zjd h3 h.rowA (by decide) e
structure zzf (w w':World)(fs:List (List UInt8))(O:Nat)(al:List Value):Prop where
 kp:Kp (zbj O al) w w'
 at_:∀(j:Nat) f,fs[j]?=some f→∃g cs,al[j]?=some (.slice (some ⟨g,0,none⟩) (f.length+8) (f.length+8))∧w'.heap[g]?=some (.cells cs 5 (0,0))∧cs.size=f.length+8
 row:∃cs,w'.heap[O]?=some (.cells cs 48 (0,0))∧cs.size=fs.length+2
theorem zwd.cleanM {w w':World}{base:Nat}{fs:List (List UInt8)}{X O:Nat}{va:Value}{al ol:List Value}(h:zwd w base fs X O va al ol)(k:Kp (λ_=>False) w w'):zzf w w' fs O al:=by
 have h2:=h.kp k (λ_ _ _ e=>e)
 refine⟨k.mono (λ_ _ e=>e.elim),λj f hf=>?_,_,h2.rowO,by simp[h.lenO]⟩
 obtain⟨_,_,g,_,_,_,_,_,_,h3,h4⟩:=h2.read hf
 exact⟨g,_,h4,h3,by simp[z4e]⟩
theorem zzf.setG {w w':World}{fs:List (List UInt8)}{O:Nat}{al:List Value}(h:zzf w w' fs O al){j g n c:Nat}(hj:al[j]?=some (.slice (some ⟨g,0,none⟩) n c))(k:Nat)(v:Value){cs0:Array Value}(hg:w'.heap[g]?=some (.cells cs0 5 (0,0))):zzf w (w'.setCell ⟨g,k,none⟩ v) fs O al:=by
 have kg:=Kp.setCell (S:=λb=>b=g) w' ⟨g,k,none⟩ v rfl
 refine⟨h.kp.trans kg (λb _ e=>by subst e;exact Or.inr ⟨j,n,c,hj⟩),λi f hf=>?_,?_⟩
 ·obtain⟨g2,cs,h1,h2,h3⟩:=h.at_ i f hf
  by_cases e:g2=g
  ·subst e
   exact⟨g2,_,h1,zq h2 v,by simpa using h3⟩
  ·exact⟨g2,cs,h1,(kg.block g2 (zh h2) e).trans h2,h3⟩
 ·obtain⟨cs,h2,h3⟩:=h.row
  refine⟨cs,(kg.block O (zh h2) (λe=>?_)).trans h2,h3⟩
  subst e
  rw[hg]at h2
  injection h2 with h2
  injection h2 with _ h2
  cases h2
theorem zzf.setO {w w':World}{fs:List (List UInt8)}{O:Nat}{al:List Value}(h:zzf w w' fs O al)(k:Nat)(v:Value):zzf w (w'.setCell ⟨O,k,none⟩ v) fs O al:=by
 have kg:=Kp.setCell (S:=λb=>b=O) w' ⟨O,k,none⟩ v rfl
 obtain⟨cs0,hO,hs0⟩:=h.row
 refine⟨h.kp.trans kg (λb _ e=>Or.inl e),λi f hf=>?_,_,zq hO v,by simpa using hs0⟩
 obtain⟨g2,cs,h1,h2,h3⟩:=h.at_ i f hf
 refine⟨g2,cs,h1,(kg.block g2 (zh h2) (λe=>?_)).trans h2,h3⟩
 subst e
 rw[hO]at h2
 injection h2 with h2
 injection h2 with _ h2
 cases h2
theorem zwd.last {w:World}{base:Nat}{fs:List (List UInt8)}{X O:Nat}{va:Value}{al ol:List Value}(h:zwd w base fs X O va al ol){j:Nat}(hj:j=fs.length∨j=fs.length+1) :
  ∃g,w.cell? ⟨O,j,none⟩=some (.slice (some ⟨g,0,none⟩) 1 1)∧RdN w (.slice (some ⟨g,0,none⟩) 1 1) [77] g:=by
 obtain⟨g,_,h2,h3⟩:=h.ends j hj
 refine⟨g,(zg h.rowO j).trans (by rw[List.getElem?_toArray];exact h2),_,_,rfl,by simp,λ_=>⟨zh h3,0,rfl,λk hk=>?_⟩⟩
 obtain rfl:k=0:=by simp at hk;exact hk
 exact zg h3 0
section
variable {R:Ending→World→Prop}{w:World}
set_option maxRecDepth 20000 in
set_option maxHeartbeats 4000000 in
theorem zwo {base:Nat}{fs:List (List UInt8)}{X O:Nat}{va l:Value}{al ol:List Value}(hL:zwd w base fs X O va al ol)(hv:FIn w l fs (λb=>b<base))
  (hR:∀w',Kp (zbj O al) w w'→R (.returned (.bool true)) w') :
  Calls Tryz.prog 94 #[.pointer (some ⟨X,0,none⟩),l] w R:=by
 have HL:=ze hL
 have HV:=ze hv
 have HR:=ze hR
 obtain⟨a0,cap0,rfl,hn0,_⟩:=hv
 have HN0:=ze hn0
 have hn0':(fs.length:Int)≤1100000:=by omega
 obtain⟨aa,ca,hva⟩:=zp hL.rowA
 have x0:w.cell? ⟨X,0,none⟩=some (.slice aa fs.length ca):=by rw[← hva];exact zg hL.blk 0
 have HX:Hid (∀wr,Kp (zbj O al) w wr→wr.cell? ⟨X,0,none⟩=some (.slice aa fs.length ca)∧wr.cell? ⟨X,1,none⟩=some (.slice (some ⟨O,0,none⟩) (fs.length+2) (fs.length+2))):=λwr k=>by
  have h:=(k.block X (zh hL.blk) hL.notS.1).trans hL.blk
  exact⟨by rw[← hva];exact zg h 0,zg h 1⟩
 have HVA:=ze hva
 clear hL hR hva hn0
 go_enter Tryz.func94,Tryz.ntmps94
 go_wp2_with fail
 go_loopw [5,6,7] (λv5 v6 _ wr=>∃i:Nat,i≤fs.length∧v5 = .bool true∧v6 = .int .i64 i∧Kp (λ_=>False) w wr) (λ_ v6 _ _=>fs.length-(intOf v6).toNat)
 case atStart=>exact⟨0,Nat.zero_le _,by simp,rfl,Kp.refl _ _⟩
 case round=>
  clear x0
  obtain⟨i,hi,rfl,rfl,hk⟩:=hrel
  have HK:=ze hk
  by_cases hlt:i<fs.length
  ·have hlt':(i:Int)<fs.length:=by omega
   obtain⟨f,hfi⟩:∃f,fs[i]?=some f:=⟨fs[i],List.getElem?_eq_getElem hlt⟩
   have HFI:=ze hfi
   have HLT:=ze hlt
   have HC:Hid (∀wr,Kp (λ_=>False) w wr→∃(ga g gl ol gf:Nat) (cf k:Nat) (q bf:Option Addr),aa=some ⟨ga,0,none⟩∧a0=some ⟨gl,ol,none⟩∧wr.cell? ⟨ga,i,none⟩=some (.slice (some ⟨g,0,none⟩) (f.length+8) (f.length+8))∧wr.cell? ⟨O,i,none⟩=some (.slice q f.length k)∧wr.cell? ⟨gl,ol+i,none⟩=some (.slice bf f.length cf)∧(f≠[]→q=some ⟨g,0,none⟩∧∃of,bf=some ⟨gf,of,none⟩∧∀j,j<f.length→wr.cell? ⟨gf,of+j,none⟩=some (b8 (f.getD j 0))∧wr.cell? ⟨g,j,none⟩=some (b8 (f.getD j 0)))∧(∀j,f.length≤j→j<f.length+8→wr.cell? ⟨g,j,none⟩=some (b8 77))∧f.length≤1100000):=λwr k=>by
    obtain⟨ga,cap,g,q,k2,e1,h1,h2,h3,h4,_⟩:=(HL.out.kp k (λ_ _ _ e=>e)).read HFI.out
    rw[HVA.out]at e1
    injection e1 with e1 _ _
    obtain⟨a1,c1,e2,_,h5⟩:=HV.out.kp k (λ_ _ e=>e)
    injection e2 with e2 _ _
    obtain⟨gl,ol,e3,_,_,h5⟩:=h5 (λe=>by have h:=HLT.out;rw[e]at h;simp at h)
    obtain⟨bf,n,c,gf,h6,h7,_,h8⟩:=h5 i f HFI.out
    obtain⟨q7,k7,e7,_,h7⟩:=h7
    injection e7 with e7 e8 e9
    subst e7 e8 e9
    refine⟨ga,g,gl,ol,gf,c,k2,q,bf,e1,e2.trans e3,h1,h2,h6,λhne=>?_,λj hj1 hj2=>(zg h4 j).trans (zcx f j hj1 hj2),h8⟩
    obtain⟨_,of,e,h9⟩:=h7 hne
    exact⟨h3 hne,of,e,λj hj=>⟨h9 j hj,(zg h4 j).trans (zdx f j hj)⟩⟩
   obtain⟨xa,xb⟩:=HX.out wr (hk.mono (λ_ _ e=>e.elim))
   obtain⟨ga,g,gl,ox,gf,cf,k,q,bf,rfl,rfl,ca1,ca2,ca3,hin0,hend0,hfl⟩:=HC.out wr hk
   clear hin0 hend0
   have hlt2:(i:Int)<(fs.length:Int)+2:=by omega
   clear hk hfi hlt hfl
   go_wp2_with fail
   go_region
   all_goals go_wp2_with fail
   clear xa xb ca1 ca2 ca3
   go_loopw [5,7] (λv5 v7 wz=>∃j:Nat,j≤f.length+8∧v5 = .bool true∧v7 = .int .i64 j∧Kp (λ_=>False) w wz) (λ_ v7 _=>f.length+8-(intOf v7).toNat)
   case atStart=>exact⟨0,by omega,by simp,rfl,HK.out.trans (Kp.drew (λ_=>False) _) (λ_ _ e=>e)⟩
   case round=>
    obtain⟨j,hj,rfl,rfl,hkj⟩:=hrel
    have HKJ:=ze hkj
    obtain⟨xa,xb⟩:=HX.out wr (hkj.mono (λ_ _ e=>e.elim))
    obtain⟨ga',g2,gl',ox',gf2,cf2,k2,q2,bf2,e1,e2,ca1,ca2,ca3,hin,hend,hfl⟩:=HC.out wr hkj
    injection e1 with e1
    injection e1 with e1 _ _
    subst e1
    injection e2 with e2
    injection e2 with e2 e3 _
    subst e2 e3
    have hfl':(f.length:Int)≤1100000:=by omega
    by_cases hjl:j<f.length+8
    ·have hjl':(j:Int)<(f.length:Int)+8:=by omega
     by_cases hjf:j<f.length
     ·have hjf':(j:Int)<f.length:=by omega
      have hne:f≠[]:=λe=>by rw[e]at hjf;simp at hjf
      obtain⟨rfl,of,rfl,hb⟩:=hin hne
      obtain⟨b1o,b2o⟩:=hb j hjf
      have b1:wr.cell? ⟨gf2,of+j,none⟩=some (.int .u8 ((f.getD j 0).toNat:Nat)):=b1o
      have b2:wr.cell? ⟨g2,j,none⟩=some (.int .u8 ((f.getD j 0).toNat:Nat)):=b2o
      clear b1o b2o
      generalize ((f.getD j 0).toNat:Nat)=z at b1 b2
      obtain⟨z2,hz2⟩:∃z2:Nat,z2=z:=⟨z,rfl⟩
      rw[← hz2]at b2
      have hzz:((z2:Int) == (z:Int))=true:=by rw[hz2];simp
      clear hz2
      clear hb hend hin hkj hfl
      go_wp2_with fail
      go_quiet (fail)
      all_goals go_wp2_with fail
      go_roundw
      case rel=>exact⟨j+1,by omega,by simp,by go_num,HKJ.out.trans (Kp.drewN (λ_=>False) _ _) (λ_ _ e=>e)⟩
      case measure=>simp[intOf];omega
     ·have hjf':¬(j:Int)<f.length:=by omega
      have b2:wr.cell? ⟨g2,j,none⟩=some (.int .u8 77):=hend j (by omega) hjl
      clear hend hin hkj hfl
      go_wp2_with fail
      go_roundw
      case rel=>exact⟨j+1,by omega,by simp,by go_num,HKJ.out⟩
      case measure=>simp[intOf];omega
    ·have hjl':¬(j:Int)<(f.length:Int)+8:=by omega
     clear hend hin hkj hfl
     go_wp2_with fail
     go_roundw
     case rel=>exact⟨i+1,by have:=HLT.out;omega,rfl,by go_num,HKJ.out⟩
     case measure=>have:=HLT.out;simp[intOf];omega
  ·obtain rfl:i=fs.length:=by omega
   have hge:¬(fs.length:Int)<fs.length:=by omega
   obtain⟨xa,xb⟩:=HX.out wr (hk.mono (λ_ _ e=>e.elim))
   have hL2:=HL.out.kp hk (λ_ _ _ e=>e)
   obtain⟨gA,cA,rA⟩:=hL2.last (j:=fs.length) (Or.inl rfl)
   obtain⟨gB,cB,rB⟩:=hL2.last (j:=fs.length+1) (Or.inr rfl)
   have kA:=zci rA
   have kB:=zci rB
   have eA:z7b [77]=⟨#[77]⟩:=by decide
   rw[eA]at kA kB
   have hlt1:(fs.length:Int)<(fs.length:Int)+2:=by omega
   have hlt2:(fs.length:Int)+1<(fs.length:Int)+2:=by omega
   clear hk hlt rA rB hi eA hL2
   have HROW:Hid (∀wr,zzf w wr fs O al→∀(i:Nat) f,fs[i]?=some f→∃(ga g:Nat) (cs:Array Value),aa=some ⟨ga,0,none⟩∧wr.cell? ⟨ga,i,none⟩=some (.slice (some ⟨g,0,none⟩) (f.length+8) (f.length+8))∧wr.heap[g]?=some (.cells cs 5 (0,0))∧cs.size=f.length+8∧al[i]?=some (.slice (some ⟨g,0,none⟩) (f.length+8) (f.length+8))∧f.length≤1100000):=λwr hm i f hf=>by
    have hr:=zi HL.out.rowA hm.kp HL.out.notS.2
    rw[HVA.out]at hr
    obtain⟨ga,cap,cur,e1,_,_⟩:=zib hr (by have:=(List.getElem?_eq_some_iff.1 hf).1;omega)
    injection e1 with e1 _ e2
    subst e1 e2
    obtain⟨g,cs,h1,h2,h3⟩:=hm.at_ i f hf
    obtain⟨a1,c1,_,_,h5⟩:=HV.out
    obtain⟨_,_,_,_,_,h5⟩:=h5 (λe=>by rw[e]at hf;simp at hf)
    obtain⟨_,_,_,_,_,_,_,h6⟩:=h5 i f hf
    exact⟨ga,g,cs,rfl,zfe hr i _ h1,h2,h3,h1,h6⟩
   go_wp2_with fail
   clear xa xb cA cB kA kB
   go_loopw [8,9] (λv8 _ wz=>∃i:Nat,i≤fs.length∧v8 = .int .i64 i∧zzf w wz fs O al) (λv8 _ _=>fs.length-(intOf v8).toNat)
   case atStart=>exact⟨0,Nat.zero_le _,rfl,HL.out.cleanM HK.out⟩
   case round=>
    obtain⟨i,hi,rfl,hm⟩:=hrel
    have HM:=ze hm
    obtain⟨xa,xb⟩:=HX.out wr hm.kp
    by_cases hlt:i<fs.length
    ·have hlt':(i:Int)<fs.length:=by omega
     obtain⟨f,hfi⟩:∃f,fs[i]?=some f:=⟨fs[i],List.getElem?_eq_getElem hlt⟩
     have HFI:=ze hfi
     have HLT:=ze hlt
     clear hm hfi hlt xb
     go_wp2_with fail
     clear xa
     go_loopw [9] (λv9 wz=>∃j:Nat,j≤f.length+8∧v9 = .int .i64 j∧zzf w wz fs O al) (λv9 _=>f.length+8-(intOf v9).toNat)
     case atStart=>exact⟨0,by omega,rfl,HM.out⟩
     case round=>
      obtain⟨j,hj,rfl,hmj⟩:=hrel
      have HMJ:=ze hmj
      obtain⟨xa,xb⟩:=HX.out wr hmj.kp
      obtain⟨ga,g,cs,rfl,c1,hb,hcs,hal,hfl⟩:=HROW.out wr hmj i f HFI.out
      have hfl':(f.length:Int)≤1100000:=by omega
      by_cases hjl:j<f.length+8
      ·have hjl':(j:Int)<(f.length:Int)+8:=by omega
       obtain⟨cv,hcv⟩:∃cv,cs[j]?=some cv:=⟨_,Array.getElem?_eq_getElem (by omega)⟩
       have c2:wr.cell? ⟨g,j,none⟩=some cv:=(zg hb j).trans hcv
       have c2f:=zx hb j
       have HNX:=ze (HMJ.out.setG hal j (.int .u8 99) hb)
       clear hmj hb hcs hal hcv xb
       go_wp2_with fail
       go_roundw
       case rel=>exact⟨j+1,by omega,by go_num,HNX.out⟩
       case measure=>simp[intOf];omega
      ·have hjl':¬(j:Int)<(f.length:Int)+8:=by omega
       clear hmj hb hcs hal xb
       go_wp2_with fail
       go_roundw
       case rel=>exact⟨i+1,by have:=HLT.out;omega,by go_num,HMJ.out⟩
       case measure=>have:=HLT.out;simp[intOf];omega
    ·obtain rfl:i=fs.length:=by omega
     have hge:¬(fs.length:Int)<fs.length:=by omega
     clear hm xb
     go_wp2_with fail
     clear xa
     go_loopw [10] (λv10 wz=>∃j:Nat,j≤fs.length+2∧v10 = .int .i64 j∧zzf w wz fs O al) (λv10 _=>fs.length+2-(intOf v10).toNat)
     case atStart=>exact⟨0,by omega,rfl,HM.out⟩
     case round=>
      obtain⟨j,hj,rfl,hmj⟩:=hrel
      have HMJ:=ze hmj
      obtain⟨xa,xb⟩:=HX.out wr hmj.kp
      by_cases hjl:j<fs.length+2
      ·have hjl':(j:Int)<(fs.length:Int)+2:=by omega
       obtain⟨cs,hb,hcs⟩:=hmj.row
       obtain⟨cv,hcv⟩:∃cv,cs[j]?=some cv:=⟨_,Array.getElem?_eq_getElem (by omega)⟩
       have c2:wr.cell? ⟨O,j,none⟩=some cv:=(zg hb j).trans hcv
       have c2f:=zx hb j
       have HNX:=ze (HMJ.out.setO j (.slice none 0 0))
       clear hmj hb hcs hcv xa
       go_wp2_with fail
       go_roundw
       case rel=>exact⟨j+1,by omega,by go_num,HNX.out⟩
       case measure=>simp[intOf];omega
      ·have hjl':¬(j:Int)<(fs.length:Int)+2:=by omega
       have HF:=ze (HR.out wr hmj.kp)
       clear hmj xa
       go_wp2_with fail
       exact HF.out
end
end
section
open Go.RowKit Go.Maps Go.Lib
def z9k (own own4:Nat→Lab)(n m r b:Nat):Lab:=if b<n then own b else if b<m then own4 b else if b=r then ⟨0,1,0,eb⟩ else zt
section
variable {own own4:Nat→Lab}{w w4 w5:World}{p px py nt:Nat}{ds:List (Nat × Nat)}{vL vP vK v5:Value}{bk:BO}{o:Obj}{s:XS}{y:YS}
theorem zor {n m r b:Nat}(h:b<n):z9k own own4 n m r b=own b:=by simp[z9k,h]
theorem zzz {n m r b:Nat}(h:b<m)(hb:b<n→own4 b=own b):z9k own own4 n m r b=own4 b:=by
 unfold z9k
 by_cases q:b<n
 ·rw[if_pos q,hb q]
 ·rw[if_neg q,if_pos h]
theorem Inv.pairs (h:Inv own w p ds vL vP vK bk nt)(k4:Kp (λ_=>False) w w4)(x:XE own4 (2*ds.length+2) w4 px s)(hy:YE own4 (2*ds.length+3) w4 py y)
  (o4:∀b,b<w.heap.size→(own4 b).c<2*ds.length+2∧(own4 b=zt→own b=zt)) (ht:ztb s y) (hI:YI y) (hn:y.txs.length≤nt+1)
  (g5:(w4.alloc o).grownBy w5 vL.ownBlock) (l5:v5.ownBlock=vL.ownBlock∨v5.ownBlock=some (w4.alloc o).heap.size)
  (r5:w5.ownsRow 0 81 2 v5 (ds.length+1) (zce ds++[.pointer (some ⟨px,0,none⟩),.pointer (some ⟨py,0,none⟩)])) :
  Kp (λb=>own b≠zt) w (w5.setCell ⟨p,0,none⟩ v5)∧Inv (z9k own own4 w.heap.size w4.heap.size (w4.heap.size+1)) (w5.setCell ⟨p,0,none⟩ v5) p (ds++[(px,py)]) v5 vP vK bk (nt+1):=by
 have lp:=zh h.book.world
 have s4:=k4.size
 have lL:∀b,vL.ownBlock=some b→b<w.heap.size:=λb e=>(h.rowL.lt b e).2
 have npL:vL.ownBlock≠some p:=λe=>by
  have:=h.ownL p e
  rw[h.book.ownP]at this;simp at this
 have k5:Kp (λb=>vL.ownBlock=some b) w4 w5:=(Kp.alloc (λb=>vL.ownBlock=some b) _ _).trans (Kp.of_grown (S:=λb=>vL.ownBlock=some b) g5 (λ_ h=>h)) (λ_ _ h=>h)
 have k6:Kp (λb=>b=p) w5 (w5.setCell ⟨p,0,none⟩ v5):=Kp.setCell w5 _ _ rfl
 have k46:Kp (λb=>vL.ownBlock=some b∨b=p) w4 (w5.setCell ⟨p,0,none⟩ v5):=(k5.mono (S':=λb=>vL.ownBlock=some b∨b=p) (λ_ _ h=>Or.inl h)).trans (k6.mono (S':=λb=>vL.ownBlock=some b∨b=p) (λ_ _ h=>Or.inr h)) (λ_ _ h=>h)
 have kk:Kp (λb=>vL.ownBlock=some b∨b=p) w (w5.setCell ⟨p,0,none⟩ v5):=(kpF k4).trans k46 (λ_ _ h=>h)
 have hp5:w5.heap[p]?=some (.cells (zcf vL vP vK bk) 68 (0,0)):=(k5.block p (Nat.lt_of_lt_of_le lp k4.size) npL).trans ((k4.block p lp (λe=>e)).trans h.book.world)
 generalize hw6:w5.setCell ⟨p,0,none⟩ v5=w6 at kk k46 k6 ⊢
 have T:∀b,b<w.heap.size→own b≠⟨0,0,0,eb⟩→own b≠⟨0,1,0,eb⟩→w6.heap[b]?=w.heap[b]?:=λb hb n0 n1=>kk.block b hb (λe=>by
  rcases e with e|e
  ·exact n1 (h.ownL b e)
  ·exact n0 (by rw[e];exact h.book.ownP))
 have A:∀b,b<w.heap.size→z9k own own4 w.heap.size w4.heap.size (w4.heap.size+1) b=own b:=λb hb=>zor hb
 have B:=h.book
 have hnd:=h.nds
 have hnb:=h.nbk
 refine⟨kk.mono (λb _ e=>?_),⟨⟨(A p lp).trans B.ownP,?_,?_,?_,?_,?_,B.four,?_,?_,B.num⟩,?_,?_,?_,by simp;omega,by omega,h.tab.block (T 0 h.tab.lt.1 (by rw[h.tabO.1];simp[zt]) (by rw[h.tabO.1];simp[zt])) (T 1 h.tab.lt.2 (by rw[h.tabO.2];simp[zt]) (by rw[h.tabO.2];simp[zt])),⟨(A 0 h.tab.lt.1).trans h.tabO.1,(A 1 h.tab.lt.2).trans h.tabO.2⟩,h.more.frame (λb hb hl=>T b hb (λe=>by rw[e]at hl;unfold BqL at hl;simp at hl) (λe=>by rw[e]at hl;unfold BqL at hl;simp at hl)) (λb hb _=>A b hb)⟩⟩
 ·rcases e with e|e
  ·rw[h.ownL b e];simp[zt]
  ·rw[e,B.ownP];simp[zt]
 ·rw[← hw6]
  exact zq hp5 _
 ·exact zl B.rowP (λb e=>T b (B.rowP.lt b e).2 (by rw[B.ownQ b e];simp) (by rw[B.ownQ b e];simp))
 ·exact λb e=>(A b (B.rowP.lt b e).2).trans (B.ownQ b e)
 ·exact zl B.rowK (λb e=>T b (B.rowK.lt b e).2 (by rw[B.ownK b e];simp) (by rw[B.ownK b e];simp))
 ·exact λb e=>(A b (B.rowK.lt b e).2).trans (B.ownK b e)
 ·exact λq hq=>zl (B.lists q hq) (λb e=>T b ((B.lists q hq).lt b e).2 (λe2=>by have:=B.ownR q hq b e;rw[e2]at this;simp at this) (λe2=>by have:=B.ownR q hq b e;rw[e2]at this;simp at this))
 ·exact λq hq b e=>by rw[A b ((B.lists q hq).lt b e).2];exact B.ownR q hq b e
 ·rw[List.length_append,z1l]
  refine zi r5 k6 (λb e e2=>?_)
  rcases l5 with l5|l5
  ·exact npL (by rw[← l5,← e2];exact e)
  ·rw[l5]at e
   injection e with e
   simp at e
   omega
 ·intro b e
  rcases l5 with l5|l5
  ·rw[l5]at e
   exact (A b (lL b e)).trans (h.ownL b e)
  ·rw[l5]at e
   injection e with e
   simp at e
   unfold z9k
   rw[if_neg (by omega),if_neg (by omega),if_pos (by omega)]
 ·intro i hi
  by_cases hd:i<ds.length
  ·rw[List.getElem_append_left hd]
   refine ((h.duos i hd).frame (λb hb hc=>?_) (λb hb _=>A b hb)).mono (by omega)
   have nz:∀l:Lab,l.c≤1→l≠zt→own b≠l:=λl hl h9 e=>by
    rcases hc with hc|hc
    ·unfold Cap at hc
     rw[e]at hc
     rcases hc with hc|hc<;>omega
    ·exact h9 (e.symm.trans hc)
   exact T b hb (nz _ (by simp) (by simp[zt])) (nz _ (by simp) (by simp[zt]))
  ·have hi':i=ds.length:=by simp at hi;omega
   subst hi'
   simp only[List.getElem_append_right (Nat.le_refl _),Nat.sub_self,List.getElem_cons_zero]
   have M:∀b,b<w4.heap.size→(own4 b).c=2*ds.length+2∨(own4 b).c=2*ds.length+3∨own4 b=zt→w6.heap[b]?=w4.heap[b]?∧z9k own own4 w.heap.size w4.heap.size (w4.heap.size+1) b=own4 b:=λb hb hc=>by
    have hold:b<w.heap.size→own4 b=zt∧own b=zt:=λhbw=>by
     have h4:=o4 b hbw
     have h5:own4 b=zt:=by
      rcases hc with e|e|e
      ·omega
      ·omega
      ·exact e
     exact⟨h5,h4.2 h5⟩
    refine⟨k46.block b hb (λe=>?_),zzz hb (λhbw=>by rw[(hold hbw).1,(hold hbw).2])⟩
    rcases e with e|e
    ·have:=(hold (lL b e)).2
     rw[h.ownL b e]at this;simp[zt]at this
    ·have:=(hold (by rw[e];exact lp)).2
     rw[e,B.ownP]at this;simp[zt]at this
   exact⟨s,y,x.frame (λb hb e=>(M b hb (Or.inl e)).1) (λb hb e=>(M b hb (Or.inl e)).2),hy.frame (λb hb e=>(M b hb (Or.inr e)).1) (λb hb e=>(M b hb (Or.inr e)).2),ht,hI,hn⟩
end
end
section
open Go.RowKit Go.Maps Go.Lib
section
variable {R:Ending→World→Prop}
set_option maxRecDepth 20000 in
set_option maxHeartbeats 2000000 in
theorem zzx (w:World)(p:Nat)(l:Value)
  (hL:Calls Tryz.prog 92 #[l] w (λr w1=>∃X v2,r = .returned (.tuple #[.pointer (some ⟨X,0,none⟩),v2])∧
   Calls Tryz.prog 16 #[v2] w1 (λr w2=>r = .returned (.tuple #[.pointer none,.int .i64 9])∧
    Calls Tryz.prog 93 #[l] w2 (λr w3=>r = .returned (.tuple #[.pointer none,.int .i64 9])∧
     Calls Tryz.prog 94 #[.pointer (some ⟨X,0,none⟩),l] w3 (λr w4=>r = .returned (.bool true)∧R (.returned (.bool true)) w4))))) :
  Calls Tryz.prog 57 #[.pointer (some ⟨p,0,none⟩),l] w R:=by
 have HL:=ze hL
 clear hL
 go_enter Tryz.func57,Tryz.ntmps57
 go_wp2_with (first
  |(go_at_call 92;refine HL.out.mono ?_;rintro r w1 ⟨X,v2,rfl,h⟩;have HA:=ze h;clear h)
  |(go_at_call 16;refine HA.out.mono ?_;rintro r w2 ⟨rfl,h⟩;have HB:=ze h;clear h)
  |(go_at_call 93;refine HB.out.mono ?_;rintro r w3 ⟨rfl,h⟩;have HC:=ze h;clear h)
  |(go_at_call 94;refine HC.out.mono ?_;rintro r w4 ⟨rfl,hr⟩)
  |go_in)
 exact hr
set_option maxRecDepth 20000 in
set_option maxHeartbeats 2000000 in
theorem zmv (w:World)(p:Nat)(l:Value)
  (hL:Calls Tryz.prog 92 #[l] w (λr w1=>∃X v2,r = .returned (.tuple #[.pointer (some ⟨X,0,none⟩),v2])∧
   Calls Tryz.prog 16 #[v2] w1 (λr w2=>∃px,r = .returned (.tuple #[.pointer (some ⟨px,0,none⟩),.int .i64 0])∧
    Calls Tryz.prog 93 #[l] w2 (λr w3=>∃py,r = .returned (.tuple #[.pointer (some ⟨py,0,none⟩),.int .i64 0])∧
     Calls Tryz.prog 94 #[.pointer (some ⟨X,0,none⟩),l] w3 (λr w4=>r = .returned (.bool true)∧∃vL vP vK bk n cs,w4.heap[p]?=some (.cells (zcf vL vP vK bk) 68 (0,0))∧w4.ownsRow 0 81 2 vL n cs∧n<1000000∧vL.ownBlock≠some p∧
      ∀v5 w5,(w4.alloc (.cells #[.pointer (some ⟨px,0,none⟩),.pointer (some ⟨py,0,none⟩)] 81)).grownBy w5 vL.ownBlock→(v5.ownBlock=vL.ownBlock∨v5.ownBlock=some (w4.alloc (.cells #[.pointer (some ⟨px,0,none⟩),.pointer (some ⟨py,0,none⟩)] 81)).heap.size)→
       w5.ownsRow 0 81 2 v5 (n+1) (cs++[.pointer (some ⟨px,0,none⟩),.pointer (some ⟨py,0,none⟩)])→R (.returned (.bool true)) (w5.setCell ⟨p,0,none⟩ v5)))))) :
  Calls Tryz.prog 57 #[.pointer (some ⟨p,0,none⟩),l] w R:=by
 have HL:=ze hL
 obtain⟨i0,hi⟩:=info_parts zwt
 have HI:=ze hi
 clear hL hi
 go_enter Tryz.func57,Tryz.ntmps57
 go_wp2_with (first
  |(go_at_call 92;refine HL.out.mono ?_;rintro r w1 ⟨X,v2,rfl,h⟩;have HA:=ze h;clear h)
  |(go_at_call 16;refine HA.out.mono ?_;rintro r w2 ⟨px,rfl,h⟩;have HB:=ze h;clear h)
  |(go_at_call 93;refine HB.out.mono ?_;rintro r w3 ⟨py,rfl,h⟩;have HC:=ze h;clear h)
  |(go_at_call 94;refine HC.out.mono ?_;rintro r w4 ⟨rfl,vL,vP,vK,bk,n,cs,hp,hrow,hn,hnp,hr⟩;have HP:=ze hp;have HROW:=ze hrow;have HN:=ze hn;have HNP:=ze hnp;have HR:=ze hr;have c0:w4.cell? ⟨p,0,none⟩=some vL:=zg hp 0;clear hp hrow hn hnp hr)
  |(at_builtin;refine zz rfl _ _ 62 rfl 0 81 i0 (.agg #[.pointer none,.pointer none]) 2 16 Tryz.underlying62 HI.out.1 HI.out.2.1 HI.out.2.2.1 HI.out.2.2.2 rfl (by decide) _ _ _ rfl (HROW.out.alloc _) ⟨w4.heap.size,0,none⟩ 1 1 [.pointer (some ⟨px,0,none⟩),.pointer (some ⟨py,0,none⟩)] rfl rfl (zqh w4 _ _ _) (by simp[Value.oneCell']) (by have:=HN.out;unfold maxLen;omega) (by have:=HN.out;omega) (Nat.zero_le _) (by decide) ?_;intro v5 w5 own5 grow5 loc5 keep5;have hk5:=(Kp.alloc (λb=>vL.ownBlock=some b) w4 (.cells #[.pointer (some ⟨px,0,none⟩),.pointer (some ⟨py,0,none⟩)] 81)).trans (Kp.of_grown (S:=λb=>vL.ownBlock=some b) grow5 (λ_ h=>h)) (λ_ _ h=>h);have hp5:=mbs hk5 HP.out HNP.out;have y0:w5.cell? ⟨p,0,none⟩=some vL:=zg hp5 0;have yf:=zx hp5 0;obtain⟨a5,cap5,rfl,_⟩:=zr own5;have HF:=ze (HR.out _ w5 grow5 loc5 own5);clear hk5 hp5 own5 grow5 loc5 keep5)
  |go_in)
 exact HF.out
end
end
section
open Go.RowKit Go.Maps Go.Lib
theorem FIn.imp {w:World}{v:Value}{fs:List (List UInt8)}{N N':Nat→Prop}(h:FIn w v fs N)(hn:∀b,N b→N' b):FIn w v fs N':=by
 obtain⟨a,cap,e,hl,h⟩:=h
 refine⟨a,cap,e,hl,λhne=>?_⟩
 obtain⟨ga,oa,e2,h1,h2,h3⟩:=h hne
 refine⟨ga,oa,e2,h1,hn _ h2,λi f hf=>?_⟩
 obtain⟨b,n,c,g,h4,h5,h6,h7⟩:=h3 i f hf
 exact⟨b,n,c,g,h4,h5,hn _ h6,h7⟩
theorem zwd.lentHigh {w:World}{base:Nat}{fs:List (List UInt8)}{X O:Nat}{va:Value}{al ol:List Value}(h:zwd w base fs X O va al ol){b:Nat}(hb:zbj O al b):b<w.heap.size:=by
 rcases hb with rfl|⟨j,n,c,hj⟩
 ·exact zh h.rowO
 ·have hall:al.length=fs.length:=by simpa using h.rowA.1
  have hl:=(List.getElem?_eq_some_iff.1 hj).1
  obtain⟨g,e,_,h1⟩:=h.at_ j _ fs[j] hj (List.getElem?_eq_getElem (by omega))
  injection e with e _ _
  injection e with e
  injection e with e _ _
  subst e
  exact zh h1
def zfk:Lab:=⟨1,0,0,eb⟩
def z8k (own:Nat→Lab)(c n m b:Nat):Lab:=if b<n then (if (own b).c<c then own b else zfk) else if b<m then zfk else zt
def ownB (own2:Nat→Lab)(c m b:Nat):Lab:=if b<m then own2 b else if (own2 b).c=c then own2 b else zfk
theorem zmr {own:Nat→Lab}{c n m b:Nat}(hc:1<c):(z8k own c n m b).c<c:=by
 unfold z8k
 split
 ·split
  ·assumption
  ·exact hc
 ·split
  ·exact hc
  ·show 0<c;omega
theorem ztx {own:Nat→Lab}{c n m b:Nat}(h1:n≤b)(h2:b<m):z8k own c n m b=zfk:=by
 unfold z8k
 rw[if_neg (by omega),if_pos h2]
theorem zux {own:Nat→Lab}{c n m b:Nat}(h1:b<n)(h:z8k own c n m b=zt):own b=zt:=by
 unfold z8k at h
 rw[if_pos h1]at h
 split at h
 ·exact h
 ·simp[zfk,zt]at h
section
variable {own:Nat→Lab}{w:World}{p nt:Nat}{ds:List (Nat × Nat)}{vL vP vK:Value}{bk:BO}
variable {R:Ending→World→Prop}
theorem zzm (mu:Nat):zij (zdc mu) zjc:=⟨z1r mu,zfs,rfl⟩
theorem zdk (h:Inv own w p ds vL vP vK bk nt)(hnt:nt<1000000)(l:Value)(fs:List (List UInt8))(hv:FIn w l fs (λb=>b<w.heap.size))
  (hK:∀w' own' ds' vL',Kp (λb=>own b≠zt) w w'→(∀b,b<w.heap.size→own' b=own b)→((ds'=ds∧zhh fs zjc)∨∃q,ds'=ds++[q])→Inv own' w' p ds' vL' vP vK bk (nt+1)→R (.returned (.bool true)) w') :
  Calls Tryz.prog 57 #[.pointer (some ⟨p,0,none⟩),l] w R:=by
 by_cases hD:zhh fs zjc
 ·refine zzx w p l (zbr l fs hv (λw1 X O va al ol v2 hL k1 hf=>⟨X,v2,rfl,?_⟩))
  refine ztp (own:=λ_=>zt) (c:=1) (h.tab.kept k1) (λ_ _=>by simp[zt]) v2 fs (hf.imp (λ_ e=>e.2)) (λ_ w2 k2=>⟨rfl,?_⟩) (λw2 own2 s' k2 a2 tn x2 ok2 tx2 bk2 beg2 hrec=>?_)
  ·have k12:=k1.trans k2 (λ_ _ e=>e)
   refine zzo (own:=λ_=>zt) (c:=1) (by omega) (λ_ _=>by simp[zt]) l fs ((hv.kp k12 (λ_ _ e=>e)).imp (λb e=>Nat.lt_of_lt_of_le e k12.size)) (λ_ w3 k3=>⟨rfl,?_⟩) (λw3 own3 y' k3 a3 y3 yi' no' lo' hrec=>?_)
   ·have k13:=k2.trans k3 (λ_ _ e=>e)
    have k03:=k1.trans k13 (λ_ _ e=>e)
    have hL3:=hL.kp k13 (λ_ _ _ e=>e)
    refine zwo hL3 (hv.kp k03 (λ_ _ e=>e)) (λw4 k4=>⟨rfl,?_⟩)
    have k04:Kp (λ_=>False) w w4:=k03.trans k4 (λb hb e=>by have:=hL3.lentLow e;omega)
    exact hK w4 own ds vL (kpF k04) (λ_ _=>rfl) (Or.inl ⟨rfl,hD⟩) ((h.same k04 (λ_ _=>rfl)).mono (by omega))
   ·exact (zhr hrec hD).elim
  ·obtain⟨y',hy,_⟩:=hrec.doc (zzm _)
   exact (zhr hy hD).elim
 ·refine zmv w p l (zbr l fs hv (λw1 X O va al ol v2 hL k1 hf=>⟨X,v2,rfl,?_⟩))
  refine ztp (own:=z8k own (2*ds.length+2) w.heap.size w1.heap.size) (c:=2*ds.length+2) (h.tab.kept k1) (λb _=>by have:=zmr (own:=own) (c:=2*ds.length+2) (n:=w.heap.size) (m:=w1.heap.size) (b:=b) (by omega);omega) v2 fs (hf.imp (λ_ e=>e.2)) (λhx=>?_) (λw2 own2 s' k2 a2 tn x2 ok2 tx2 bk2 beg2 hrec=>⟨_,rfl,?_⟩)
  ·exact absurd (hx.doc (zzm _)) hD
  ·have k12:=k1.trans k2 (λ_ _ e=>e)
   have s1:=k1.size
   have s2:=k2.size
   refine zzo (own:=ownB own2 (2*ds.length+2) w1.heap.size) (c:=2*ds.length+3) (by omega) (λb _=>?_) l fs ((hv.kp k12 (λ_ _ e=>e)).imp (λb e=>Nat.lt_of_lt_of_le e k12.size)) (λhx=>absurd hx hD) (λw3 own3 y' k3 a3 y3 yi' no' lo' hrecY=>⟨_,rfl,?_⟩)
   ·unfold ownB
    split
    ·rename_i q
     rw[a2 b q]
     have:=zmr (own:=own) (c:=2*ds.length+2) (n:=w.heap.size) (m:=w1.heap.size) (b:=b) (by omega)
     omega
    ·split
     ·rename_i q;omega
     ·show 1≠_;omega
   ·have k13:=k2.trans k3 (λ_ _ e=>e)
    have k03:=k1.trans k13 (λ_ _ e=>e)
    have hL3:=hL.kp k13 (λ_ _ _ e=>e)
    refine zwo hL3 (hv.kp k03 (λ_ _ e=>e)) (λw4 k4=>⟨rfl,?_⟩)
    have k04:Kp (λ_=>False) w w4:=k03.trans k4 (λb hb e=>by have:=hL3.lentLow e;omega)
    have lp:=zh h.book.world
    have npL:vL.ownBlock≠some p:=λe=>by
     have:=h.ownL p e
     rw[h.book.ownP]at this;simp at this
    obtain⟨y2,hr2,hs2⟩:=hrec.doc (zzm _)
    have ey:=hrecY.uniq hr2
    subst ey
    have low3:∀b,b<w1.heap.size→own3 b=z8k own (2*ds.length+2) w.heap.size w1.heap.size b:=λb hb=>by
     rw[a3 b (by omega)]
     unfold ownB
     rw[if_pos hb,a2 b hb]
    have lent3:∀b,zbj O al b→own3 b=zfk:=λb e=>by
     have h1:=hL.lentLow e
     have h2:=hL.lentHigh e
     rw[low3 b h2,ztx h1 h2]
    have x3:XE own3 (2*ds.length+2) w3 (w1.heap.size+5) (synced s'):=x2.frame (λb hb _=>k3.block b hb (λe=>e)) (λb hb e=>by
     rw[a3 b hb]
     unfold ownB
     by_cases q:b<w1.heap.size
     ·rw[if_pos q]
     ·rw[if_neg q,if_pos e])
    have x4:XE own3 (2*ds.length+2) w4 (w1.heap.size+5) (synced s'):=x3.frame (λb hb e=>k4.block b hb (λe2=>by
     rw[lent3 b e2]at e
     have e:1=2*ds.length+2:=e
     omega)) (λ_ _ _=>rfl)
    have y4:YE own3 (2*ds.length+3) w4 w2.heap.size (zyn y'):=y3.frame (λb hb e=>k4.block b hb (λe2=>by
     rw[lent3 b e2]at e
     rcases e with e|e
     ·have e:1=2*ds.length+3:=e
      omega
     ·simp[zfk,zt]at e)) (λ_ _ _=>rfl)
    refine⟨vL,vP,vK,bk,ds.length,zce ds,(k04.block p lp (λe=>e)).trans h.book.world,zi h.rowL k04 (λ_ _ e=>e),by have:=h.nds;omega,npL,λv5 w5 g5 l5 r5=>?_⟩
    obtain⟨kf,hf⟩:=h.pairs k04 x4 y4 (λb hb=>by
     rw[low3 b (by omega)]
     exact⟨zmr (by omega),λe=>zux hb e⟩) hs2.tied.synced yi'.synced (by show y'.txs.length≤nt+1;rw[no'];simp) g5 l5 r5
    exact hK _ _ _ _ kf (λb hb=>zor hb) (Or.inr ⟨_,rfl⟩) hf
end
end
section
def zaq (ws:List W3):Prop:=(ws.map Prod.fst).Pairwise blt∧1≤ws.length∧ws.length≤10∧∀x∈ws,okW x
theorem zcw (t:Nat)(ws:List W3)(h:zaq ws)(ht:t<4294967296):(zw (zbb t ws)).1=67∧(zw (zbb t ws)).2.1=t∧zdh (zbb t ws)=(ws,⟨[],false⟩):=by
 have h1:=RS.one_cons 67 (fourB t++(u8 ws.length::ws.flatMap z9b))
 have h2:=RS.four_app t ht (u8 ws.length::ws.flatMap z9b)
 have h3:=RS.one_cons (u8 ws.length) (ws.flatMap z9b)
 have e:(u8 ws.length).toNat=ws.length:=by have:=h.2.2.1;rw[z2d];omega
 rw[e]at h3
 have h4:=RS.writes_app ws h.2.2.2 [] ws.length (Nat.le_refl _)
 rw[List.append_nil]at h4
 have hS:zw (zbb t ws)=(67,t,⟨u8 ws.length::ws.flatMap z9b,false⟩):=by
  unfold zw
  rw[show zbb t ws=67::(fourB t++(u8 ws.length::ws.flatMap z9b)) from rfl,h1]
  dsimp only
  rw[h2]
  rfl
 refine⟨by rw[hS],by rw[hS],?_⟩
 unfold zdh
 rw[hS]
 dsimp only
 rw[h3]
 dsimp only
 rw[h4]
 simp
theorem zbt (t:Nat)(ws:List W3)(h:zaq ws)(ht:t<4294967296):z4d (zbb t ws) 67 t ws:=by
 obtain⟨h1,h2,h3⟩:=zcw t ws h ht
 exact Or.inr ⟨rfl,h1,h2.symm,by rw[h3],by rw[h3];rfl,h.1,h.2.1,h.2.2.1⟩
theorem zoy (t:Nat){ws:List W3}(h:zaq ws):(zbb t ws).length≤400:=z7j h.2.2.2 h.2.2.1
theorem zrn (b:List UInt8)(hb:b.length≤400)(r:List UInt8):z0e (zqb b++r)=b.length:=by
 unfold z0e zqb z8c
 simp only[List.cons_append,List.getD_cons_zero,List.getD_cons_succ,z2d]
 omega
theorem ztq {t:Nat}{ws:List W3}(h:zaq ws)(ht:t<4294967296)(r:List UInt8):zfc (zqb (zbb t ws)++r) 67 t ws r:=by
 have hlen:=zoy t h
 have hu:=zmj (u8 (zbb t ws).length::u8 ((zbb t ws).length / 256)::zbb t ws) r
 rw[show (u8 (zbb t ws).length::u8 ((zbb t ws).length / 256)::zbb t ws).length=2+(zbb t ws).length by simp;omega]at hu
 refine⟨by rw[List.length_append,zzd];omega,u8 (zbb t ws).length::u8 ((zbb t ws).length / 256)::zbb t ws,?_,zbt t ws h ht⟩
 rw[zrn _ hlen]
 exact hu
end
section
def zkd (lg:List (List UInt8))(i:Nat):List UInt8:=zoc i++((lg.drop (4*i)).take 4).flatMap zqb
theorem zsj {α:Type}(l:List α)(x:α)(i:Nat)(h:4*i+4≤l.length):((l++[x]).drop (4*i)).take 4=(l.drop (4*i)).take 4:=by
 rw[List.drop_append_of_le_length (by omega),List.take_append_of_le_length (by rw[List.length_drop];omega)]
theorem z6i (lg:List (List UInt8)):∀i,4*i<lg.length→(zm lg)[i]?=some (zkd lg i):=by
 induction lg using zok with
 |h0=>intro i hi;simp at hi
 |h1 l x ih=>
  intro i hi
  simp only[List.length_append,List.length_cons,List.length_nil]at hi
  have hlen:=z4c l
  rw[z8d]
  unfold zrg
  by_cases h4:l.length % 4=0
  ·rw[if_pos h4]
   by_cases hi2:4*i<l.length
   ·rw[List.getElem?_append_left (by omega),ih i hi2]
    unfold zkd
    rw[zsj l x i (by omega)]
   ·have e:i=(zm l).length:=by omega
    rw[List.getElem?_append_right (by omega),← e,Nat.sub_self]
    have e2:l.length=4*i:=by omega
    unfold zkd
    rw[← e2,List.drop_left]
    simp
  ·rw[if_neg h4]
   have hne:zm l≠[]:=z7i h4
   have hlast:(zm l).getLastD []=zkd l ((zm l).length-1):=by
    have h1:=ih ((zm l).length-1) (by omega)
    rw[List.getLastD_eq_getLast?,List.getLast?_eq_getElem?,h1]
    rfl
   by_cases hi2:i<(zm l).length-1
   ·rw[List.getElem?_append_left (by rw[List.length_dropLast];omega),List.getElem?_dropLast,if_pos hi2,ih i (by omega)]
    unfold zkd
    rw[zsj l x i (by omega)]
   ·have e:i=(zm l).length-1:=by omega
    rw[List.getElem?_append_right (by rw[List.length_dropLast];omega),List.length_dropLast,← e,Nat.sub_self,hlast,← e]
    unfold zkd
    rw[List.drop_append_of_le_length (by omega)]
    have hd:(l.drop (4*i)).length≤3:=by rw[List.length_drop];omega
    rw[List.take_of_length_le (l:=l.drop (4*i)) (by omega),List.take_of_length_le (by simp;omega)]
    simp
theorem z9i:∀(fs:List (List UInt8)) (n q:Nat) (f':List UInt8),(zgb fs n)[q]?=some f'→∃f,fs[q]?=some f∧bytesOf (fs.take q)<n∧f'=f.take (n-bytesOf (fs.take q))
 |[],_,_,_,h=>by simp[zgb]at h
 |g::r,n,q,f',h=>by
  unfold zgb at h
  split at h
  ·simp at h
  ·rename_i hn
   cases q with
   |zero=>
    simp at h
    exact⟨g,by simp,by simp[bytesOf];omega,by simp[bytesOf,h]⟩
   |succ q=>
    simp at h
    obtain⟨f,h1,h2,h3⟩:=z9i r (n-g.length) q f' h
    have e:bytesOf ((g::r).take (q+1))=g.length+bytesOf (r.take q):=by rw[List.take_succ_cons,z2c]
    refine⟨f,by simpa using h1,by rw[e];omega,?_⟩
    rw[e,h3]
    congr 1
    omega
end
end Go.Proofs.YthbdpfccfcceiaaGreatDoor
