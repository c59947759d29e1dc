/-
  Of the proof of logsUpto_card.
-/
import Derived.Test.YthbdpfccfcceiaaGreatDoorLA8x
namespace Go.Proofs.YthbdpfccfcceiaaGreatDoor
open Go.RowKit
theorem zxw:(Tryz.prog.info? 37).map (λi=>(i.zero,i.size,i.bytes))=some (some (.slice none 0 0),1,24):=by kernel_rfl
theorem zwm (n:Nat)(m:Value):List.replicate (n+1) m=List.replicate n m++[m]:=List.replicate_succ'
theorem zl4 {w:World}{base e size n:Nat}{v:Value}{xs:List Value}(h:w.ownsRow base e size v n xs):w.ownsRow 0 e size v n xs:=
 ⟨h.1,h.2.imp id (λ⟨g,cap,cur,e1,_,e3⟩=>⟨g,cap,cur,e1,Nat.zero_le _,e3⟩)⟩
section
variable {R:Ending→World→Prop}{w:World}
set_option maxRecDepth 20000 in
set_option maxHeartbeats 4000000 in
theorem zou (p:Nat)(cs:Array Value)(vB vI vF vJ v:Value)(qb q:Nat)(bs ks ps js:List Value)(fl:List (List UInt8))(lv:List Value)(base:Nat)(hqb:qb<9000000000)(hq:q<1000000)(hfl:fl.length≤2000)(hfs:∀f∈fl,f.length<5000000)
  (hp:w.heap[p]?=some (.cells cs 68 (0,0))) (c3:cs[3]?=some vB) (c4:cs[4]?=some vI) (c7:cs[7]?=some vF) (c8:cs[8]?=some vJ)
  (hB:w.ownsRow 0 48 1 vB (4*qb) bs) (hI:w.ownsRow 0 3 1 vI (4*qb) ks) (hF:w.ownsRow 0 37 1 vF (4*q) ps) (hJ:w.ownsRow 0 3 1 vJ (4*q) js) (hv:FR base w v fl lv)
  (nB:∀b,v.ownBlock=some b→vB.ownBlock≠some b) (nIJ:∀b,vI.ownBlock=some b→vJ.ownBlock≠some b)
  (hR:∀w' vB' vI' vF' vJ' (b':List (Value × Nat × Int)) v1 v2 v3 (gm:Nat) (cs':Array Value),Kp (λb=>b=p∨vB.ownBlock=some b∨vI.ownBlock=some b∨vF.ownBlock=some b∨vJ.ownBlock=some b∨v.ownBlock=some b∨∃(j:Nat) (u:Value),lv[j]?=some u∧u.ownBlock=some b) w w'→
   (w'.heap[p]?=some (.cells cs' 68 (0,0))∧cs'[3]?=some vB'∧cs'[4]?=some vI'∧cs'[7]?=some vF'∧cs'[8]?=some vJ'∧cs'.size=cs.size∧∀k,k≠3→k≠4→k≠7→k≠8→cs'[k]?=cs[k]?)→
   w'.ownsRow 0 48 1 vB' (4*(qb+fl.length)) (bs++b'.map (·.1))→w'.ownsRow 0 3 1 vI' (4*(qb+fl.length)) (ks++b'.map λe=>.int .i64 e.2.2)→b'.length=4*fl.length→(∀e∈b',zgq w' e)→(∀e∈b',∀b,e.1.ownBlock=some b→(∃(j:Nat) (u:Value),lv[j]?=some u∧u.ownBlock=some b)∨w.heap.size≤b)→
   w'.ownsRow 0 37 1 vF' (4*q+4) (ps++[v,v1,v2,v3])→w'.ownsRow 0 3 1 vJ' (4*q+4) (js++[.int .i64 (q+1),.int .i64 (q+1),.int .i64 (q+1),.int .i64 (q+1)])→
   w'.ownsRow 0 48 1 v fl.length (List.replicate fl.length (zlf gm))→w'.ownsRow 0 48 1 v1 (fl.length+1) (List.replicate (fl.length+1) (zlf gm))→w'.ownsRow 0 48 1 v2 (fl.length+2) (List.replicate (fl.length+2) (zlf gm))→w'.ownsRow 0 48 1 v3 (fl.length+3) (List.replicate (fl.length+3) (zlf gm))→
   w'.heap[gm]?=some (.cells (ztn (q+1)) 5 (0,0))→w.heap.size≤gm→
   (∀x,x=v1∨x=v2∨x=v3→∀b,x.ownBlock=some b→(v.ownBlock=some b∨w.heap.size≤b)∧vB'.ownBlock≠some b)→
   (∀b,vB'.ownBlock=some b→vB.ownBlock=some b∨w.heap.size≤b)→(∀b,vI'.ownBlock=some b→vI.ownBlock=some b∨w.heap.size≤b)→(∀b,vF'.ownBlock=some b→vF.ownBlock=some b∨w.heap.size≤b)→(∀b,vJ'.ownBlock=some b→vJ.ownBlock=some b∨w.heap.size≤b)→(∀b,vI'.ownBlock=some b→vJ'.ownBlock≠some b)→R (.returned (.tuple #[])) w') :
  Calls Tryz.prog 164 #[.pointer (some ⟨p,3,none⟩),v] w R:=by
 obtain⟨av,capv,rfl,hcv⟩:=zr hv.row
 have HP0:=ze hp
 have HB:=ze hB
 have HI0:=ze hI
 have HF:=ze hF
 have HJ:=ze hJ
 have HV:=ze hv
 have NB:=ze nB
 have NIJ:=ze nIJ
 have HR:=ze hR
 have HFS:=ze hfs
 have HQB:=ze hqb
 have C7:=ze c7
 have C8:=ze c8
 have HM0:Hid (z6h w p cs vB vI (.slice av fl.length capv) qb bs ks lv 0 w vB vI []):=z6h.start hp c3 c4 hB hI
 have hfl':(fl.length:Int)≤2000:=by omega
 clear hp c3 c4 c7 c8 hB hI hF hJ hv nB nIJ hR hfs hqb hcv
 go_enter Tryz.func164,Tryz.ntmps164
 go_wp2_with fail
 go_loopw [4] (λv4 wr=>∃(i:Nat) (vB' vI':Value) (b':List (Value × Nat × Int)),i≤fl.length∧v4 = .int .i64 i∧z6h w p cs vB vI (.slice av fl.length capv) qb bs ks lv i wr vB' vI' b') (λv4 _=>fl.length-(intOf v4).toNat)
 case atStart=>exact⟨0,vB,vI,[],Nat.zero_le _,rfl,HM0.out⟩
 case round=>
  clear HM0
  obtain⟨i,vB',vI',b',hile,rfl,hm⟩:=hrel
  have HM:=ze hm
  by_cases hin:i<fl.length
  ·have hin':(i:Int)<fl.length:=by omega
   obtain⟨f,hf⟩:∃f,fl[i]?=some f:=⟨fl[i],List.getElem?_eq_getElem hin⟩
   have hul:i<lv.length:=by rw[HV.out.len];exact hin
   obtain⟨u,hu⟩:∃u,lv[i]?=some u:=⟨lv[i],List.getElem?_eq_getElem hul⟩
   have hbr:=hm.inner HP0.out HB.out HI0.out HV.out (Nat.le_refl i) hu hf
   have hout:=hm.outer HP0.out HI0.out HV.out NB.out
   obtain⟨gv,capv',curv,ev,_⟩:=zib hout (by omega)
   injection ev with ev _ ecv
   subst ev
   subst ecv
   have hcell:=World.ownsRow.cells hout (g:=gv) rfl i u hu
   rw[zub,Nat.zero_add]at hcell
   obtain⟨pu,cu,rfl⟩:=zp hbr
   obtain⟨cs',hcs⟩:=hm.hp
   have HCS:=ze hcs
   have HU:=ze hu
   have HBR:Hid (wr.ownsRow 0 5 1 (.slice pu f.length cu) f.length (f.map b8)):=hbr.mono (Nat.zero_le _)
   have HFL:Hid (f.length<5000000):=HFS.out f (List.mem_of_getElem? hf)
   have HUB:Hid ((Value.slice pu f.length cu).ownBlock=none∨∃b,(Value.slice pu f.length cu).ownBlock=some b∧b<w.heap.size):=by
    show _∨_
    cases hb:(Value.slice pu f.length cu).ownBlock with
    |none=>exact Or.inl rfl
    |some b=>exact Or.inr ⟨b,rfl,((HV.out.at_ i _ f hu hf).lt b hb).2⟩
   have HIN:=ze hin
   clear hm hbr hout hcs hu hf hul hile hin
   go_wp2_with (first
    |(go_at_call 120;refine znu p cs' vB' vI' _ (qb+i) f.length _ _ _ (by have:=HQB.out;have:=HIN.out;omega) HFL.out HCS.out.1 HCS.out.2.1 HCS.out.2.2.1 HM.out.rowB HM.out.rowI HBR.out (zzc HCS.out.1 HBR.out (by decide)) (zzc HCS.out.1 HM.out.rowB (by decide)) (zzc HCS.out.1 HM.out.rowI (by decide)) (z7 HM.out.rowB HBR.out (by decide)) (z7 HM.out.rowI HBR.out (by decide)) (z7 HM.out.rowI HM.out.rowB (by decide)) ?_;intro w3 vB3 vI3 v1 v2 v3 s5 s6 k3 hp3 rB3 rI3 f0 f1 f2 f3 hs5 hs6 L1 L2 L3 lB lI;have HM3:=ze (HM.out.more HB.out HI0.out HV.out HU.out HUB.out (by have:=HQB.out;have:=HIN.out;omega) HFL.out k3 HCS.out hp3 rB3 rI3 f0 f1 f2 f3 hs5 hs6 L1 L2 L3 lB lI);clear k3 hp3 rB3 rI3 f0 f1 f2 f3 hs5 hs6 L1 L2 L3 lB lI)
    |fail)
   go_roundw
   case rel=>exact⟨i+1,vB3,vI3,_,by have:=HIN.out;omega,by go_num,HM3.out⟩
   case measure=>have:=HIN.out;simp[intOf];omega
  ·have hie:i=fl.length:=by omega
   subst hie
   obtain⟨cs',hcs⟩:=hm.hp
   have HWa:=ze hcs.1
   have C7a:=ze ((hcs.2.2.2.2 7 (by omega) (by omega)).trans C7.out)
   have C8a:=ze ((hcs.2.2.2.2 8 (by omega) (by omega)).trans C8.out)
   have HCSa:=ze hcs.2
   have HMa:=HM
   have HVa:Hid (wr.ownsRow 0 48 1 (.slice av fl.length capv) fl.length lv):=zl4 (hm.outer HP0.out HI0.out HV.out NB.out)
   have hul:∀{j:Nat} {u:Value},lv[j]?=some u→∃f,BR base w u f:=λ{j u} hu=>by
    have hj:j<fl.length:=by rw[← HV.out.len];exact (List.getElem?_eq_some_iff.1 hu).1
    exact⟨_,HV.out.at_ j u _ hu (List.getElem?_eq_getElem hj)⟩
   have HFa:Hid (wr.ownsRow 0 37 1 vF (4*q) ps):=zi HF.out hm.kp (λb e hs=>by
    rcases hs with rfl|hs|hs|⟨j,u,_,hu,e2⟩
    ·exact zzc HP0.out HF.out (by decide) e
    ·exact z7 HF.out HB.out (by decide) b e hs
    ·exact z7 HF.out HI0.out (by decide) b e hs
    ·obtain⟨f,hf⟩:=hul hu
     exact z7 HF.out hf (by decide) b e e2)
   have HJa:Hid (wr.ownsRow 0 3 1 vJ (4*q) js):=zi HJ.out hm.kp (λb e hs=>by
    rcases hs with rfl|hs|hs|⟨j,u,_,hu,e2⟩
    ·exact zzc HP0.out HJ.out (by decide) e
    ·exact z7 HJ.out HB.out (by decide) b e hs
    ·exact NIJ.out b hs e
    ·obtain⟨f,hf⟩:=hul hu
     exact z7 HJ.out hf (by decide) b e e2)
   have LPa:Hid (p<w.heap.size):=zh HP0.out
   have HLV:Hid (lv.length=fl.length):=HV.out.len
   obtain⟨aF,capF,hvF,_⟩:=zr HFa.out
   subst hvF
   have d7:wr.cell? ⟨p,7,none⟩=some (.slice aF (4*q) capF):=(zg HWa.out 7).trans C7a.out
   have e5:((4*q:Nat):Int) / 4=q:=by omega
   have hq':(q:Int)<1000000:=by omega
   have N1:Hid ((Value.slice av fl.length capv).ownBlock≠some p):=zzc HWa.out HVa.out (by decide)
   have N2:Hid ((Value.slice aF (4*q) capF).ownBlock≠some p):=zzc HWa.out HFa.out (by decide)
   have N3:Hid (vJ.ownBlock≠some p):=zzc HWa.out HJa.out (by decide)
   have N4:Hid (∀b,(Value.slice aF (4*q) capF).ownBlock=some b→(Value.slice av fl.length capv).ownBlock≠some b):=z7 HFa.out HVa.out (by decide)
   have N5:Hid (∀b,vJ.ownBlock=some b→(Value.slice av fl.length capv).ownBlock≠some b):=z7 HJa.out HVa.out (by decide)
   have N6:Hid (∀b,vJ.ownBlock=some b→(Value.slice aF (4*q) capF).ownBlock≠some b):=z7 HJa.out HFa.out (by decide)
   obtain⟨i0,hi,hz0,hz1,hz2⟩:=info_parts z2g
   have HI:=ze (And.intro hi (And.intro hz0 (And.intro hz1 hz2)))
   clear hi hz0 hz1 hz2 hm hcs hul hile hin HM
   generalize fl.length=n at *
   generalize wr=wa at *
   go_wp2_with fail
   go_loopw [7] (λvj wr=>∃i:Nat,i≤n∧vj = .int .i64 i∧Kp (λb=>(Value.slice av n capv).ownBlock=some b) wa wr∧wr.ownsRow 0 48 1 (.slice av n capv) n (List.replicate i (zlf wa.heap.size)++lv.drop i)∧wr.heap[wa.heap.size]?=some (.cells (ztn (q+1)) 5 (0,0))) (λvj _=>n-(intOf vj).toNat)
   case atStart=>exact⟨0,Nat.zero_le _,rfl,Kp.alloc _ _ _,by simpa using HVa.out.alloc _,heap_alloc_new wa _⟩
   case round=>
    obtain⟨i,hile,rfl,hkp,hrow,hmk⟩:=hrel
    by_cases hin:i<n
    ·have hin':(i:Int)<n:=by omega
     rcases hrow.2 with ⟨_,h0⟩|⟨g,cap,cur,hvx,hbx,hgx,hnx,hmx,hcsx,htx⟩
     ·omega
     ·injection hvx with hav _ hcap
      subst hav
      subst hcap
      have m0:(wr.cell? ⟨g,i,none⟩).isSome=true:=by
       rw[zg hgx,Array.getElem?_eq_getElem (by omega)];rfl
      have mf0:wr.frozen? ⟨g,i,none⟩=false:=zx hgx i
      obtain⟨x0,e0⟩:=Option.isSome_iff_exists.1 m0
      have HRS:=ze (zym hrow i hin g capv rfl (zlf wa.heap.size))
      have HMK:=ze hmk
      have HGL:Hid (g<wa.heap.size):=(HVa.out.lt g rfl).2
      have HKP:=ze hkp
      clear hrow hin hgx htx hcsx hnx hmx hbx m0 hkp hmk hile
      go_wp2_with fail
      go_roundw
      case rel=>
       refine⟨i+1,by omega,by go_num,HKP.out.trans (Kp.setCell (S:=λb=>(Value.slice (some ⟨g,0,none⟩) n capv).ownBlock=some b) wr ⟨g,i,none⟩ _ rfl) (λ_ _ h=>h),?_,?_⟩
       ·have:=HRS.out
        rw[z1k lv i (by have:=HLV.out;omega)]at this
        exact this
       ·exact ((Kp.setCell (S:=λb=>b=g) wr ⟨g,i,none⟩ _ rfl).block _ (zh HMK.out) (by have:=HGL.out;omega)).trans HMK.out
      case measure=>simp[intOf];omega
    ·have hie:i=n:=by omega
     subst hie
     have hX:wr.ownsRow 0 48 1 (.slice av i capv) i (List.replicate i (zlf wa.heap.size)):=by
      have:=hrow
      rw[List.drop_eq_nil_of_le (by have:=HLV.out;omega),List.append_nil]at this
      exact this
     have HX:=ze hX
     have HKP:=ze hkp
     have HSZ:=ze hkp.size
     have HVL:Hid (∀b,(Value.slice av i capv).ownBlock=some b→b<wa.heap.size):=λb hb=>(HVa.out.lt b hb).2
     obtain⟨iP,hP⟩:=info_parts zxw
     have HIP:=ze hP
     obtain⟨iI,hI⟩:=info_parts zql
     have HII:=ze hI
     clear hP hI
     have HMK:=ze hmk
     have NMK:Hid (¬(Value.slice av i capv).ownBlock=some wa.heap.size):=λh=>by have:=HVL.out _ h;omega
     generalize hXs:List.replicate i (zlf wa.heap.size)=X at *
     clear hrow hkp hX hin hile hmk
     have HXs:=ze hXs
     clear hXs
     go_wp2_with (first
      |(at_builtin;refine zz rfl _ _ 37 rfl 0 48 i0 (.slice none 0 0) 1 24 Tryz.underlying37 HI.out.1 HI.out.2.1 HI.out.2.2.1 HI.out.2.2.2 rfl (by decide) _ _ _ rfl (HX.out.alloc _) ⟨wr.heap.size,0,none⟩ 1 1 [.slice (some ⟨wa.heap.size,0,none⟩) 2 2] rfl rfl (cell_one_new _ _ _) (by simp[Value.oneCell']) (by unfold maxLen;omega) (by omega) (Nat.zero_le _) (by decide) ?_;intro v7 w7 own7 grow7 loc7 keep7;have hk:=zhc (S:=λb=>(Value.slice av i capv).ownBlock=some b) grow7 (λ_ h=>h);have HR7:=ze (keep7 _ _ _ (HX.out.alloc _) (List.prefix_append _ _));have HL7:=ze (z3g (w:=wa) HSZ.out loc7 own7);obtain⟨a7,cap7,rfl,_⟩:=zr own7;have HO7:=ze own7;have HK7:=ze hk;have HM7:=ze (mbs hk HMK.out NMK.out);have HS7:Hid (wa.heap.size≤w7.heap.size):=Nat.le_trans HSZ.out hk.size;clear hk own7 grow7 loc7 keep7)
      |(at_builtin;refine zz rfl _ _ 37 rfl 0 48 i0 (.slice none 0 0) 1 24 Tryz.underlying37 HI.out.1 HI.out.2.1 HI.out.2.2.1 HI.out.2.2.2 rfl (by decide) _ _ _ rfl (HR7.out.alloc _) ⟨w7.heap.size,0,none⟩ 2 2 [.slice (some ⟨wa.heap.size,0,none⟩) 2 2,.slice (some ⟨wa.heap.size,0,none⟩) 2 2] rfl rfl (z2r w7 _ _ _) (by simp[Value.oneCell']) (by unfold maxLen;omega) (by omega) (Nat.zero_le _) (by decide) ?_;intro v8 w8 own8 grow8 loc8 keep8;have hk:=zhc (S:=λb=>(Value.slice av i capv).ownBlock=some b) grow8 (λ_ h=>h);have HR8:=ze (keep8 _ _ _ (HR7.out.alloc _) (List.prefix_append _ _));have HR8a:=ze (keep8 _ _ _ (HO7.out.alloc _) (by simp[List.prefix_append_right_inj]));have HL8:=ze (z3g (w:=wa) HS7.out loc8 own8);obtain⟨a8,cap8,rfl,_⟩:=zr own8;have HO8:=ze own8;have HK8:=ze hk;have HM8:=ze (mbs hk HM7.out NMK.out);have HS8:Hid (wa.heap.size≤w8.heap.size):=Nat.le_trans HS7.out hk.size;clear hk own8 grow8 loc8 keep8)
      |(at_builtin;refine zz rfl _ _ 37 rfl 0 48 i0 (.slice none 0 0) 1 24 Tryz.underlying37 HI.out.1 HI.out.2.1 HI.out.2.2.1 HI.out.2.2.2 rfl (by decide) _ _ _ rfl (HR8.out.alloc _) ⟨w8.heap.size,0,none⟩ 3 3 [.slice (some ⟨wa.heap.size,0,none⟩) 2 2,.slice (some ⟨wa.heap.size,0,none⟩) 2 2,.slice (some ⟨wa.heap.size,0,none⟩) 2 2] rfl rfl (z0n w8 _ _ _ _) (by simp[Value.oneCell']) (by unfold maxLen;omega) (by omega) (Nat.zero_le _) (by decide) ?_;intro v9 w9 own9 grow9 loc9 keep9;have hk:=zhc (S:=λb=>(Value.slice av i capv).ownBlock=some b) grow9 (λ_ h=>h);have HR9:=ze (keep9 _ _ _ (HR8.out.alloc _) (List.prefix_append _ _));have HR9a:=ze (keep9 _ _ _ (HR8a.out.alloc _) (by simp[List.prefix_append_right_inj]));have HR9b:=ze (keep9 _ _ _ (HO8.out.alloc _) (by simp[List.prefix_append_right_inj]));have HL9:=ze (z3g (w:=wa) HS8.out loc9 own9);obtain⟨a9,cap9,rfl,_⟩:=zr own9;have HO9:=ze own9;have HK9:=ze hk;have HM9:=ze (mbs hk HM8.out NMK.out);have HS9:Hid (wa.heap.size≤w9.heap.size):=Nat.le_trans HS8.out hk.size;have hkw:=((HKP.out.trans HK7.out (λ_ _ h=>h)).trans HK8.out (λ_ _ h=>h)).trans hk (λ_ _ h=>h);have hp9:=mbs hkw HWa.out N1.out;have y5:w9.cell? ⟨p,7,none⟩=some (.slice aF (4*q) capF):=(zg hp9 7).trans C7a.out;have HP9:=ze hp9;have HKW:=ze hkw;clear hp9 hkw;clear hk own9 grow9 loc9 keep9)
      |(at_builtin;refine zz rfl _ _ 64 rfl 0 37 iP (.slice none 0 0) 1 24 Tryz.underlying64 HIP.out.1 HIP.out.2.1 HIP.out.2.2.1 HIP.out.2.2.2 rfl (by decide) _ _ _ rfl ((zi HFa.out HKW.out N4.out).alloc _) ⟨w9.heap.size,0,none⟩ 4 4 [.slice av i capv,.slice a7 (i+1) cap7,.slice a8 (i+2) cap8,.slice a9 (i+3) cap9] rfl rfl (zxe w9 _ _ _ _ _) (by simp[Value.oneCell']) (by unfold maxLen;omega) (by omega) (Nat.zero_le _) (by decide) ?_;intro v10 w10 own10 grow10 loc10 keep10;have hk:=zhc (S:=λb=>(Value.slice aF (4*q) capF).ownBlock=some b) grow10 (λ_ h=>h);have hp10:=mbs hk HP9.out N2.out;have y5:w10.cell? ⟨p,7,none⟩=some (.slice aF (4*q) capF):=(zg hp10 7).trans C7a.out;have yf5:=zx hp10 7;have y6:w10.cell? ⟨p,8,none⟩=some vJ:=(zg hp10 8).trans C8a.out;obtain⟨a10,cap10,rfl,_⟩:=zr own10;have HP10:=ze hp10;have HK10:=ze hk;have HO10:=ze own10;have HL10:=ze loc10;clear hp10 hk own10 grow10 loc10 keep10)
      |(at_builtin;refine zz rfl _ _ 26 rfl 0 3 iI (.int .i64 0) 1 8 Tryz.underlying26 HII.out.1 HII.out.2.1 HII.out.2.2.1 HII.out.2.2.2 rfl (by decide) _ _ _ rfl ((zi (zi (zi HJa.out HKW.out N5.out) HK10.out N6.out) (Kp.setCell (S:=λb=>b=p) w10 ⟨p,7,none⟩ (.slice a10 (4*q+4) cap10) rfl) (λb hb e=>N3.out (by rw[← e];exact hb))).alloc _) ⟨w10.heap.size,0,none⟩ 4 4 [.int .i64 (q+1),.int .i64 (q+1),.int .i64 (q+1),.int .i64 (q+1)] rfl rfl (z3o w10 p 7 _ _ _ _ _ _) (by simp[Value.oneCell']) (by unfold maxLen;omega) (by omega) (Nat.zero_le _) (by decide) ?_;intro v11 w11 own11 grow11 loc11 keep11;have hk:=zhc (S:=λb=>vJ.ownBlock=some b) grow11 (λ_ h=>h);have hp11:=mbs hk (zq HP10.out _) N3.out;have y6:w11.cell? ⟨p,8,none⟩=some vJ:=(zg hp11 8).trans (by simpa using C8a.out);have yf6:=zx hp11 8;obtain⟨a11,cap11,rfl,_⟩:=zr own11;have HP11:=ze hp11;have HK11:=ze hk;have HO11:=ze own11;have HL11:=ze loc11;clear hp11 hk own11 grow11 loc11 keep11)
      |fail)
     have lp:p<wa.heap.size:=zh HWa.out
     have lP:∀b,(Value.slice aF (4*q) capF).ownBlock=some b→b<wa.heap.size:=λb hb=>(HFa.out.lt b hb).2
     have lK:∀b,vJ.ownBlock=some b→b<wa.heap.size:=λb hb=>(HJa.out.lt b hb).2
     have s9:=HS9.out
     have s10:=HK10.out.size
     have s11:w10.heap.size≤w11.heap.size:=by have:=HK11.out.size;simpa [World.setCell] using this
     have t11:Kp (λb=>b=p∨vJ.ownBlock=some b) w10 (w11.setCell ⟨p,8,none⟩ (.slice a11 (4*q+4) cap11)):=
      ((Kp.setCell (S:=λb=>b=p∨vJ.ownBlock=some b) w10 ⟨p,7,none⟩ (.slice a10 (4*q+4) cap10) (Or.inl rfl)).trans (HK11.out.mono (S':=λb=>b=p∨vJ.ownBlock=some b) (λ_ _ h=>Or.inr h)) (λ_ _ h=>h)).trans (Kp.setCell (S:=λb=>b=p∨vJ.ownBlock=some b) w11 _ _ (Or.inl rfl)) (λ_ _ h=>h)
     have t10:Kp (λb=>b=p∨(Value.slice aF (4*q) capF).ownBlock=some b∨vJ.ownBlock=some b) w9 (w11.setCell ⟨p,8,none⟩ (.slice a11 (4*q+4) cap11)):=
      (HK10.out.mono (S':=λb=>b=p∨(Value.slice aF (4*q) capF).ownBlock=some b∨vJ.ownBlock=some b) (λ_ _ h=>Or.inr (Or.inl h))).trans t11 (λ_ _ h=>h.imp id Or.inr)
     have t9:Kp (λb=>b=p∨(Value.slice aF (4*q) capF).ownBlock=some b∨vJ.ownBlock=some b∨(Value.slice av i capv).ownBlock=some b) wa (w11.setCell ⟨p,8,none⟩ (.slice a11 (4*q+4) cap11)):=
      (HKW.out.mono (S':=λb=>b=p∨(Value.slice aF (4*q) capF).ownBlock=some b∨vJ.ownBlock=some b∨(Value.slice av i capv).ownBlock=some b) (λ_ _ h=>Or.inr (Or.inr (Or.inr h)))).trans t10 (λ_ _ h=>h.imp id (λh=>h.imp id Or.inl))
     have nv:∀b,(Value.slice av i capv).ownBlock=some b→¬(b=p∨(Value.slice aF (4*q) capF).ownBlock=some b∨vJ.ownBlock=some b):=λb hb h=>by
      rcases h with h|h|h
      ·exact N1.out (by rw[← h];exact hb)
      ·exact N4.out b h hb
      ·exact N5.out b h hb
     have nu:∀u s,zgf wa (Value.slice av i capv) u s→∀b,u.ownBlock=some b→¬(b=p∨(Value.slice aF (4*q) capF).ownBlock=some b∨vJ.ownBlock=some b):=λu s hu b hb=>by
      rcases hu b hb with h|h
      ·exact nv b h
      ·intro h2
       rcases h2 with h2|h2|h2
       ·omega
       ·have:=lP b h2;omega
       ·have:=lK b h2;omega
     have x1:X++[.slice (some ⟨wa.heap.size,0,none⟩) 2 2]=List.replicate (i+1) (zlf wa.heap.size):=by rw[zwm,HXs.out];rfl
     have x2:X++[.slice (some ⟨wa.heap.size,0,none⟩) 2 2,.slice (some ⟨wa.heap.size,0,none⟩) 2 2]=List.replicate (i+2) (zlf wa.heap.size):=by rw[zwm,← x1];simp[zlf]
     have x3:X++[.slice (some ⟨wa.heap.size,0,none⟩) 2 2,.slice (some ⟨wa.heap.size,0,none⟩) 2 2,.slice (some ⟨wa.heap.size,0,none⟩) 2 2]=List.replicate (i+3) (zlf wa.heap.size):=by rw[zwm,← x2];simp[zlf]
     have f0:=zi HR9.out t10 nv
     have f1:=zi HR9a.out t10 (nu _ _ HL7.out)
     have f2:=zi HR9b.out t10 (nu _ _ HL8.out)
     have f3:=zi HO9.out t10 (nu _ _ HL9.out)
     rw[x1]at f1
     rw[x2]at f2
     rw[x3]at f3
     have l10:∀b,(Value.slice a10 (4*q+4) cap10).ownBlock=some b→(Value.slice aF (4*q) capF).ownBlock=some b∨(w9.heap.size≤b∧b<w10.heap.size):=λb hb=>by
      have hlt:=(HO10.out.lt b hb).2
      rcases HL10.out with h|h
      ·exact Or.inl (h ▸ hb)
      ·rw[h]at hb
       injection hb with hb
       simp at hb
       exact Or.inr ⟨by omega,hlt⟩
     have l11:∀b,(Value.slice a11 (4*q+4) cap11).ownBlock=some b→vJ.ownBlock=some b∨w10.heap.size≤b:=λb hb=>by
      rcases HL11.out with h|h
      ·exact Or.inl (h ▸ hb)
      ·rw[h]at hb
       injection hb with hb
       simp[World.setCell]at hb
       exact Or.inr (by omega)
     have g10:=zi HO10.out t11 (λb hb h=>by
      rcases l10 b hb with h1|h1
      ·rcases h with h|h
       ·exact N2.out (by rw[← h];exact h1)
       ·exact N6.out b h h1
      ·rcases h with h|h
       ·omega
       ·have:=lK b h;omega)
     have g11:=zi HO11.out (Kp.setCell (S:=λb=>b=p) w11 ⟨p,8,none⟩ (.slice a11 (4*q+4) cap11) rfl) (λb hb h=>by
      rcases l11 b hb with h1|h1
      ·exact N3.out (by rw[← h];exact h1)
      ·omega)
     rw[← HXs.out]at f0
     have hsa:=HMa.out.kp.size
     have lva:∀b,(Value.slice av i capv).ownBlock=some b→b<w.heap.size:=λb e=>(HV.out.row.lt b e).2
     have lFa:∀b,(Value.slice aF (4*q) capF).ownBlock=some b→b<w.heap.size:=λb e=>(HF.out.lt b e).2
     have lJa:∀b,vJ.ownBlock=some b→b<w.heap.size:=λb e=>(HJ.out.lt b e).2
     have kFin:=(HMa.out.kp.mono (S':=λb=>b=p∨vB.ownBlock=some b∨vI.ownBlock=some b∨(Value.slice aF (4*q) capF).ownBlock=some b∨vJ.ownBlock=some b∨(Value.slice av i capv).ownBlock=some b∨∃(j:Nat) (u:Value),lv[j]?=some u∧u.ownBlock=some b) (λb _ hs=>by
      rcases hs with hs|hs|hs|⟨j,u,_,r⟩
      ·exact Or.inl hs
      ·exact Or.inr (Or.inl hs)
      ·exact Or.inr (Or.inr (Or.inl hs))
      ·exact Or.inr (Or.inr (Or.inr (Or.inr (Or.inr (Or.inr ⟨j,u,r⟩))))))).trans t9 (λb _ hs=>by
      rcases hs with hs|hs|hs|hs
      ·exact Or.inl hs
      ·exact Or.inr (Or.inr (Or.inr (Or.inl hs)))
      ·exact Or.inr (Or.inr (Or.inr (Or.inr (Or.inl hs))))
      ·exact Or.inr (Or.inr (Or.inr (Or.inr (Or.inr (Or.inl hs))))))
     have nIv:∀b,vI'.ownBlock=some b→vJ.ownBlock≠some b:=λb e e2=>by
      rcases HMa.out.locI b e with h|h
      ·exact NIJ.out b h e2
      ·have:=lJa b e2;omega
     have rBf:=zi HMa.out.rowB t9 (λb e hs=>by
      rcases hs with rfl|hs|hs|hs
      ·exact zzc HWa.out HMa.out.rowB (by decide) e
      ·exact z7 HMa.out.rowB HFa.out (by decide) b e hs
      ·exact z7 HMa.out.rowB HJa.out (by decide) b e hs
      ·rcases HMa.out.locB b e with h|h
       ·exact NB.out b hs h
       ·have:=lva b hs;omega)
     have rIf:=zi HMa.out.rowI t9 (λb e hs=>by
      rcases hs with rfl|hs|hs|hs
      ·exact zzc HWa.out HMa.out.rowI (by decide) e
      ·exact z7 HMa.out.rowI HFa.out (by decide) b e hs
      ·exact nIv b e hs
      ·exact z7 HMa.out.rowI HVa.out (by decide) b e hs)
     have lsf:∀e∈b',zgq (w11.setCell ⟨p,8,none⟩ (.slice a11 (4*q+4) cap11)) e:=λe he=>by
      obtain⟨a1,a2⟩:=HMa.out.lists e he
      refine⟨zi a1 t9 (λb eb hs=>?_),a2⟩
      rcases hs with rfl|hs|hs|hs
      ·exact zzc HWa.out a1 (by decide) eb
      ·exact z7 a1 HFa.out (by decide) b eb hs
      ·exact z7 a1 HJa.out (by decide) b eb hs
      ·exact z7 a1 HVa.out (by decide) b eb hs
     have mkf:(w11.setCell ⟨p,8,none⟩ (.slice a11 (4*q+4) cap11)).heap[wa.heap.size]?=some (.cells (ztn (q+1)) 5 (0,0)):=(t10.block wa.heap.size (zh HM9.out) (λhs=>by
      rcases hs with hs|hs|hs
      ·have:=LPa.out;omega
      ·have:=lFa _ hs;omega
      ·have:=lJa _ hs;omega)).trans HM9.out
     obtain⟨a7,a8,a5,a6⟩:=HCSa.out
     have l7:=(Array.getElem?_eq_some_iff.1 C7a.out).1
     have l8:=(Array.getElem?_eq_some_iff.1 C8a.out).1
     have hpf:(w11.setCell ⟨p,8,none⟩ (.slice a11 (4*q+4) cap11)).heap[p]?=some (.cells ((cs'.setIfInBounds 7 (.slice a10 (4*q+4) cap10)).setIfInBounds 8 (.slice a11 (4*q+4) cap11)) 68 (0,0)):=zq HP11.out _
     have HFin:=ze (HR.out _ vB' vI' _ _ b' _ _ _ wa.heap.size _ kFin ⟨hpf,by rw[Array.getElem?_setIfInBounds_ne (by omega),Array.getElem?_setIfInBounds_ne (by omega)];exact a7,by rw[Array.getElem?_setIfInBounds_ne (by omega),Array.getElem?_setIfInBounds_ne (by omega)];exact a8,by rw[Array.getElem?_setIfInBounds_ne (by omega),Array.getElem?_setIfInBounds_self_of_lt l7],by rw[Array.getElem?_setIfInBounds_self_of_lt (by simpa using l8)],by simp[a5],λk k3 k4 k7 k8=>by rw[Array.getElem?_setIfInBounds_ne (by omega),Array.getElem?_setIfInBounds_ne (by omega)];exact a6 k k3 k4⟩ rBf rIf HMa.out.len lsf (λe he b hb=>(HMa.out.loc e he b hb).imp (λ⟨j,u,_,r⟩=>⟨j,u,r⟩) id) g10 g11 f0 f1 f2 f3 mkf hsa (λx hx b hb=>by
      have far:∀s,(Value.slice av i capv).ownBlock=some b∨(wa.heap.size≤b∧b<s)→((Value.slice av i capv).ownBlock=some b∨w.heap.size≤b)∧vB'.ownBlock≠some b:=λs h=>by
       refine⟨h.imp id (λh=>by omega),λe=>?_⟩
       rcases h with h|h
       ·rcases HMa.out.locB b e with h2|h2
        ·exact NB.out b h h2
        ·have:=lva b h;omega
       ·have:=(HMa.out.rowB.lt b e).2;omega
      rcases hx with rfl|rfl|rfl
      ·exact far _ (HL7.out b hb)
      ·exact far _ (HL8.out b hb)
      ·exact far _ (HL9.out b hb)) HMa.out.locB HMa.out.locI (λb hb=>(l10 b hb).imp id (λh=>by omega)) (λb hb=>(l11 b hb).imp id (λh=>by omega)) (λb e e2=>by
      rcases l11 b e2 with h|h
      ·exact nIv b e h
      ·have:=(HMa.out.rowI.lt b e).2;omega))
     clear f0 f1 f2 f3 g10 g11 l10 l11 t9 t10 t11 nu nv x1 x2 x3 lp lP lK s9 s10 s11 hpf mkf lsf rBf rIf nIv kFin lva lFa lJa hsa a7 a8 a5 a6 l7 l8
     go_end0
     exact HFin.out
end
end Go.Proofs.YthbdpfccfcceiaaGreatDoor
