/-
  Of the proof of logsUpto_card.
-/
import Derived.Test.YthbdpfccfcceiaaGreatDoorR15x
namespace Go.Proofs.YthbdpfccfcceiaaGreatDoor
section
open Go.RowKit
section
variable {own own':Nat→Lab}{c:Nat}{w w':World}{p:Nat}{s:YS}{vL vT vG:Value}{sv lg:List Value}
variable {R:Ending→World→Prop}
theorem zak (a b:List YV):zo (a++b)=zo a++zo b:=by simp[zo]
theorem zls (l:List YV)(b:Nat)(hb:b≤l.length):zo (l.take b)=(zo l).take (b*4):=by
 have h:=zak (l.take b) (l.drop b)
 rw[List.take_append_drop]at h
 have hlen:(zo (l.take b)).length=b*4:=by rw[zjf,List.length_take,Nat.min_eq_left hb]
 rw[h,← hlen,List.take_left]
theorem zjs (l:List YV)(b:Nat)(hb:b≤l.length):zo (l.drop b)=(zo l).drop (b*4):=by
 have h:=zak (l.take b) (l.drop b)
 rw[List.take_append_drop]at h
 have hlen:(zo (l.take b)).length=b*4:=by rw[zjf,List.length_take,Nat.min_eq_left hb]
 rw[h,← hlen,List.drop_left]
theorem zrv {w:World}{g b:Nat}{l:List YV}(hb:b≤l.length)(h:∀j u,(zo l)[j]?=some u→w.cell? ((⟨g,0,none⟩:Addr).add j)=some u):∀j u,(zo (l.take b))[j]?=some u→w.cell? ((⟨g,0,none⟩:Addr).add j)=some u:=λj u hu=>by
 rw[zls l b hb,List.getElem?_take]at hu
 split at hu
 ·exact h j u hu
 ·cases hu
theorem z0u {w:World}{g b:Nat}{l:List YV}(hb:b≤l.length)(h:∀j u,(zo l)[j]?=some u→w.cell? ((⟨g,0,none⟩:Addr).add j)=some u):∀j u,(zo (l.drop b))[j]?=some u→w.cell? ((⟨g,b*4,none⟩:Addr).add j)=some u:=λj u hu=>by
 rw[zjs l b hb,List.getElem?_drop]at hu
 have:=h _ u hu
 rw[WideShapes.add_plain]at this ⊢
 rw[Nat.zero_add]at this
 exact this
theorem zj4 {S:Nat→Prop}{w1 w2:World}(k:Kp (λ_=>False) w1 w2):Kp S w1 w2:=k.mono (λ_ _ h=>h.elim)
def zv3 (own:Nat→Lab)(c:Nat)(w:World)(p:Nat)(s:YS)(vT vG:Value)(sv lg:List Value)(n:Nat)(wr:World):Prop:=
 ∃own' s' vL',zjg n s s'∧YR own' c wr p s' vL' vT vG sv lg∧Kp (λb=>(own b).c=c) w wr∧(∀b,b<w.heap.size→own' b=own b)∧s'.l.length≤s.l.length
set_option maxRecDepth 20000 in
set_option maxHeartbeats 8000000 in
theorem z30 (h:YR own c w p s vL vT vG sv lg)(hl:s.l.length<1000000)(most:Int)(hmo:most≤9223372036854775807)
  (hR:∀(n:Nat) w' own' s' vL',zjg n s s'→((n:Int)≤most∨n=0)→((n:Int)<most→z8h s' s'.l.length)→Kp (λb=>(own b).c=c) w w'→(∀b,b<w.heap.size→own' b=own b)→YR own' c w' p s' vL' vT vG sv lg→R (.returned (.int .i64 n)) w') :
  Calls Tryz.prog 111 #[.pointer (some ⟨p,0,none⟩),.int .i64 most] w R:=by
 have H:=ze h
 have HR:=ze hR
 have HL:=ze hl
 obtain⟨iV,hV⟩:=info_parts zvj
 have HIV:=ze hV
 clear h hR hl hV
 go_enter Tryz.func111,Tryz.ntmps111
 go_wp2
 go_loopw [5] (λv5 wr=>∃n:Nat,v5 = .int .i64 n∧((n:Int)≤most∨n=0)∧zv3 own c w p s vT vG sv lg n wr) (λv5 _=>(most-intOf v5).toNat)
 case atStart=>exact⟨0,rfl,Or.inr rfl,own,s,vL,zjg.none s,H.out,Kp.refl _ _,λ_ _=>rfl,Nat.le_refl _⟩
 case round=>
  obtain⟨n,rfl,hnm,own1,s1,vL1,hvac,hY,hkw,hag,hlen⟩:=hrel
  have HNM:=ze hnm
  have HVA:=ze hvac
  have HKW:=ze hkw
  have HAG:=ze hag
  have HLE:=ze hlen
  have HY:=ze hY
  by_cases hlt:(n:Int)<most
  ·obtain⟨al,cl,hvl,hcl⟩:=zr hY.rowL
   have c0:wr.cell? ⟨p,0,none⟩=some (.slice al s1.l.length cl):=(zg hY.store 0).trans (by rw[hvl];rfl)
   have C0:=ze c0
   have HVL:=ze hvl
   have hl1:(s1.l.length:Int)<1000000:=by have:=HL.out;omega
   have LP:Hid (p<wr.heap.size):=zh hY.store
   have HLT:=ze hlt
   have hn63:(n:Int)<9223372036854775807:=by omega
   clear hvac hkw hag hlen hY hnm hvl hmo
   go_wp2
   go_loopw [6,7] (λv6 v7 wq=>∃i:Nat,i≤s1.l.length∧v7 = .int .i64 i∧Kp (λ_=>False) wr wq∧((v6 = .int .i64 (-1)∧z8h s1 i)∨∃b:Nat,v6 = .int .i64 b∧zwf s1 i b)) (λ_ v7 _=>s1.l.length-(intOf v7).toNat)
   case atStart=>exact⟨0,Nat.zero_le _,rfl,Kp.refl _ _,Or.inl ⟨rfl,λj _ h=>by omega⟩⟩
   case round=>
    obtain⟨i,hile,rfl,hkp,hbest⟩:=hrel
    have d0:=(hkp.cell (a:=⟨p,0,none⟩) LP.out (λh=>h)).trans C0.out
    have HKP:=ze hkp
    have hY2:=HY.out.kept hkp
    have HY2:=ze hY2
    by_cases hin:i<s1.l.length
    ·have hin':(i:Int)<s1.l.length:=by omega
     rcases zxh hY2.rowL with ⟨_,h0⟩|⟨g,cap,hv⟩
     ·rw[h0]at hin;simp at hin
     ·have hval:=hv.val
      rw[HVL.out]at hval
      injection hval with hal _ hcl2
      subst hal
      have q0:=hv.c0 i hin
      have q1:=hv.c1 i hin
      have q2:=hv.c2 i hin
      have q3:=hv.c3 i hin
      have HV:=ze hv
      have HIN:=ze hin
      obtain⟨y,hy⟩:∃y,s1.l[i]'hin=y:=⟨_,rfl⟩
      rw[hy]at q0 q1 q2 q3
      obtain⟨kk,tt,gg,ss⟩:=y
      dsimp only at q0 q1 q2 q3
      have HE:Hid (∀hi:i<s1.l.length,s1.l[i]'hi=⟨kk,tt,gg,ss⟩):=λ_=>hy
      clear hy
      have HL1:Hid (s1.l.length<1000000):=by have:=HL.out;have:=HLE.out;show _<_;omega
      clear hv hin hile hkp hY2 hcl2
      rcases hbest with ⟨rfl,hnone⟩|⟨b,rfl,hb⟩
      ·have HNO:=ze hnone
       clear hnone
       go_wp2_with (first
        |(go_at_call 162;refine z5n HY2.out HL1.out kk ss tt gg (λok w2 hok hk2=>?_);have d02:=(hk2.cell (a:=⟨p,0,none⟩) (World.block_lt_of_cell? _ _ d0) (λh=>h)).trans d0;have q02:=(hk2.cell (World.block_lt_of_cell? _ _ q0) (λh=>h)).trans q0;have q12:=(hk2.cell (World.block_lt_of_cell? _ _ q1) (λh=>h)).trans q1;have HOK:=ze hok;have HK2:=ze hk2;clear hok hk2;cases ok)
        |fail)
       ·go_quiet (fail)
        go_wp2_with fail
        go_roundw
        case rel=>exact⟨i+1,by have:=HIN.out;omega,by go_num,(HKP.out.trans HK2.out (λ_ _ h=>h)).trans (Kp.drewN (λ_=>False) _ _) (λ_ _ h=>h),Or.inl ⟨rfl,HNO.out.skip HIN.out (by rw[HE.out HIN.out];exact λh=>by have:=HOK.out.2 h;cases this)⟩⟩
        case measure=>have:=HIN.out;simp[intOf];omega
       ·go_quiet (fail)
        go_wp2_with fail
        go_roundw
        case rel=>exact⟨i+1,by have:=HIN.out;omega,by go_num,(HKP.out.trans HK2.out (λ_ _ h=>h)).trans (Kp.drewN (λ_=>False) _ _) (λ_ _ h=>h),Or.inr ⟨i,rfl,HNO.out.new HIN.out (by rw[HE.out HIN.out];exact HOK.out.1 (by first|rfl|trivial))⟩⟩
        case measure=>have:=HIN.out;simp[intOf];omega
      ·have hblt:=hb.lt
       have r0:=HV.out.c0 b hblt
       have r1:=HV.out.c1 b hblt
       have hb1:(b:Int)<s1.l.length:=by omega
       have hb0:decide ((b:Int)<0)=false:=by simp
       have HBE:=ze hb
       have HBL:=ze hblt
       obtain⟨yb,hyb⟩:∃y,s1.l[b]'hblt=y:=⟨_,rfl⟩
       rw[hyb]at r0 r1
       obtain⟨kb,tb,gb,sb⟩:=yb
       dsimp only at r0 r1
       have HBK:Hid (∀hb:b<s1.l.length,s1.l[b]'hb=⟨kb,tb,gb,sb⟩):=λ_=>hyb
       clear hyb
       have HLTV:Hid (∀(hi:i<s1.l.length) (hb:b<s1.l.length),ltV (s1.l[i]'hi) (s1.l[b]'hb)↔(blt kk kb∨(kk=kb∧tt<tb))):=λhi hb=>by
        unfold ltV
        rw[HBK.out hb,HE.out hi]
       clear hb hblt
       cases hs:Op.bytesLess kk.toList kb.toList with
       |true=>
        have HS:=ze ((z4g kk kb).1 hs)
        go_wp2_with (first
         |(go_at_call 162;refine z5n HY2.out HL1.out kk ss tt gg (λok w2 hok hk2=>?_);have d02:=(hk2.cell (a:=⟨p,0,none⟩) (World.block_lt_of_cell? _ _ d0) (λh=>h)).trans d0;have q02:=(hk2.cell (World.block_lt_of_cell? _ _ q0) (λh=>h)).trans q0;have q12:=(hk2.cell (World.block_lt_of_cell? _ _ q1) (λh=>h)).trans q1;have r02:=(hk2.cell (World.block_lt_of_cell? _ _ r0) (λh=>h)).trans r0;have r12:=(hk2.cell (World.block_lt_of_cell? _ _ r1) (λh=>h)).trans r1;have HOK:=ze hok;have HK2:=ze hk2;clear hok hk2;cases ok)
         |fail)
        ·go_quiet (fail)
         go_wp2_with fail
         go_roundw
         case rel=>exact⟨i+1,by have:=HIN.out;omega,by go_num,(HKP.out.trans HK2.out (λ_ _ h=>h)).trans (Kp.drewN (λ_=>False) _ _) (λ_ _ h=>h),Or.inr ⟨b,rfl,HBE.out.skip HIN.out (by rw[HE.out HIN.out];exact λh=>by have:=HOK.out.2 h;cases this)⟩⟩
         case measure=>have:=HIN.out;simp[intOf];omega
        ·go_quiet (fail)
         go_wp2_with fail
         go_roundw
         case rel=>exact⟨i+1,by have:=HIN.out;omega,by go_num,(HKP.out.trans HK2.out (λ_ _ h=>h)).trans (Kp.drewN (λ_=>False) _ _) (λ_ _ h=>h),Or.inr ⟨i,rfl,HBE.out.new HIN.out HBL.out (by rw[HE.out HIN.out];exact HOK.out.1 (by first|rfl|trivial)) ((HLTV.out HIN.out HBL.out).2 (Or.inl HS.out))⟩⟩
         case measure=>have:=HIN.out;simp[intOf];omega
       |false=>
        have HS:Hid (¬blt kk kb):=λh=>by
         have:=(z4g kk kb).2 h
         unfold ltB at this
         rw[hs]at this;cases this
        cases he:(kk.toList == kb.toList) with
        |true=>
         have HEK:=ze (z2w he)
         by_cases h1:tt<tb
         ·have e1:decide (tt<tb)=true:=decide_eq_true h1
          have HT1:=ze h1
          go_wp2_with (first
           |(go_at_call 162;refine z5n HY2.out HL1.out kk ss tt gg (λok w2 hok hk2=>?_);have d02:=(hk2.cell (a:=⟨p,0,none⟩) (World.block_lt_of_cell? _ _ d0) (λh=>h)).trans d0;have q02:=(hk2.cell (World.block_lt_of_cell? _ _ q0) (λh=>h)).trans q0;have q12:=(hk2.cell (World.block_lt_of_cell? _ _ q1) (λh=>h)).trans q1;have r02:=(hk2.cell (World.block_lt_of_cell? _ _ r0) (λh=>h)).trans r0;have r12:=(hk2.cell (World.block_lt_of_cell? _ _ r1) (λh=>h)).trans r1;have HOK:=ze hok;have HK2:=ze hk2;clear hok hk2;cases ok)
           |fail)
          ·go_quiet (fail)
           go_wp2_with fail
           go_roundw
           case rel=>exact⟨i+1,by have:=HIN.out;omega,by go_num,(HKP.out.trans HK2.out (λ_ _ h=>h)).trans (Kp.drewN (λ_=>False) _ _) (λ_ _ h=>h),Or.inr ⟨b,rfl,HBE.out.skip HIN.out (by rw[HE.out HIN.out];exact λh=>by have:=HOK.out.2 h;cases this)⟩⟩
           case measure=>have:=HIN.out;simp[intOf];omega
          ·go_quiet (fail)
           go_wp2_with fail
           go_roundw
           case rel=>exact⟨i+1,by have:=HIN.out;omega,by go_num,(HKP.out.trans HK2.out (λ_ _ h=>h)).trans (Kp.drewN (λ_=>False) _ _) (λ_ _ h=>h),Or.inr ⟨i,rfl,HBE.out.new HIN.out HBL.out (by rw[HE.out HIN.out];exact HOK.out.1 (by first|rfl|trivial)) ((HLTV.out HIN.out HBL.out).2 (Or.inr ⟨HEK.out,HT1.out⟩))⟩⟩
           case measure=>have:=HIN.out;simp[intOf];omega
         ·have e1:decide (tt<tb)=false:=decide_eq_false h1
          have HT1:=ze h1
          go_wp2_with (first
           |(go_at_call 162;refine z5n HY2.out HL1.out kk ss tt gg (λok w2 hok hk2=>?_);have d02:=(hk2.cell (a:=⟨p,0,none⟩) (World.block_lt_of_cell? _ _ d0) (λh=>h)).trans d0;have q02:=(hk2.cell (World.block_lt_of_cell? _ _ q0) (λh=>h)).trans q0;have q12:=(hk2.cell (World.block_lt_of_cell? _ _ q1) (λh=>h)).trans q1;have r02:=(hk2.cell (World.block_lt_of_cell? _ _ r0) (λh=>h)).trans r0;have r12:=(hk2.cell (World.block_lt_of_cell? _ _ r1) (λh=>h)).trans r1;have HOK:=ze hok;have HK2:=ze hk2;clear hok hk2;cases ok)
           |fail)
          ·go_quiet (fail)
           go_wp2_with fail
           go_roundw
           case rel=>exact⟨i+1,by have:=HIN.out;omega,by go_num,(HKP.out.trans HK2.out (λ_ _ h=>h)).trans (Kp.drewN (λ_=>False) _ _) (λ_ _ h=>h),Or.inr ⟨b,rfl,HBE.out.skip HIN.out (by rw[HE.out HIN.out];exact λh=>by have:=HOK.out.2 h;cases this)⟩⟩
           case measure=>have:=HIN.out;simp[intOf];omega
          ·go_quiet (fail)
           go_wp2_with fail
           go_roundw
           case rel=>exact⟨i+1,by have:=HIN.out;omega,by go_num,(HKP.out.trans HK2.out (λ_ _ h=>h)).trans (Kp.drewN (λ_=>False) _ _) (λ_ _ h=>h),Or.inr ⟨b,rfl,HBE.out.keep HIN.out HBL.out (λh=>((HLTV.out HIN.out HBL.out).1 h).elim HS.out (λh=>by have h2:=h.2;have h3:=HT1.out;omega))⟩⟩
           case measure=>have:=HIN.out;simp[intOf];omega
        |false=>
         have HNE:=ze (z3w he)
         go_wp2_with (first
          |(go_at_call 162;refine z5n HY2.out HL1.out kk ss tt gg (λok w2 hok hk2=>?_);have d02:=(hk2.cell (a:=⟨p,0,none⟩) (World.block_lt_of_cell? _ _ d0) (λh=>h)).trans d0;have q02:=(hk2.cell (World.block_lt_of_cell? _ _ q0) (λh=>h)).trans q0;have q12:=(hk2.cell (World.block_lt_of_cell? _ _ q1) (λh=>h)).trans q1;have r02:=(hk2.cell (World.block_lt_of_cell? _ _ r0) (λh=>h)).trans r0;have r12:=(hk2.cell (World.block_lt_of_cell? _ _ r1) (λh=>h)).trans r1;have HOK:=ze hok;have HK2:=ze hk2;clear hok hk2;cases ok)
          |fail)
         ·go_quiet (fail)
          go_wp2_with fail
          go_roundw
          case rel=>exact⟨i+1,by have:=HIN.out;omega,by go_num,(HKP.out.trans HK2.out (λ_ _ h=>h)).trans (Kp.drewN (λ_=>False) _ _) (λ_ _ h=>h),Or.inr ⟨b,rfl,HBE.out.skip HIN.out (by rw[HE.out HIN.out];exact λh=>by have:=HOK.out.2 h;cases this)⟩⟩
          case measure=>have:=HIN.out;simp[intOf];omega
         ·go_quiet (fail)
          go_wp2_with fail
          go_roundw
          case rel=>exact⟨i+1,by have:=HIN.out;omega,by go_num,(HKP.out.trans HK2.out (λ_ _ h=>h)).trans (Kp.drewN (λ_=>False) _ _) (λ_ _ h=>h),Or.inr ⟨b,rfl,HBE.out.keep HIN.out HBL.out (λh=>((HLTV.out HIN.out HBL.out).1 h).elim HS.out (λh=>HNE.out h.1))⟩⟩
          case measure=>have:=HIN.out;simp[intOf];omega
    ·have hie:i=s1.l.length:=by omega
     subst hie
     rcases hbest with ⟨rfl,hnone⟩|⟨b,rfl,hb⟩
     ·have HF:=ze (HR.out n wr own1 s1 vL1 HVA.out HNM.out (λ_=>hnone) (HKW.out.trans (zj4 hkp) (λ_ _ h=>h)) HAG.out hY2)
      clear hnone hkp hY2 hin hile
      go_wp2
      exact HF.out
     ·have hblt:=hb.lt
      rcases zxh hY2.rowL with ⟨_,h0⟩|⟨g,cap,hv⟩
      ·rw[h0]at hblt;simp at hblt
      ·have hval:=hv.val
       rw[HVL.out]at hval
       injection hval with hal _ hcl2
       subst hal
       subst hcl2
       have HBE:=ze hb
       have HBL:=ze hblt
       have hb1:(b:Int)<s1.l.length:=by omega
       have hb2:(b:Int)+1≤s1.l.length:=by omega
       have hb0:decide ((b:Int)<0)=false:=by simp
       have hcap1:(s1.l.length:Int)≤cl:=by omega
       have hcap2:(b:Int)≤cl:=by omega
       have f0:wr.frozen? ⟨p,0,none⟩=false:=zx hY2.store 0
       have HKP:=ze hkp
       have HY2:=ze hY2
       have HRC:=ze (hY2.rowL.cells (g:=g) (by rw[HVL.out];rfl))
       have HTL:Hid ((zo (s1.l.take b)).length=b*4):=by show _=_;rw[zjf,List.length_take,Nat.min_eq_left (Nat.le_of_lt hblt)]
       have HTC:=ze (zrv (Nat.le_of_lt hblt) HRC.out)
       obtain⟨ad,hif,hadc⟩:∃ad:Addr,(if cl=b+1 then some (⟨g,0,none⟩:Addr) else some ⟨g,(b+1)*4,none⟩)=some ad∧∀j u,(zo (s1.l.drop (b+1)))[j]?=some u→wr.cell? (ad.add j)=some u:=by
        by_cases hce:cl=b+1
        ·refine⟨_,if_pos hce,λj u hu=>?_⟩
         rw[List.drop_eq_nil_of_le (by omega)]at hu
         simp[zo]at hu
        ·exact⟨_,if_neg hce,z0u (b:=b+1) (by omega) HRC.out⟩
       have HDC:=ze hadc
       clear hadc
       have HDL:Hid ((zo (s1.l.drop (b+1))).length=(s1.l.length-(b+1))*4):=by show _=_;rw[zjf,List.length_drop]
       have HB1:Hid (0+b≤maxLen):=by show _≤_;unfold maxLen;omega
       have HB2:Hid ((0+b)*48≤140737488355328):=by show _≤_;omega
       have HB3:Hid (b+(s1.l.length-(b+1))≤maxLen):=by show _≤_;unfold maxLen;omega
       have HB4:Hid ((b+(s1.l.length-(b+1)))*48≤140737488355328):=by show _≤_;omega
       clear hv hb hblt hkp hY2 hin hile
       go_wp2_with (first
        |(at_builtin;refine wpList_append_own_at _ rfl _ _ 74 rfl wr.heap.size 193 iV (.agg #[.string ⟨#[]⟩,.int .i64 0,.bool false,.string ⟨#[]⟩]) 4 48 Tryz.underlying74 HIV.out.1 HIV.out.2.1 HIV.out.2.2.1 HIV.out.2.2.2 rfl (by decide) (.slice none 0 0) 0 [] rfl (World.ownsRow_nil _ _ _ _) ⟨g,0,none⟩ b cl (zo (s1.l.take b)) rfl HTL.out HTC.out (zbi _) HB1.out HB2.out (Nat.le_refl _) ?_;intro v2 w2 own2 grow2 nil2 loc2;have k2:=Kp.of_grown (S:=λ_=>False) grow2 (λ_ h=>by simp[Value.ownBlock]at h);have d2:=(k2.cell (a:=⟨p,0,none⟩) (World.block_lt_of_cell? _ _ d0) (λh=>h)).trans d0;obtain⟨a2,cap2,rfl,hcap2'⟩:=zr own2;(rw[Nat.zero_add,List.nil_append]at own2);have HO2:=ze own2;have HK2:=ze k2;have HDC2:=ze (λj u hu=>(k2.cell (World.block_lt_of_cell? _ _ (HDC.out j u hu)) (λh=>h)).trans (HDC.out j u hu));have f02:=(k2.frozen (a:=⟨p,0,none⟩) (World.block_lt_of_cell? _ _ d0) (λh=>h)).trans f0;clear k2 own2 grow2 nil2 loc2)
        |(at_builtin;refine wpList_append_own_at _ rfl _ _ 74 rfl wr.heap.size 193 iV (.agg #[.string ⟨#[]⟩,.int .i64 0,.bool false,.string ⟨#[]⟩]) 4 48 Tryz.underlying74 HIV.out.1 HIV.out.2.1 HIV.out.2.2.1 HIV.out.2.2.2 rfl (by decide) _ b (zo (s1.l.take b)) rfl HO2.out ad (s1.l.length-(b+1)) (cl-(b+1)) (zo (s1.l.drop (b+1))) rfl HDL.out HDC2.out (zbi _) HB3.out HB4.out HK2.out.size ?_;intro v3 w3 own3 grow3 nil3 loc3;have hb3:=λbb hbb=>(HO2.out.lt bb hbb).1;have k3:=HK2.out.trans (Kp.of_grown (S:=λbb=>Value.ownBlock _=some bb) grow3 (λ_ h=>h)) (λbb hbb h=>by have:=hb3 bb h;omega);have d3:=(k3.cell (a:=⟨p,0,none⟩) (World.block_lt_of_cell? _ _ d0) (λh=>h)).trans d0;have f3:=(k3.frozen (a:=⟨p,0,none⟩) (World.block_lt_of_cell? _ _ d0) (λh=>h)).trans f0;obtain⟨a3,cap3,rfl,hcap3⟩:=zr own3;have HO3:=ze own3;have HK3:=ze k3;clear k3 own3 grow3 nil3 loc3 hb3)
        |fail)
       have e1:s1.l.eraseIdx b=s1.l.take b++s1.l.drop (b+1):=List.eraseIdx_eq_take_drop_succ _ _
       have e2:(s1.l.eraseIdx b).length=b+(s1.l.length-(b+1)):=by
        have:=HBL.out
        rw[e1,List.length_append,List.length_take,List.length_drop];omega
       have row:w3.ownsRow 0 193 4 (.slice a3 (b+(s1.l.length-(b+1))) cap3) (s1.l.eraseIdx b).length (zo (s1.l.eraseIdx b)):=by
        rw[e2,e1,zak]
        exact⟨HO3.out.1,HO3.out.2.imp id (λ⟨g,cap,cur,x1,_,x3⟩=>⟨g,cap,cur,x1,Nat.zero_le _,x3⟩)⟩
       have NV:=ze (HY2.out.newVers HK3.out (s1.l.eraseIdx b) row (λbb h=>(HO3.out.lt bb h).1))
       have HEL:Hid ((s1.l.eraseIdx b).length≤s1.l.length):=by show _≤_;rw[e2];have:=HBL.out;omega
       clear e1 e2 row
       go_wp2_with fail
       go_roundw
       case rel=>
        refine⟨n+1,by go_num,Or.inl (by have:=HLT.out;omega),_,_,_,zjg.more HVA.out HBE.out,NV.out.1,?_,λb hb=>?_,Nat.le_trans HEL.out HLE.out⟩
        ·exact ((HKW.out.trans (HKP.out.trans HK3.out (λ_ _ h=>h)) (λ_ _ h=>h.elim)).trans (Kp.setCell (S:=λb=>b=p) w3 ⟨p,0,none⟩ _ rfl) (λb hb h=>by show (own b).c=c;rw[h,H.out.ownP]))
        ·have h1:=HKW.out.size
         have h2:=HKP.out.size
         exact (NV.out.2 b (by omega)).trans (HAG.out b hb)
       case measure=>have:=HLT.out;simp[intOf];omega
  ·have HF:=ze (HR.out n wr own1 s1 vL1 HVA.out HNM.out (λh=>absurd h hlt) HKW.out HAG.out HY.out)
   clear hvac hkw hag hlen hY hnm
   go_wp2
   exact HF.out
end
end
section
open Go.RowKit
section
variable {w:World}
variable {R:Ending→World→Prop}
set_option maxRecDepth 20000 in
set_option maxHeartbeats 1000000 in
theorem zqj {base e:Nat}(l:List YV)(v:Value)(lo hi t:Int)(key:ByteArray)(hl:l.length<1000000)(hkl:key.size≤maxLen)(hrow:w.ownsRow base e 4 v l.length (zo l))
  (h1:zu key=false→R (.returned (.tuple #[.string eb,.int .i64 1])) w)
  (h2:zu key=true→t<lo→R (.returned (.tuple #[.string eb,.int .i64 6])) w)
  (h3:zu key=true→¬t<lo→hi<t→R (.returned (.tuple #[.string eb,.int .i64 7])) w)
  (h4:zu key=true→¬t<lo→¬hi<t→∀r w',zcm l t key r→r.2=false→Kp (λ_=>False) w w'→R (.returned (.tuple #[.string eb,.int .i64 5])) w')
  (h5:zu key=true→¬t<lo→¬hi<t→∀r w',zcm l t key r→r.2=true→Kp (λ_=>False) w w'→R (.returned (.tuple #[.string r.1,.int .i64 0])) w') :
  Calls Tryz.prog 97 #[v,.int .i64 lo,.int .i64 hi,.int .i64 t,.string key] w R:=by
 have HK:Hid (key.size≤maxLen):=hkl
 have HL:Hid (l.length<1000000):=hl
 have HW:Hid (w.ownsRow base e 4 v l.length (zo l)):=hrow
 obtain⟨av,cap,rfl,_⟩:=zr hrow
 cases hb:zu key with
 |false=>
  have HR:=h1 hb
  clear h1 h2 h3 h4 h5 hkl hl hrow
  go_enter Tryz.func97,Tryz.ntmps97
  go_wp2_with (first
   |(go_at_call 151;refine (z8b _ _ HK.out).mono ?_;rintro e w' ⟨rfl,rfl⟩)
   |go_in)
  exact HR
 |true=>
  by_cases ht:t<lo
  ·have HR:=h2 hb ht
   clear h1 h2 h3 h4 h5 hkl hl hrow
   go_enter Tryz.func97,Tryz.ntmps97
   go_wp2_with (first
    |(go_at_call 151;refine (z8b _ _ HK.out).mono ?_;rintro e w' ⟨rfl,rfl⟩)
    |go_in)
   exact HR
  ·by_cases hh:hi<t
   ·have HR:=h3 hb ht hh
    clear h1 h2 h3 h4 h5 hkl hl hrow
    go_enter Tryz.func97,Tryz.ntmps97
    go_wp2_with (first
     |(go_at_call 151;refine (z8b _ _ HK.out).mono ?_;rintro e w' ⟨rfl,rfl⟩)
     |go_in)
    exact HR
   ·have HR4:Hid (∀r w',zcm l t key r→r.2=false→Kp (λ_=>False) w w'→R (.returned (.tuple #[.string eb,.int .i64 5])) w'):=h4 hb ht hh
    have HR5:Hid (∀r w',zcm l t key r→r.2=true→Kp (λ_=>False) w w'→R (.returned (.tuple #[.string r.1,.int .i64 0])) w'):=h5 hb ht hh
    clear h1 h2 h3 h4 h5 hkl hl hrow
    go_enter Tryz.func97,Tryz.ntmps97
    go_wp2_with (first
     |(go_at_call 151;refine (z8b _ _ HK.out).mono ?_;rintro e w' ⟨rfl,rfl⟩)
     |(go_at_call 152;refine z9m l _ t key _ HL.out HW.out (λr w1 hr hk1=>?_);obtain⟨r1,r2⟩:=r;have HSE:Hid _:=hr;clear hr;cases r2)
     |go_in)
    ·exact HR4.out _ w1 HSE.out rfl hk1
    ·exact HR5.out _ w1 HSE.out rfl hk1
def zhq (l:List YV)(t:Int)(g:ByteArray→ByteArray × Bool):Prop:=∀k r,zcm l t k r→r.2=(g k).2∧(r.2=true→r.1=(g k).1)
set_option maxRecDepth 20000 in
set_option maxHeartbeats 4000000 in
theorem zdl {base e:Nat}(l:List YV)(v:Value)(lo hi t:Int)(f u:ByteArray)(g:ByteArray→ByteArray × Bool)(hg:zhq l t g)(hl:l.length<1000000)(hrow:w.ownsRow base e 4 v l.length (zo l))
  (h1:t<lo→R (.returned (.tuple #[.slice none 0 0,.int .i64 6])) w)
  (h2:¬t<lo→hi<t→R (.returned (.tuple #[.slice none 0 0,.int .i64 7])) w)
  (h3:¬t<lo→¬hi<t→∀w' v' (ks:List ByteArray),Kp (λ_=>False) w w'→ks.Pairwise blt→(∀k,k∈ks↔(∃y∈l,y.key=k)∧inR f u k=true)→ks.length≤l.length→
   w'.ownsRow w.heap.size 105 2 v' (ks.filterMap (zdb g)).length (z9 (ks.filterMap (zdb g)))→R (.returned (.tuple #[v',.int .i64 0])) w') :
  Calls Tryz.prog 99 #[v,.int .i64 lo,.int .i64 hi,.int .i64 t,.string f,.string u] w R:=by
 obtain⟨al,cl,hvl⟩:=zqi hrow
 have hval:=hvl.val
 subst hval
 by_cases ht:t<lo
 ·have HR:=h1 ht
  clear h1 h2 h3 hg hl hrow hvl
  go_enter Tryz.func99,Tryz.ntmps99
  go_wp2
  exact HR
 ·by_cases hh:hi<t
  ·have HR:=h2 ht hh
   clear h1 h2 h3 hg hl hrow hvl
   go_enter Tryz.func99,Tryz.ntmps99
   go_wp2
   exact HR
  ·have HR:Hid (∀w' v' (ks:List ByteArray),Kp (λ_=>False) w w'→ks.Pairwise blt→(∀k,k∈ks↔(∃y∈l,y.key=k)∧inR f u k=true)→ks.length≤l.length→
     w'.ownsRow w.heap.size 105 2 v' (ks.filterMap (zdb g)).length (z9 (ks.filterMap (zdb g)))→R (.returned (.tuple #[v',.int .i64 0])) w'):=h3 ht hh
   have HG:Hid (zhq l t g):=hg
   have HL:Hid (l.length<1000000):=hl
   have HW:Hid (w.ownsRow base e 4 (.slice al l.length cl) l.length (zo l)):=hrow
   have HVL:Hid (zig w (.slice al l.length cl) l al cl):=hvl
   have HNIL:Hid (zig w (.slice none 0 0) [] none 0):=⟨rfl,λj hj=>absurd hj (by simp)⟩
   obtain⟨i0,hi0,hz0,hz1,hz2⟩:=info_parts zvi
   have HI:Hid (Tryz.prog.info? 105=some i0∧i0.zero=some (.agg #[.string ⟨#[]⟩,.string ⟨#[]⟩])∧i0.size=2∧i0.bytes=32):=⟨hi0,hz0,hz1,hz2⟩
   clear h1 h2 h3 hg hl hrow hvl hi0 hz0 hz1 hz2
   go_enter Tryz.func99,Tryz.ntmps99
   go_wp2_with (first
    |(go_at_call 153;refine zpm l [] (.slice al l.length cl) (.slice none 0 0) al none cl 0 f u w HL.out (by decide) HVL.out HNIL.out ?_;intro w1 v1 ks hk1 hrow hsort hmem hlen;have HK1:Hid (Kp (λ_=>False) w w1):=hk1;have hrow':w1.ownsRow w.heap.size 9 1 v1 ks.length (ks.map Value.string):=hrow;obtain⟨a1,cap1,rfl,hcell⟩:=zoh hrow';have HC:Hid _:=hcell;have HSO:Hid (ks.Pairwise blt):=hsort;have HME:Hid _:=hmem;have HLE:Hid _:=hlen;clear hcell hrow hsort hmem hlen hrow' hk1)
    |fail)
   go_loopw [15,16] (λv15 v16 wr=>∃i:Nat,i≤ks.length∧v16 = .int .i64 i∧Kp (λ_=>False) w1 wr∧wr.ownsRow w1.heap.size 105 2 v15 ((ks.take i).filterMap (zdb g)).length (z9 ((ks.take i).filterMap (zdb g))))
    (λ_ v16 _=>ks.length-(intOf v16).toNat)
   case atStart=>exact⟨0,Nat.zero_le _,rfl,Kp.refl _ _,World.ownsRow_nil _ _ _ _⟩
   case round=>
    obtain⟨i,hile,rfl,hkp,hown⟩:=hrel
    by_cases hlt:i<ks.length
    ·obtain⟨gk,rfl,hg1,hg2,hcell⟩:=HC.out (λh=>by rw[h]at hlt;simp at hlt)
     have hck:wr.cell? ⟨gk,i,none⟩=some (.string ks[i]):=(hkp.cell (a:=⟨gk,i,none⟩) hg2 (λh=>h)).trans (hcell i hlt)
     have htk:ks.take (i+1)=ks.take i++[ks[i]]:=List.take_succ_eq_append_getElem hlt
     have HT2:Hid _:=htk
     have hlt':(i:Int)<ks.length:=by omega
     have hi1:(i:Int)≤2000000:=by have h1:=HLE.out;have h2:=HL.out;rw[List.length_nil,Nat.add_zero]at h1;omega
     have hlenps:Hid (((ks.take i).filterMap (zdb g)).length≤2000000):=by
      show _≤_
      have h1:=List.length_filterMap_le (zdb g) (ks.take i)
      have h2:(ks.take i).length≤i:=by simp[List.length_take];omega
      omega
     have HROW:Hid (wr.ownsRow base e 4 (.slice al l.length cl) l.length (zo l)):=zi HW.out (HK1.out.trans hkp (λ_ _ h=>h)) (λ_ _ h=>h)
     have HKP:Hid (Kp (λ_=>False) w1 wr):=hkp
     generalize hkeq:ks[i]=k at *
     clear htk hkp hcell
     cases hs:(g k).2
     ·go_wp2_with (first
       |(go_at_call 152;refine z9m l _ t k wr HL.out HROW.out (λr w2 hr hk2=>?_);have HK2:Hid (Kp (λ_=>False) wr w2):=hk2;have hgk:=HG.out k r hr;rw[hs]at hgk;obtain⟨r1,r2⟩:=r;obtain⟨hgk1,hgk2⟩:=hgk;clear hk2 hr;dsimp only at hgk1 hgk2;subst hgk1)
       |go_in)
      go_roundw
      case rel=>
       refine⟨i+1,by omega,by go_num,HKP.out.trans HK2.out (λ_ _ h=>h),?_⟩
       have hp0:(ks.take (i+1)).filterMap (zdb g)=(ks.take i).filterMap (zdb g):=by rw[HT2.out,List.filterMap_append];simp[zdb,hs]
       rw[hp0]
       exact zi hown HK2.out (λ_ _ h=>h)
      case measure=>simp[intOf];omega
     ·go_wp2_with (first
       |(go_at_call 152;refine z9m l _ t k wr HL.out HROW.out (λr w2 hr hk2=>?_);have HK2:Hid (Kp (λ_=>False) wr w2):=hk2;have hgk:=HG.out k r hr;rw[hs]at hgk;obtain⟨r1,r2⟩:=r;obtain⟨hgk1,hgk2⟩:=hgk;have hown2:=zi hown hk2 (λ_ _ h=>h);have hck2:=(hk2.cell (a:=⟨gk,i,none⟩) (World.block_lt_of_cell? wr _ hck) (λh=>h)).trans hck;clear hk2 hr;dsimp only at hgk1 hgk2;subst hgk1;have hgk3:=hgk2 rfl;clear hgk2;subst hgk3)
       |(at_builtin;refine wpList_append_own_at _ rfl _ _ 43 rfl w1.heap.size 105 i0 (.agg #[.string ⟨#[]⟩,.string ⟨#[]⟩]) 2 32 Tryz.underlying43 HI.out.1 HI.out.2.1 HI.out.2.2.1 HI.out.2.2.2 rfl (by decide) _ _ _ rfl (hown2.alloc _) ⟨w2.heap.size,0,none⟩ 1 1 [.string k,.string (g k).1] rfl rfl (zqh _ _ _ _) (by simp[Value.oneCell']) (by have:=hlenps.out;unfold maxLen;omega) (by have:=hlenps.out;omega) (by have:=HKP.out.size;have:=HK2.out.size;simp;omega) ?_;intro v' w3 hown' hgrow hnil hloc)
       |go_in)
      have hb1:∀b,Value.ownBlock u15=some b→w1.heap.size≤b:=λb hb=>(hown2.lt b hb).1
      go_roundw
      case rel=>
       refine⟨i+1,by omega,by go_num,((HKP.out.trans HK2.out (λ_ _ h=>h)).trans ((Kp.alloc (λb=>Value.ownBlock u15=some b) w2 _).trans (Kp.of_grown (S:=λb=>Value.ownBlock u15=some b) hgrow (λ_ h=>h)) (λ_ _ h=>h)) (λb hb h=>by have:=hb1 b h;omega)),?_⟩
       have hp0:(ks.take (i+1)).filterMap (zdb g)=(ks.take i).filterMap (zdb g)++[(k,(g k).1)]:=by rw[HT2.out,List.filterMap_append];simp[zdb,hs]
       rw[hp0,List.length_append,← zth]
       exact hown'
      case measure=>simp[intOf];omega
    ·have hie:i=ks.length:=by omega
     subst hie
     rw[List.take_length]at hown
     go_wp2_with fail
     refine HR.out wr u15 ks (HK1.out.trans hkp (λ_ _ h=>h)) HSO.out (by simpa using HME.out) (by simpa using HLE.out) ⟨hown.1,hown.2.imp id (λ⟨g,cap,cur,e1,e2,e3⟩=>⟨g,cap,cur,e1,Nat.le_trans HK1.out.size e2,e3⟩)⟩
end
end
section
open Go.RowKit Go.Maps
section
variable {own own':Nat→Lab}{c:Nat}{w w':World}{p:Nat}{s:XS}{mo ph mv mm:Nat}{pt mw:Int→Nat}{sl:ByteArray→Value}
variable {R:Ending→World→Prop}
set_option maxRecDepth 20000 in
set_option maxHeartbeats 400000 in
theorem z3d (h:XR own c w p s mo ph mv mm pt mw sl)(t:Int)
  (h1:t<s.hor→R (.returned (.int .i64 6)) w)
  (h2:¬t<s.hor→s.now<t→R (.returned (.int .i64 7)) w)
  (h3:¬t<s.hor→¬s.now<t→R (.returned (.int .i64 0)) w) :
  Calls Tryz.prog 44 #[.pointer (some ⟨p,0,none⟩),.int .i64 t] w R:=by
 have c1:w.cell? ⟨p,1,none⟩=some (.int .i64 s.hor):=zg h.store 1
 have c2:w.cell? ⟨p,2,none⟩=some (.int .i64 s.now):=zg h.store 2
 clear h
 by_cases q1:t<s.hor
 ·have d1:decide (t<s.hor)=true:=by simpa using q1
  have HR:=ze (h1 q1)
  clear h1 h2 h3
  go_enter Tryz.func44,Tryz.ntmps44
  go_wp2
  exact HR.out
 ·have d1:decide (t<s.hor)=false:=by simpa using q1
  by_cases q2:s.now<t
  ·have d2:decide (s.now<t)=true:=by simpa using q2
   have HR:=ze (h2 q1 q2)
   clear h1 h2 h3
   go_enter Tryz.func44,Tryz.ntmps44
   go_wp2
   exact HR.out
  ·have d2:decide (s.now<t)=false:=by simpa using q2
   have HR:=ze (h3 q1 q2)
   clear h1 h2 h3
   go_enter Tryz.func44,Tryz.ntmps44
   go_wp2
   exact HR.out
set_option maxRecDepth 20000 in
set_option maxHeartbeats 400000 in
theorem zt2 (h:XR own c w p s mo ph mv mm pt mw sl)(t:Int)(key:ByteArray)(hkl:key.size≤maxLen)(hm:∀k,zxf s k)
  (h1:zu key=false→R (.returned (.tuple #[.string eb,.int .i64 1])) w)
  (h2:zu key=true→t<s.hor→R (.returned (.tuple #[.string eb,.int .i64 6])) w)
  (h3:zu key=true→¬t<s.hor→s.now<t→R (.returned (.tuple #[.string eb,.int .i64 7])) w)
  (h4:zu key=true→¬t<s.hor→¬s.now<t→(zvb s key t).2=false→∀w',Kp (λ_=>False) w w'→R (.returned (.tuple #[.string eb,.int .i64 5])) w')
  (h5:zu key=true→¬t<s.hor→¬s.now<t→(zvb s key t).2=true→∀w',Kp (λ_=>False) w w'→R (.returned (.tuple #[.string (zvb s key t).1,.int .i64 0])) w') :
  Calls Tryz.prog 56 #[.pointer (some ⟨p,0,none⟩),.int .i64 t,.string key] w R:=by
 have H:=ze h
 have HK:=ze hkl
 have HM:=ze hm
 have c3:w.cell? ⟨p,0,none⟩=some (.pointer (some ⟨ph,0,none⟩)):=zg h.store 0
 clear h hkl hm
 cases hb:zu key with
 |false=>
  have HR:=ze (h1 hb)
  clear h1 h2 h3 h4 h5
  go_enter Tryz.func56,Tryz.ntmps56
  go_wp2_with (first
   |(go_at_call 67;refine (z3c _ _ HK.out).mono ?_;rintro e w' ⟨rfl,rfl⟩)
   |go_in)
  exact HR.out
 |true=>
  have hk8:=z1d key hb
  have HK8:=ze hk8
  clear hk8
  by_cases q1:t<s.hor
  ·have HR:=ze (h2 hb q1)
   have Q1:=ze q1
   clear h1 h2 h3 h4 h5 q1
   go_enter Tryz.func56,Tryz.ntmps56
   go_wp2_with (first
    |(go_at_call 67;refine (z3c _ _ HK.out).mono ?_;rintro e w' ⟨rfl,rfl⟩)
    |(go_at_call 44;refine z3d H.out t (λ_=>?_) (λq _=>by have:=Q1.out;omega) (λq _=>by have:=Q1.out;omega))
    |go_in)
   exact HR.out
  ·by_cases q2:s.now<t
   ·have HR:=ze (h3 hb q1 q2)
    have Q1:=ze q1
    have Q2:=ze q2
    clear h1 h2 h3 h4 h5 q1 q2
    go_enter Tryz.func56,Tryz.ntmps56
    go_wp2_with (first
     |(go_at_call 67;refine (z3c _ _ HK.out).mono ?_;rintro e w' ⟨rfl,rfl⟩)
     |(go_at_call 44;refine z3d H.out t (λq=>by have:=Q1.out;omega) (λ_ _=>?_) (λ_ q=>by have:=Q2.out;omega))
     |go_in)
    exact HR.out
   ·have Q1:=ze q1
    have Q2:=ze q2
    cases hv:(zvb s key t).2 with
    |false=>
     have HR:=ze (h4 hb q1 q2 hv)
     clear h1 h2 h3 h4 h5 q1 q2
     go_enter Tryz.func56,Tryz.ntmps56
     go_wp2_with (first
      |(go_at_call 67;refine (z3c _ _ HK.out).mono ?_;rintro e w' ⟨rfl,rfl⟩)
      |(go_at_call 44;refine z3d H.out t (λq=>by have:=Q1.out;omega) (λ_ q=>by have:=Q2.out;omega) (λ_ _=>?_))
      |(go_at_call 91;refine z3j H.out key t HK8.out (HM.out key).len (HM.out key).up (HM.out key).ver (λw1 hk1=>?_);have HK1:=ze hk1;clear hk1)
      |go_in)
     exact HR.out w1 HK1.out
    |true=>
     have HR:=ze (h5 hb q1 q2 hv)
     clear h1 h2 h3 h4 h5 q1 q2
     go_enter Tryz.func56,Tryz.ntmps56
     go_wp2_with (first
      |(go_at_call 67;refine (z3c _ _ HK.out).mono ?_;rintro e w' ⟨rfl,rfl⟩)
      |(go_at_call 44;refine z3d H.out t (λq=>by have:=Q1.out;omega) (λ_ q=>by have:=Q2.out;omega) (λ_ _=>?_))
      |(go_at_call 91;refine z3j H.out key t HK8.out (HM.out key).len (HM.out key).up (HM.out key).ver (λw1 hk1=>?_);have HK1:=ze hk1;clear hk1)
      |go_in)
     exact HR.out w1 HK1.out
set_option maxRecDepth 20000 in
set_option maxHeartbeats 400000 in
theorem zp3 (t:Int)(key:ByteArray)
  (hR:Calls Tryz.prog 56 #[.pointer (some ⟨p,0,none⟩),.int .i64 t,.string key] w λe w'=>∃(a:ByteArray) (b:Int),e = .returned (.tuple #[.string a,.int .i64 b])∧R (.returned (.tuple #[.string a,.int .i64 b])) w') :
  Calls Tryz.prog 29 #[.pointer (some ⟨p,0,none⟩),.int .i64 t,.string key] w R:=by
 have HR:=ze hR
 clear hR
 go_enter Tryz.func29,Tryz.ntmps29
 go_wp2_with (first
  |(go_at_call 56;refine Calls.mono HR.out ?_;rintro e w1 ⟨a,b,rfl,hr⟩;have HR1:=ze hr;clear hr)
  |go_in)
 exact HR1.out
set_option maxRecDepth 20000 in
set_option maxHeartbeats 400000 in
theorem z00 (h:XR own c w p s mo ph mv mm pt mw sl)(hR:R (.returned (.int .i64 s.nv)) w) :
  Calls Tryz.prog 112 #[.pointer (some ⟨p,0,none⟩)] w R:=by
 have c3:w.cell? ⟨p,0,none⟩=some (.pointer (some ⟨ph,0,none⟩)):=zg h.store 0
 have d0:w.cell? ⟨ph,0,none⟩=some (.map (some mv)):=zg h.hist 0
 have hv:=h.vers
 have HR:=ze hR
 have hS:Hid (Calls Tryz.prog 163 #[.pointer (some ⟨ph,0,none⟩)] w (λe w'=>e = .returned (.int .i64 s.nv)∧w'=w)):=by
  show Calls _ _ _ _ _
  clear h hR HR
  go_enter Tryz.func163,Tryz.ntmps163
  go_wp2_with (first
   |(at_len;refine zuf _ rfl _ 206 rfl 225 138 Tryz.underlying206 mv s.nv _ rfl hv ?_)
   |go_in)
  go_ret
  exact⟨rfl,rfl⟩
 clear h hR hv
 go_enter Tryz.func112,Tryz.ntmps112
 go_wp2_with (first
  |(go_at_call 163;refine Calls.mono hS.out ?_;rintro e w1 ⟨rfl,rfl⟩)
  |go_in)
 exact HR.out
end
end
end Go.Proofs.YthbdpfccfcceiaaGreatDoor
