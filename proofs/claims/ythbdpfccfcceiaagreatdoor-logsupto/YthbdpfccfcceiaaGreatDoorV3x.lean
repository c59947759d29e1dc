/-
  Of the proof of logsUpto_card.
-/
import Derived.Test.YthbdpfccfcceiaaGreatDoorR18x
namespace Go.Proofs.YthbdpfccfcceiaaGreatDoor
section
open Go.RowKit Go.Maps
def zho (s:XS)(t:Int):Prop:=(∃n x,s.txs n=some x∧x.sees<t)∨∃n b,s.bk.un n=some b∧b.needs<t
theorem zyq {txs:Int→Option XT}{pt:Int→Nat}{key v:Value}(h:zpc (λn=>(txs n).map λ_=>Value.pointer (some ⟨pt n,0,none⟩)) key=some v) :
  ∃(n:Int) (q:Nat),key=(λn:Int=>Value.int .i64 n) n∧v=(λq:Nat=>Value.pointer (some ⟨q,0,none⟩)) q:=by
 unfold zpc at h
 split at h
 ·rename_i n
  dsimp only at h
  cases e:txs n with
  |none=>rw[e]at h;cases h
  |some x=>rw[e]at h;cases h;exact⟨n,pt n,rfl,rfl⟩
 ·cases h
theorem z0q {un:Int→Option XB}{key v:Value}(h:zpc (λn=>(un n).map λb=>Value.pointer (some ⟨b.pb,0,none⟩)) key=some v) :
  ∃(n:Int) (q:Nat),key=(λn:Int=>Value.int .i64 n) n∧v=(λq:Nat=>Value.pointer (some ⟨q,0,none⟩)) q:=by
 unfold zpc at h
 split at h
 ·rename_i n
  dsimp only at h
  cases e:un n with
  |none=>rw[e]at h;cases h
  |some x=>rw[e]at h;cases h;exact⟨n,x.pb,rfl,rfl⟩
 ·cases h
section
variable {own own':Nat→Lab}{c:Nat}{w w':World}{p:Nat}{s:XS}{mo ph mv mm:Nat}{pt mw:Int→Nat}{sl:ByteArray→Value}
variable {R:Ending→World→Prop}
set_option maxRecDepth 20000 in
set_option maxHeartbeats 1000000 in
theorem z5m (h:XR own c w p s mo ph mv mm pt mw sl)(t:Int)
  (h0:¬zho s t→∀w',Kp (λ_=>False) w w'→R (.returned (.bool false)) w')
  (h1:zho s t→∀w',Kp (λ_=>False) w w'→R (.returned (.bool true)) w') :
  Calls Tryz.prog 45 #[.pointer (some ⟨p,0,none⟩),.int .i64 t] w R:=by
 have c2:w.cell? ⟨p,7,none⟩=some (.map (some mo)):=zg h.store 7
 have hw:=h.opn
 have H:=ze h
 have H0:=ze h0
 have H1:=ze h1
 clear h0 h1 h
 go_enter Tryz.func45,Tryz.ntmps45
 go_wp2_with (first
  |(at_range;refine z7g _ rfl _ 99 rfl 3 129 zld Tryz.underlying99 mo s.nopen _ rfl hw ?_;intro w0 hrg0 hg0 hs0)
  |go_in)
 go_frame
 go_loopw [6] (λ_ wr=>∃(left:Value→Bool) (cnt:Nat),z0d wr Tryz.prog 3 mo w.heap.size s.nopen (zpc λn=>(s.txs n).map λ_=>Value.pointer (some ⟨pt n,0,none⟩)) left cnt∧Kp (λ_=>False) w wr∧∀n x,s.txs n=some x→left (.int .i64 n)=false→t≤x.sees)
  (λ_ wr=>wr.rangeLeft mo w.heap.size)
 case atStart=>exact⟨_,_,hrg0,Kp.of_grown hg0 (λ_ h=>by cases h),λn x hx hl=>by rw[zrc,hx]at hl;cases hl⟩
 case round=>
  obtain⟨left,cnt,hrg,hkp,hdone⟩:=hrel
  have HD:=ze hdone
  clear hdone
  go_wp2_with (first
   |(at_next;refine zrh _ rfl _ rfl 3 zld (λn:Int=>Value.int .i64 n) (λq:Nat=>Value.pointer (some ⟨q,0,none⟩)) mo w.heap.size s.nopen _ left cnt (λkey v hv=>?inv) rfl hrg ?_ ?_)
   |go_in)
  case inv=>
   first|exact zyq hv | (obtain⟨n,q,e1,e2⟩:=zyq hv;exact⟨⟨n,e1⟩,⟨q,e2⟩⟩)
  ·intro _ hl0
   obtain⟨wo,rfl⟩:∃wo,wo=wr:=⟨wr,rfl⟩
   have HT0:Hid (∀n x,s.txs n=some x→t≤x.sees):=λn x hx=>HD.out n x hx (hl0 _)
   have HKP:=ze hkp
   have hx1:=H.out.kept hkp
   have d5:wo.cell? ⟨p,9,none⟩=some (.map (some s.bk.mu)):=zg hx1.store 9
   have hu:=hx1.bks.und
   have HX1:=ze hx1
   clear hl0 HD hx1 hrg
   go_wp2_with (first
    |(at_range;refine z7g _ rfl _ 100 rfl 3 148 zld Tryz.underlying100 s.bk.mu s.bk.nb _ rfl hu ?_;intro w5 hrg5 hg5 hs5)
    |go_in)
   go_frame
   go_loopw [8] (λ_ wq=>∃(left:Value→Bool) (cnt:Nat),z0d wq Tryz.prog 3 s.bk.mu wo.heap.size s.bk.nb (zpc λn=>(s.bk.un n).map λb=>Value.pointer (some ⟨b.pb,0,none⟩)) left cnt∧Kp (λ_=>False) wo wq∧∀n b,s.bk.un n=some b→left (.int .i64 n)=false→t≤b.needs)
    (λ_ wq=>wq.rangeLeft s.bk.mu wo.heap.size)
   case atStart=>exact⟨_,_,hrg5,Kp.of_grown hg5 (λ_ h=>by cases h),λn x hx hl=>by rw[zrc,hx]at hl;cases hl⟩
   case round=>
    obtain⟨left,cnt,hrg,hkp5,hdone⟩:=hrel
    have HD:=ze hdone
    clear hdone
    go_wp2_with (first
     |(at_next;refine zrh _ rfl _ rfl 3 zld (λn:Int=>Value.int .i64 n) (λq:Nat=>Value.pointer (some ⟨q,0,none⟩)) s.bk.mu wo.heap.size s.bk.nb _ left cnt (λkey v hv=>?inv) rfl hrg ?_ ?_)
     |go_in)
    case inv=>
     first|exact z0q hv | (obtain⟨n,q,e1,e2⟩:=z0q hv;exact⟨⟨n,e1⟩,⟨q,e2⟩⟩)
    ·intro _ hl0
     have HL0:=ze hl0
     clear hl0
     go_wp2
     refine H0.out (λhp=>?_) _ (HKP.out.trans hkp5 (λ_ _ h=>h))
     rcases hp with ⟨n,x,hx,hlt⟩|⟨n,b,hb,hlt⟩
     ·have:=HT0.out n x hx;omega
     ·have:=HD.out n b hb (HL0.out _);omega
    ·intro n q w1 cnt1 hlk hfk left' hrg1 hl1 hl2 hlt hg1 hs1 hen
     obtain⟨x,hx,hq⟩:∃x,s.bk.un n=some x∧q=x.pb:=by
      rw[zrc]at hfk
      cases e:s.bk.un n with
      |none=>rw[e]at hfk;cases hfk
      |some x=>rw[e]at hfk;simp at hfk;exact⟨x,rfl,hfk.symm⟩
     subst hq
     have hkp1:Kp (λ_=>False) wo w1:=hkp5.trans (Kp.of_grown (S:=λb=>b=wo.heap.size) hg1 (λb hb=>by cases hb;rfl)) (λb hb e=>by omega)
     have d1:w1.cell? ⟨x.pb,0,none⟩=some (.int .i64 x.needs):=zg ((HX1.out.kept hkp1).bks.blk n x hx) 0
     clear hfk hlk
     by_cases hch:x.needs<t
     ·have hd:decide (x.needs<t)=true:=by simpa using hch
      have HC:=ze hch
      clear hch
      go_wp2
      exact H1.out (Or.inr ⟨n,x,hx,HC.out⟩) _ (HKP.out.trans hkp1 (λ_ _ h=>h))
     ·have hd:decide (x.needs<t)=false:=by simpa using hch
      have HC:=ze hch
      clear hch
      go_wp2
      go_roundw
      case rel=>
       refine⟨left',cnt1,hrg1,hkp1,λn' x' hx' hl'=>?_⟩
       by_cases en:n'=n
       ·subst en;rw[hx]at hx';cases hx';have:=HC.out;omega
       ·exact HD.out n' x' hx' (by rw[← hl2 _ (λe=>en (by injection e))];exact hl')
      case measure=>rw[hrg1.left_eq,hrg.left_eq];exact hlt
  ·intro n q w1 cnt1 hlk hfk left' hrg1 hl1 hl2 hlt hg1 hs1 hen
   obtain⟨x,hx,hq⟩:∃x,s.txs n=some x∧q=pt n:=by
    rw[zrc]at hfk
    cases e:s.txs n with
    |none=>rw[e]at hfk;cases hfk
    |some x=>rw[e]at hfk;simp at hfk;exact⟨x,rfl,hfk.symm⟩
   subst hq
   have hkp1:Kp (λ_=>False) w w1:=hkp.trans (Kp.of_grown (S:=λb=>b=w.heap.size) hg1 (λb hb=>by cases hb;rfl)) (λb hb e=>by omega)
   have d1:w1.cell? ⟨pt n,0,none⟩=some (.int .i64 x.sees):=zg ((H.out.kept hkp1).tx n x hx) 0
   clear hfk hlk
   by_cases hch:x.sees<t
   ·have hd:decide (x.sees<t)=true:=by simpa using hch
    have HC:=ze hch
    clear hch
    go_wp2
    exact H1.out (Or.inl ⟨n,x,hx,HC.out⟩) _ hkp1
   ·have hd:decide (x.sees<t)=false:=by simpa using hch
    have HC:=ze hch
    clear hch
    go_wp2
    go_roundw
    case rel=>
     refine⟨left',cnt1,hrg1,hkp1,λn' x' hx' hl'=>?_⟩
     by_cases en:n'=n
     ·subst en;rw[hx]at hx';cases hx';have:=HC.out;omega
     ·exact HD.out n' x' hx' (by rw[← hl2 _ (λe=>en (by injection e))];exact hl')
    case measure=>rw[hrg1.left_eq,hrg.left_eq];exact hlt
theorem zhy (h:XR own c w p s mo ph mv mm pt mw sl)(hT:Tab w)(hN:zid own c)(t:Int)(ht:0≤t∧t≤100000)(hl:s.log.lg.length≤4999)(hbs:∀b∈s.log.lg,b.length≤400)
  (hR:∀w' own' l',Kp (λb=>(own b).c=c) w w'→(∀b,b<w.heap.size→own' b=own b)→l'.lg=s.log.lg++[zxb t.toNat]→l'.sy=s.log.sy→
   XR own' c w' p { s with hor:=t,log:=l' } mo ph mv mm pt mw sl→R (.returned (.tuple #[])) w') :
  Calls Tryz.prog 46 #[.pointer (some ⟨p,0,none⟩),.agg #[.int .u8 72,.int .i64 t,.slice none 0 0]] w R:=by
 have e:(t.toNat:Int)=t:=by omega
 have:=zbs (R:=R) h hT hN t.toNat (by omega) hl hbs (λw' own' l' h1 h2 h3 h4 h5=>hR w' own' l' h1 h2 h3 h4 (by rw[e]at h5;exact h5))
 rw[e]at this
 exact this
set_option maxRecDepth 20000 in
set_option maxHeartbeats 1000000 in
theorem zz0 (h:XR own c w p s mo ph mv mm pt mw sl)(hT:Tab w)(hN:zid own c)(t:Int)(hnow:0≤s.hor∧s.now≤2000)(hl:s.log.lg.length≤4999)(hbs:∀b∈s.log.lg,b.length≤400)
  (h1:t<s.hor∨s.now<t→R (.returned (.int .i64 1)) w)
  (h2:¬t<s.hor→¬s.now<t→zho s t→∀w',Kp (λ_=>False) w w'→R (.returned (.int .i64 8)) w')
  (h3:¬t<s.hor→¬s.now<t→¬zho s t→∀w' own' l',Kp (λb=>(own b).c=c) w w'→(∀b,b<w.heap.size→own' b=own b)→(l'.lg=if s.hor<t then s.log.lg++[zxb t.toNat] else s.log.lg)→l'.sy=s.log.sy→XR own' c w' p { s with hor:=t,log:=l' } mo ph mv mm pt mw sl→R (.returned (.int .i64 0)) w') :
  Calls Tryz.prog 21 #[.pointer (some ⟨p,0,none⟩),.int .i64 t] w R:=by
 have H:=ze h
 clear h
 by_cases q1:t<s.hor
 ·have HR:=ze (h1 (Or.inl q1))
  have Q1:=ze q1
  clear h1 h2 h3 q1
  go_enter Tryz.func21,Tryz.ntmps21
  go_wp2_with (first
   |(go_at_call 44;refine z3d H.out t (λ_=>?_) (λq _=>by have:=Q1.out;omega) (λq _=>by have:=Q1.out;omega))
   |go_in)
  exact HR.out
 ·by_cases q2:s.now<t
  ·have HR:=ze (h1 (Or.inr q2))
   have Q1:=ze q1
   have Q2:=ze q2
   clear h1 h2 h3 q1 q2
   go_enter Tryz.func21,Tryz.ntmps21
   go_wp2_with (first
    |(go_at_call 44;refine z3d H.out t (λq=>by have:=Q1.out;omega) (λ_ _=>?_) (λ_ q=>by have:=Q2.out;omega))
    |go_in)
   exact HR.out
  ·have Q1:=ze q1
   have Q2:=ze q2
   by_cases q3:zho s t
   ·have HR:=ze (h2 q1 q2 q3)
    have Q3:=ze q3
    clear h1 h2 h3 q1 q2 q3
    go_enter Tryz.func21,Tryz.ntmps21
    go_wp2_with (first
     |(go_at_call 44;refine z3d H.out t (λq=>by have:=Q1.out;omega) (λ_ q=>by have:=Q2.out;omega) (λ_ _=>?_))
     |(go_at_call 45;refine z5m H.out t (λq=>absurd Q3.out q) (λ_ w1 hk1=>?_);have HK1:=ze hk1;clear hk1)
     |go_in)
    exact HR.out w1 HK1.out
   ·have HR:=ze (h3 q1 q2 q3)
    have Q3:=ze q3
    have HT:=ze hT
    have HN:=ze hN
    have HNOW:=ze hnow
    have HL:=ze hl
    have HBS:=ze hbs
    by_cases q4:s.hor<t
    ·have Q4:=ze q4
     have hq4:s.hor<t:=q4
     clear h1 h2 h3 q1 q2 q3 hT hN hnow hl hbs q4
     go_enter Tryz.func21,Tryz.ntmps21
     go_wp2_with (first
      |(go_at_call 44;refine z3d H.out t (λq=>by have:=Q1.out;omega) (λ_ q=>by have:=Q2.out;omega) (λ_ _=>?_))
      |(go_at_call 45;refine z5m H.out t (λ_ w1 hk1=>?_) (λq=>absurd q Q3.out);have HK1:=ze hk1;have c1:w1.cell? ⟨p,1,none⟩=some (.int .i64 s.hor):=zg (H.out.kept hk1).store 1;clear hk1)
      |(go_at_call 46;refine zhy (H.out.kept HK1.out) (HT.out.kept HK1.out) HN.out t (by have:=HNOW.out;have:=Q1.out;have:=Q2.out;omega) HL.out HBS.out ?_;intro w2 own2 l2 hk2 ho2 hl2 hs2 hx2;have HK2:=ze hk2;have HO2:=ze ho2;have HL2:=ze hl2;have HS2:=ze hs2;have HX2:=ze hx2;clear hk2 ho2 hl2 hs2 hx2)
      |go_in)
     exact HR.out w2 own2 l2 ((HK1.out.own_of (λ_ h=>h.elim)).trans HK2.out (λ_ _ h=>h)) (λb hb=>HO2.out b (Nat.lt_of_lt_of_le hb HK1.out.size)) (by rw[if_pos Q4.out];exact HL2.out) HS2.out HX2.out
    ·have Q4:=ze q4
     have hq4:¬s.hor<t:=q4
     clear h1 h2 h3 q1 q2 q3 hT hN hnow hl hbs q4
     go_enter Tryz.func21,Tryz.ntmps21
     go_wp2_with (first
      |(go_at_call 44;refine z3d H.out t (λq=>by have:=Q1.out;omega) (λ_ q=>by have:=Q2.out;omega) (λ_ _=>?_))
      |(go_at_call 45;refine z5m H.out t (λ_ w1 hk1=>?_) (λq=>absurd q Q3.out);have HK1:=ze hk1;have c1:w1.cell? ⟨p,1,none⟩=some (.int .i64 s.hor):=zg (H.out.kept hk1).store 1;clear hk1)
      |go_in)
     have e:t=s.hor:=by have:=Q1.out;have:=Q4.out;omega
     refine HR.out w1 own s.log (HK1.out.own_of (λ_ h=>h.elim)) (λ_ _=>rfl) (by rw[if_neg (by have:=Q4.out;omega)]) rfl ?_
     rw[e]
     exact H.out.kept HK1.out
end
end
section
open Go.RowKit Go.Maps
theorem z73 {w w':World}(h:w'=w∨w'=w.drew∨∃q,w'=w.drewN q):Kp (λ_=>False) w w':=by
 rcases h with rfl|rfl|⟨q,rfl⟩
 ·exact Kp.refl _ _
 ·exact Kp.drew _ _
 ·exact Kp.drewN _ _ _
theorem zdt (v:ByteArray)(g:Bool)(w:World):(Instr.field 138 (.agg #[.string v,.bool g]) 1).run Tryz.prog w = .ok (.bool g) w:=by kernel_rfl
section
variable {R:Ending→World→Prop}
set_option maxRecDepth 20000 in
set_option maxHeartbeats 400000 in
theorem zgt (ph mm n:Nat)(f:Value→Option Value)(key:ByteArray)(t:Int)(w:World)(c1:w.cell? ⟨ph,1,none⟩=some (.map (some mm)))(hown:fmap w Tryz.prog 9 mm n f)
  (hlen:key.size≤8) (a:Option Addr) (cap:Nat) (hf:(f (.string key)).getD (.slice none 0 0) = .slice a 0 cap)
  (hR:∀w',Kp (λ_=>False) w w'→R (.returned (.int .i64 0)) w') :
  Calls Tryz.prog 81 #[.pointer (some ⟨ph,0,none⟩),.string key,.int .i64 t] w R:=by
 have hkey:Hid _:=WideMaps.keyOf_string_mk Tryz.underlying9 (show key.size≤maxLen by unfold maxLen;omega)
 have HR:=ze hR
 clear hlen hR
 go_enter Tryz.func81,Tryz.ntmps81
 go_wp2_with (first
  |(at_lookup;refine z7d _ rfl _ _ 207 rfl 9 26 zdd Tryz.underlying207 (z0h _) mm n f rfl hown (.string key) _ rfl hkey.out _ hf ?_)
  |(go_at_call 134;refine z2n _ _ _ _ ?_)
  |go_in)
 go_quiet (fail)
 go_wp2
 exact HR.out _ (Kp.drewN (λ_=>False) _ _)
set_option maxRecDepth 20000 in
set_option maxHeartbeats 400000 in
theorem zpv (ph mm n:Nat)(f:Value→Option Value)(key:ByteArray)(t:Int)(w:World)(c1:w.cell? ⟨ph,1,none⟩=some (.map (some mm)))(hown:fmap w Tryz.prog 9 mm n f)
  (hlen:key.size≤8) (g cap:Nat) (zs:List Int) (hf:(f (.string key)).getD (.slice none 0 0) = .slice (some ⟨g,0,none⟩) zs.length cap) (hl:zs.length<1000000)
  (hc:∀j,j<zs.length→w.cell? ⟨g,j,none⟩=some (.int .i64 (zs.getD j 0))) (hs:zs.Pairwise (·<·)) (h0:zs.countP (λm=>decide (m≤t))=0)
  (hR:∀w',Kp (λ_=>False) w w'→R (.returned (.int .i64 0)) w') :
  Calls Tryz.prog 81 #[.pointer (some ⟨ph,0,none⟩),.string key,.int .i64 t] w R:=by
 have hkey:Hid _:=WideMaps.keyOf_string_mk Tryz.underlying9 (show key.size≤maxLen by unfold maxLen;omega)
 have HR:=ze hR
 have hB:=ze (λ(R:Ending→World→Prop)=>zqk (R:=R) g cap zs t w 0 hl hc hs h0)
 clear hlen hR hc hs h0
 go_enter Tryz.func81,Tryz.ntmps81
 go_wp2_with (first
  |(at_lookup;refine z7d _ rfl _ _ 207 rfl 9 26 zdd Tryz.underlying207 (z0h _) mm n f rfl hown (.string key) _ rfl hkey.out _ hf ?_)
  |(go_at_call 134;refine hB.out _ (λq=>?_))
  |go_in)
 go_quiet (fail)
 go_wp2
 exact HR.out _ ((Kp.drewN _ w q).trans (Kp.drewN (λ_=>False) _ _) (λ_ _ h=>h))
set_option maxRecDepth 20000 in
set_option maxHeartbeats 1000000 in
theorem zqv (ph mv mm n nv:Nat)(f fv:Value→Option Value)(key:ByteArray)(t:Int)(w:World)(c0:w.cell? ⟨ph,0,none⟩=some (.map (some mv)))(c1:w.cell? ⟨ph,1,none⟩=some (.map (some mm)))
  (hown:fmap w Tryz.prog 9 mm n f) (hver:fmap w Tryz.prog 225 mv nv fv)
  (hlen:key.size≤8) (g cap:Nat) (zs:List Int) (hf:(f (.string key)).getD (.slice none 0 0) = .slice (some ⟨g,0,none⟩) zs.length cap) (hl:zs.length<1000000)
  (hc:∀j,j<zs.length→w.cell? ⟨g,j,none⟩=some (.int .i64 (zs.getD j 0))) (hs:zs.Pairwise (·<·))
  (idx:Nat) (hidx:zs.countP (λm=>decide (m≤t))=idx+1)
  (m:Int) (hm:zs.getD idx 0=m) (hwm:(Lit.int .i64 m).wf=true) (val:ByteArray) (gone:Bool) (hv:fv (.agg #[.string key,.int .i64 m])=some (.agg #[.string val,.bool gone]))
  (h1:gone=true→∀w',Kp (λ_=>False) w w'→R (.returned (.int .i64 (idx+1))) w')
  (h2:gone=false→∀w',Kp (λ_=>False) w w'→R (.returned (.int .i64 idx)) w') :
  Calls Tryz.prog 81 #[.pointer (some ⟨ph,0,none⟩),.string key,.int .i64 t] w R:=by
 have hkey:Hid _:=WideMaps.keyOf_string_mk Tryz.underlying9 (show key.size≤maxLen by unfold maxLen;omega)
 have H1:=ze h1
 have H2:=ze h2
 have hB:=ze (λ(R:Ending→World→Prop)=>zqk (R:=R) g cap zs t w (idx+1) hl hc hs hidx)
 have hlt:idx<zs.length:=by have:=List.countP_le_length (p:=λm=>decide (m≤t)) (l:=zs);omega
 have hcm:=hc idx hlt
 rw[hm]at hcm
 obtain⟨kl,hkl⟩:=zek key m (by unfold maxLen;omega) hwm
 have hlk:Hid (∀W:World,W.heap[mv]?=w.heap[mv]?→(Instr.lookup 206 (.map (some mv)) (.agg #[.string key,.int .i64 m]) false).run Tryz.prog W = .ok (.agg #[.string val,.bool gone]) W):=λW hW=>by
  have:=(hver.of_block hW).look false z6k Tryz.underlying206 (zil W) hkl
  rw[hv]at this
  simpa using this
 have hmv:=hver.lt
 have hlt':(idx:Int)<zs.length:=by omega
 have hi0:(idx:Int)≤1000000:=by omega
 have hwrp:IntKind.i64.wrap (idx:Int)=(idx:Int):=IntWalk.i64_in _ (by omega)
 clear hlen h1 h2 hc hs hidx hm hwm hv hkl hver hlt hl
 generalize zs.length=L at hf hB hlt'
 have hne0:((idx:Int)+1 == 0)=false:=by simp;omega
 cases gone
 all_goals
  go_enter Tryz.func81,Tryz.ntmps81
  go_wp2_with (first
   |(at_lookup;refine z7d _ rfl _ _ 207 rfl 9 26 zdd Tryz.underlying207 (z0h _) mm n f rfl hown (.string key) _ rfl hkey.out _ hf ?_)
   |(go_at_call 134;refine hB.out _ (λq=>?_);rw[show ((idx+1:Nat):Int)=(idx:Int)+1 from rfl])
   |go_in)
  generalize hW:w.drewN q=W
  have a0:W.cell? ⟨ph,0,none⟩=some (.map (some mv)):=by rw[← hW];exact c0
  have a1:W.cell? ⟨g,idx,none⟩=some (.int .i64 m):=by rw[← hW];exact hcm
  have l0:=λq=>hlk.out (W.drewN q) (by rw[← hW];rfl)
  have kk:Kp (λ_=>False) w W:=by rw[← hW];exact Kp.drewN _ _ _
  have hfld:=zdt
  clear hlk hW hown c0 c1 hcm
  go_quiet (fail)
  clear l0 a0 a1
  go_wp2
 ·exact H2.out trivial _ (kk.trans (Kp.drewN (λ_=>False) _ _) (λ_ _ h=>h))
 ·exact H1.out trivial _ (kk.trans (Kp.drewN (λ_=>False) _ _) (λ_ _ h=>h))
end
def zv (s:XS)(k:ByteArray)(t:Int):Nat:=
 match ((s.mom k).filter (λm=>decide (m≤t))).getLast? with
 |none=>0
 |some m=>if ((s.ver k m).getD (eb,false)).2=true then (s.mom k).countP (λm=>decide (m≤t)) else (s.mom k).countP (λm=>decide (m≤t))-1
section
variable {own own':Nat→Lab}{c:Nat}{w w':World}{p:Nat}{s:XS}{mo ph mv mm:Nat}{pt mw:Int→Nat}{sl:ByteArray→Value}
variable {R:Ending→World→Prop}
theorem zxl (h:XR own c w p s mo ph mv mm pt mw sl)(key:ByteArray)(t:Int)(hlen:key.size≤8)(hm:zxf s key)
  (hR:∀w',Kp (λ_=>False) w w'→R (.returned (.int .i64 (zv s key t))) w') :
  Calls Tryz.prog 81 #[.pointer (some ⟨ph,0,none⟩),.string key,.int .i64 t] w R:=by
 have hl:=hm.len
 have hs:=hm.up
 have hw:=hm.ver
 have c0:w.cell? ⟨ph,0,none⟩=some (.map (some mv)):=zg h.hist 0
 have c1:w.cell? ⟨ph,1,none⟩=some (.map (some mm)):=zg h.hist 1
 by_cases hm:s.mom key=[]
 ·have hv:zv s key t=0:=by simp[zv,hm]
  rw[hv]at hR
  exact zgt ph mm s.nm _ key t w c1 h.moms hlen none 0 (by rw[zcc,if_pos hm];rfl) hR
 ·obtain⟨g,cap,hv,hc⟩:=zoe (h.row key hm) hm
  have hf:((z3b λk=>if s.mom k=[] then none else some (sl k)) (.string key)).getD (.slice none 0 0) = .slice (some ⟨g,0,none⟩) (s.mom key).length cap:=by rw[zcc,if_neg hm,hv];rfl
  have hft:=zng (s.mom key) t hs
  by_cases h0:(s.mom key).countP (λm=>decide (m≤t))=0
  ·have hval:zv s key t=0:=by simp[zv,hft,h0]
   rw[hval]at hR
   exact zpv ph mm s.nm _ key t w c1 h.moms hlen g cap (s.mom key) hf hl hc hs h0 hR
  ·obtain⟨idx,hidx⟩:∃idx,(s.mom key).countP (λm=>decide (m≤t))=idx+1:=⟨_,(Nat.succ_pred_eq_of_ne_zero h0).symm⟩
   have hle:idx+1≤(s.mom key).length:=by rw[← hidx];exact List.countP_le_length
   have hmem:(s.mom key).getD idx 0∈s.mom key:=by
    simp only[List.getD,List.getElem?_eq_getElem (show idx<(s.mom key).length by omega),Option.getD_some]
    exact List.getElem_mem _
   obtain⟨hwf,hsome⟩:=hw _ hmem
   obtain⟨v,hv'⟩:=Option.isSome_iff_exists.1 hsome
   have hlast:((s.mom key).filter (λm=>decide (m≤t))).getLast?=some ((s.mom key).getD idx 0):=by
    rw[hft,hidx,List.getLast?_eq_getElem?,List.length_take,Nat.min_eq_left hle,Nat.add_sub_cancel,List.getElem?_take]
    simp[List.getD,List.getElem?_eq_getElem (show idx<(s.mom key).length by omega)]
   have hval:zv s key t=if v.2=true then idx+1 else idx:=by simp only[zv,hlast,hv',Option.getD_some,hidx,Nat.add_sub_cancel]
   rw[hval]at hR
   refine zqv ph mv mm s.nm s.nv _ _ key t w c0 c1 h.moms h.vers hlen g cap (s.mom key) hf hl hc hs idx hidx _ rfl hwf v.1 v.2 (by rw[zol,hv'];rfl) (λe w' k=>?_) (λe w' k=>?_)
   ·have:=hR w' k
    rw[if_pos e]at this
    exact this
   ·have:=hR w' k
    rw[if_neg (by rw[e];simp)]at this
    exact this
end
end
section
open Go.RowKit Go.Maps Go.Sort
section
variable {own own':Nat→Lab}{c:Nat}{w w':World}{p:Nat}{s:XS}{mo ph mv mm:Nat}{pt mw:Int→Nat}{sl:ByteArray→Value}
variable {R:Ending→World→Prop}
theorem zpk {s:XS}{k:ByteArray}{t:Int}(h:s.mom k=[]):zv s k t=0:=by simp[zv,h]
set_option maxRecDepth 20000 in
set_option maxHeartbeats 1000000 in
theorem zpt (h:XR own c w p s mo ph mv mm pt mw sl)(t:Int)(hnm:s.nm<100000)(hm:∀k,zxf s k)(hkey:∀k,s.mom k≠[]→k.size≤8)
  (hR:∀w' v (ks:List ByteArray),Kp (λ_=>False) w w'→w'.ownsRow (w.heap.size+1) 9 1 v ks.length (ks.map Value.string)→(∀k,k∈ks↔0<zv s k t)→ks.length≤s.nm→ks.Pairwise blt→R (.returned v) w') :
  Calls Tryz.prog 80 #[.pointer (some ⟨ph,0,none⟩),.int .i64 t] w R:=by
 have c1:w.cell? ⟨ph,1,none⟩=some (.map (some mm)):=zg h.hist 1
 have hmoms:=h.moms
 have H:=ze h
 have HR:=ze hR
 have HN:=ze hnm
 have HMO:=ze hm
 have HW:=ze hkey
 clear hR h hnm hm hkey
 obtain⟨i0,hi,hz0,hz1,hz2⟩:=info_parts zrl
 go_enter Tryz.func80,Tryz.ntmps80
 go_wp2_with (first
  |(at_range;refine z7g _ rfl _ 207 rfl 9 26 zdd Tryz.underlying207 mm s.nm _ rfl hmoms ?_;intro w0 hrg0 hg0 hs0)
  |go_in)
 go_frame
 go_loopw [5,6] (λv7 _ wr=>∃(left:Value→Bool) (cnt:Nat) (ks:List ByteArray),z0d wr Tryz.prog 9 mm w.heap.size s.nm (z3b λk=>if s.mom k=[] then none else some (sl k)) left cnt∧Kp (λ_=>False) w wr∧wr.ownsRow (w.heap.size+1) 9 1 v7 ks.length (ks.map Value.string)∧
   (∀k,k∈ks↔s.mom k≠[]∧left (.string k)=false∧0<zv s k t)∧ks.length+cnt≤s.nm∧w.heap.size+1≤wr.heap.size∧ks.Nodup)
  (λ_ _ wr=>wr.rangeLeft mm w.heap.size)
 case atStart=>
  refine⟨_,_,[],hrg0,Kp.of_grown hg0 (λ_ h=>by cases h),World.ownsRow_nil _ _ _ _,λk=>?_,by simp,by omega,List.nodup_nil⟩
  constructor
  ·intro h;cases h
  ·rintro⟨h1,h2,_⟩
   rw[zcc,if_neg h1]at h2;cases h2
 case round=>
  obtain⟨left,cnt,ks,hrg,hkp,hrow,hmem,hcnt,hsz,hnd⟩:=hrel
  have HM:=ze hmem
  have HC:=ze hcnt
  have HZ:=ze hsz
  have HND:=ze hnd
  clear hmem hcnt hsz hnd
  go_wp2_with (first
   |(at_next;refine zrh _ rfl _ rfl 9 zdd Value.string (λv:Value=>v) mm w.heap.size s.nm _ left cnt (λkey v hv=>?inv) rfl hrg ?_ ?_)
   |go_in)
  case inv=>exact zxq hv
  ·intro _ hl0
   go_wp2_with (first
    |(go_at_call 133;refine (z0m hrow (by have:=HC.out;have:=HN.out;omega)).mono ?_;rintro e w4 ⟨rfl,ks',hperm,hso,hrow',hk4⟩)
    |go_in)
   refine HR.out w4 _ ks' (hkp.trans hk4 (λb hb hb'=>absurd ((hrow.lt b hb').1) (by omega))) hrow' (λk=>?_) (by rw[hperm.length_eq];have:=HC.out;omega) (zuk hso (hperm.nodup_iff.2 HND.out))
   rw[hperm.mem_iff,HM.out k]
   exact⟨λ⟨_,_,h3⟩=>h3,λh3=>⟨λe=>by rw[zpk e]at h3;omega,hl0 _,h3⟩⟩
  ·intro k v w1 cnt1 hlk hfk left' hrg1 hl1 hl2 hlt hg1 hs1 hen
   have hmk:s.mom k≠[]:=λe=>by rw[zcc,if_pos e]at hfk;cases hfk
   clear hfk
   have hkp1:Kp (λ_=>False) w w1:=hkp.trans (Kp.of_grown (S:=λb=>b=w.heap.size) hg1 (λb hb=>by cases hb;rfl)) (λb hb e=>by omega)
   have hrow1:=zi hrow (Kp.of_grown (S:=λb=>b=w.heap.size) hg1 (λb hb=>by cases hb;rfl)) (λb hb e=>by have:=(hrow.lt b hb).1;omega)
   have HX:Hid (∀k',left' (.string k')=false↔(k'=k∨left (.string k')=false)):=λk'=>by
    by_cases e:k'=k
    ·subst e;simp[hl1]
    ·rw[hl2 _ (λh=>e (by injection h))];simp[e]
   have HLK:Hid (left (.string k)=true):=hlk
   have hs1':w.heap.size+1≤w1.heap.size:=by rw[hs1];exact HZ.out
   have HZ1:=ze hs1'
   have HMK:=ze hmk
   have H1:=ze (H.out.kept hkp1)
   have HK8:=ze (HW.out k hmk)
   clear hlk hl1 hl2 hmk hs1' hg1 hs1
   have hmm:=hmoms.lt
   by_cases hsp:0<zv s k t
   ·have d0:decide ((0:Int)<(zv s k t:Int))=true:=by simpa using hsp
    have HSP:=ze hsp
    clear hsp
    go_wp2_with (first
     |(go_at_call 81;refine zxl H1.out k t HK8.out (HMO.out k) (λw2 hk2=>?_);have hrow2:=zi hrow1 hk2 (λ_ _ h=>h);have HK2:=ze hk2;clear hk2)
     |(at_builtin;refine wpList_append_own_at _ rfl _ _ 142 rfl (w.heap.size+1) 9 i0 (.string ⟨#[]⟩) 1 16 Tryz.underlying142 hi hz0 hz1 hz2 rfl (by decide) _ _ _ rfl (hrow2.alloc _) ⟨w2.heap.size,0,none⟩ 1 1 [.string k] rfl rfl (cell_one_new _ _ _) (by simp[Value.oneCell']) (by have:=HC.out;have:=HN.out;unfold maxLen;omega) (by have:=HC.out;have:=HN.out;omega) (by have:=HZ1.out;have:=HK2.out.size;simp;omega) ?_;intro v' w3 hown' hgrow hnil hloc)
     |go_in)
    have hlt1:∀b,Value.ownBlock u5=some b→w.heap.size+1≤b:=λb hb=>(hrow1.lt b hb).1
    have K13:Kp (λb=>Value.ownBlock u5=some b) w1 w3:=(HK2.out.mono (λ_ _ h=>h.elim)).trans ((Kp.alloc (λb=>Value.ownBlock u5=some b) w2 _).trans (Kp.of_grown (S:=λb=>Value.ownBlock u5=some b) hgrow (λ_ h=>h)) (λ_ _ h=>h)) (λ_ _ h=>h)
    have hr1:=HZ1.out
    have hrg2:z0d w3 Tryz.prog 9 mm w.heap.size s.nm (z3b λk=>if s.mom k=[] then none else some (sl k)) left' cnt1:=hrg1.of_block (K13.block mm hrg1.toMap.lt (λe=>by have:=hlt1 _ e;omega)) (K13.block _ (by omega) (λe=>by have:=hlt1 _ e;omega))
    go_roundw
    case rel=>
     refine⟨left',cnt1,ks++[k],hrg2,hkp1.trans K13 (λb hb e=>by have:=hlt1 _ e;omega),by simpa using hown',λk'=>?_,by have:=HC.out;simp;omega,Nat.le_trans HZ1.out K13.size,List.nodup_append.2 ⟨HND.out,by simp,λa ha b hb=>by simp at hb;subst hb;intro e;subst e;have:=((HM.out a).1 ha).2.1;rw[HLK.out]at this;cases this⟩⟩
     rw[List.mem_append,List.mem_singleton,HM.out k',HX.out k']
     constructor
     ·rintro (⟨h1,h2,h3⟩|rfl)
      ·exact⟨h1,Or.inr h2,h3⟩
      ·exact⟨HMK.out,Or.inl rfl,HSP.out⟩
     ·rintro⟨h1,h2|h2,h3⟩
      ·exact Or.inr h2
      ·exact Or.inl ⟨h1,h2,h3⟩
    case measure=>rw[hrg2.left_eq,hrg.left_eq];exact hlt
   ·have d0:decide ((0:Int)<(zv s k t:Int))=false:=by simpa using hsp
    have HSP:=ze hsp
    clear hsp
    go_wp2_with (first
     |(go_at_call 81;refine zxl H1.out k t HK8.out (HMO.out k) (λw2 hk2=>?_);have hrow2:=zi hrow1 hk2 (λ_ _ h=>h);have HK2:=ze hk2;clear hk2)
     |go_in)
    have hr1:=HZ1.out
    have hrg2:z0d w2 Tryz.prog 9 mm w.heap.size s.nm (z3b λk=>if s.mom k=[] then none else some (sl k)) left' cnt1:=hrg1.of_block (HK2.out.block mm hrg1.toMap.lt (λe=>e)) (HK2.out.block _ (by omega) (λe=>e))
    go_roundw
    case rel=>
     refine⟨left',cnt1,ks,hrg2,hkp1.trans HK2.out (λ_ _ h=>h),hrow2,λk'=>?_,by have:=HC.out;omega,Nat.le_trans HZ1.out HK2.out.size,HND.out⟩
     rw[HM.out k',HX.out k']
     constructor
     ·rintro⟨h1,h2,h3⟩;exact⟨h1,Or.inr h2,h3⟩
     ·rintro⟨h1,h2|h2,h3⟩
      ·subst h2;exact absurd h3 HSP.out
      ·exact⟨h1,h2,h3⟩
    case measure=>rw[hrg2.left_eq,hrg.left_eq];exact hlt
end
end
end Go.Proofs.YthbdpfccfcceiaaGreatDoor
