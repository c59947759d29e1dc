/-
  Of the proof of logsUpto_card.
-/
import Derived.Test.YthbdpfccfcceiaaGreatDoorG4x
import Derived.Test.YthbdpfccfcceiaaGreatDoorT6
namespace Go.Proofs.YthbdpfccfcceiaaGreatDoor
section
open Go.RowKit
section
variable {R:Ending→World→Prop}
set_option maxRecDepth 20000 in
set_option maxHeartbeats 1000000 in
theorem z7s (w:World)(p px py:Nat)(e a b:Int)(s t:ByteArray)(vl vm:Value)
  (hX:Calls Tryz.prog 21 #[.pointer (some ⟨px,0,none⟩),.int .i64 a] (zeb w px py 12 e a b s t vl vm) (λr w2=>∃er,r = .returned (.int .i64 er)∧Kp (λb=>b<w.heap.size) (zeb w px py 12 e a b s t vl vm) w2∧
   Calls Tryz.prog 110 #[.pointer (some ⟨py,0,none⟩),.int .i64 a] w2 (λr' w3=>r' = .returned (.int .i64 er)∧R (.returned (.bool true)) w3))) :
  Calls Tryz.prog 62 #[.pointer (some ⟨p,0,none⟩),zjb px py,zkb 12 e a b s t vl vm] w R:=by
 unfold zeb at hX
 have HX:=ze hX
 unfold zjb zkb
 clear hX
 go_enter Tryz.func62,Tryz.ntmps62
 go_wp2_with (first
  |(go_at_call 21;refine HX.out.mono ?_;rintro r w2 ⟨er,rfl,hk,hy⟩;have HY:=ze hy;have q1:=zg (z7c hk) 1;have q12:=zg (zbc hk) 2;clear hy hk)
  |(go_at_call 110;refine HY.out.mono ?_;rintro r w3 ⟨rfl,hr⟩)
  |go_in)
 exact hr
set_option maxRecDepth 20000 in
set_option maxHeartbeats 1000000 in
theorem z9s (w:World)(p px py:Nat)(e a b:Int)(s t:ByteArray)(vl vm:Value)
  (hX:Calls Tryz.prog 22 #[.pointer (some ⟨px,0,none⟩),.int .i64 a] (zeb w px py 13 e a b s t vl vm) (λr w2=>∃n,r = .returned (.int .i64 n)∧Kp (λb=>b<w.heap.size) (zeb w px py 13 e a b s t vl vm) w2∧
   Calls Tryz.prog 111 #[.pointer (some ⟨py,0,none⟩),.int .i64 a] w2 (λr' w3=>r' = .returned (.int .i64 n)∧R (.returned (.bool true)) w3))) :
  Calls Tryz.prog 62 #[.pointer (some ⟨p,0,none⟩),zjb px py,zkb 13 e a b s t vl vm] w R:=by
 unfold zeb at hX
 have HX:=ze hX
 unfold zjb zkb
 clear hX
 go_enter Tryz.func62,Tryz.ntmps62
 go_wp2_with (first
  |(go_at_call 22;refine HX.out.mono ?_;rintro r w2 ⟨n,rfl,hk,hy⟩;have HY:=ze hy;have q1:=zg (z7c hk) 1;have q12:=zg (zbc hk) 2;clear hy hk)
  |(go_at_call 111;refine HY.out.mono ?_;rintro r w3 ⟨rfl,hr⟩)
  |go_in)
 exact hr
set_option maxRecDepth 20000 in
set_option maxHeartbeats 1000000 in
theorem z8s (w:World)(p px py:Nat)(e a b:Int)(s t:ByteArray)(vl vm:Value)
  (hX:Calls Tryz.prog 112 #[.pointer (some ⟨px,0,none⟩)] (zeb w px py 14 e a b s t vl vm) (λr w2=>∃(n:Nat) (av:Option Addr) (cap:Nat),r = .returned (.int .i64 n)∧Kp (λb=>b<w.heap.size) (zeb w px py 14 e a b s t vl vm) w2∧
   w2.cell? ⟨py,0,none⟩=some (.slice av n cap)∧R (.returned (.bool true)) w2)) :
  Calls Tryz.prog 62 #[.pointer (some ⟨p,0,none⟩),zjb px py,zkb 14 e a b s t vl vm] w R:=by
 unfold zeb at hX
 have HX:=ze hX
 unfold zjb zkb
 clear hX
 go_enter Tryz.func62,Tryz.ntmps62
 go_wp2_with (first
  |(go_at_call 112;refine HX.out.mono ?_;rintro r w2 ⟨n,av,cap,rfl,hk,hy,hr⟩;have q1:=zg (z7c hk) 1;clear hk)
  |go_in)
 exact hr
set_option maxRecDepth 20000 in
set_option maxHeartbeats 2000000 in
theorem zvx (w:World)(p px py:Nat)(e a b:Int)(s t:ByteArray)(vl vm:Value)
  (hX:Calls Tryz.prog 29 #[.pointer (some ⟨px,0,none⟩),.int .i64 a,.string s] (zeb w px py 10 e a b s t vl vm) (λr w2=>∃u er lo hi av n cap,r = .returned (.tuple #[.string u,.int .i64 er])∧Kp (λb=>b<w.heap.size) (zeb w px py 10 e a b s t vl vm) w2∧
   w2.cell? ⟨py,0,none⟩=some (.slice av n cap)∧w2.cell? ⟨py,1,none⟩=some (.int .i64 lo)∧w2.cell? ⟨py,2,none⟩=some (.int .i64 hi)∧
   ∀w3,Kp (λ_=>False) w2 w3→Calls Tryz.prog 97 #[.slice av n cap,.int .i64 lo,.int .i64 hi,.int .i64 a,.string s] w3 (λr' w4=>r' = .returned (.tuple #[.string u,.int .i64 er])∧Kp (λ_=>False) w2 w4∧R (.returned (.bool true)) w4))) :
  Calls Tryz.prog 62 #[.pointer (some ⟨p,0,none⟩),zjb px py,zkb 10 e a b s t vl vm] w R:=by
 unfold zeb at hX
 have HX:=ze hX
 unfold zjb zkb
 clear hX
 go_enter Tryz.func62,Tryz.ntmps62
 go_wp2_with (first
  |(go_at_call 29;refine HX.out.mono ?_;rintro r w2 ⟨u,er,lo,hi,av,n,cap,rfl,hk,y0,y1,y2,hy⟩;have HY:=ze hy;have q1:w2.cell? ⟨w.heap.size,1,none⟩=some (.pointer (some ⟨py,0,none⟩)):=zg (z7c hk) 1;have q12:w2.cell? ⟨w.heap.size+1,2,none⟩=some (.int .i64 a):=zg (zbc hk) 2;have q14:w2.cell? ⟨w.heap.size+1,4,none⟩=some (.string s):=zg (zbc hk) 4;clear hy hk)
  |go_in)
 go_region_held3 (λw'=>w'.cell? ⟨w.heap.size,1,none⟩=some (.pointer (some ⟨py,0,none⟩))∧w'.cell? ⟨py,0,none⟩=some (.slice av n cap)∧w'.cell? ⟨py,1,none⟩=some (.int .i64 lo)∧w'.cell? ⟨py,2,none⟩=some (.int .i64 hi)∧w'.cell? ⟨w.heap.size+1,2,none⟩=some (.int .i64 a)∧w'.cell? ⟨w.heap.size+1,4,none⟩=some (.string s)) (go_keep) ((go_at_call 97;refine (HY.out _ ?_).mono ?_;(first|exact Kp.drew _ _|exact Kp.drewN _ _ _|exact Kp.refl _ _);rintro r w4 ⟨rfl,hk4,hr⟩;have zy0:=(hk4.cell (World.block_lt_of_cell? _ _ y0) (λh=>h)).trans y0;have zy1:=(hk4.cell (World.block_lt_of_cell? _ _ y1) (λh=>h)).trans y1;have zy2:=(hk4.cell (World.block_lt_of_cell? _ _ y2) (λh=>h)).trans y2;have zq1:=(hk4.cell (World.block_lt_of_cell? _ _ q1) (λh=>h)).trans q1;have zq12:=(hk4.cell (World.block_lt_of_cell? _ _ q12) (λh=>h)).trans q12;have zq14:=(hk4.cell (World.block_lt_of_cell? _ _ q14) (λh=>h)).trans q14;clear hk4))
 all_goals
  go_wp2
  exact hr
set_option maxRecDepth 20000 in
set_option maxHeartbeats 2000000 in
theorem zjv (w:World)(p px py:Nat)(e a b:Int)(s t:ByteArray)(vl vm:Value)
  (hX:Calls Tryz.prog 27 #[.pointer (some ⟨px,0,none⟩),.int .i64 a,.string s,.string t] (zeb w px py 11 e a b s t vl vm) (λr w2=>∃v er lo hi av n cap,r = .returned (.tuple #[v,.int .i64 er])∧Kp (λb=>b<w.heap.size) (zeb w px py 11 e a b s t vl vm) w2∧
   w2.cell? ⟨py,0,none⟩=some (.slice av n cap)∧w2.cell? ⟨py,1,none⟩=some (.int .i64 lo)∧w2.cell? ⟨py,2,none⟩=some (.int .i64 hi)∧
   ∀w3,Kp (λ_=>False) w2 w3→Calls Tryz.prog 99 #[.slice av n cap,.int .i64 lo,.int .i64 hi,.int .i64 a,.string s,.string t] w3 (λr' w4=>∃v',r' = .returned (.tuple #[v',.int .i64 er])∧Kp (λ_=>False) w2 w4∧Calls Tryz.prog 100 #[.pointer (some ⟨p,0,none⟩),v,.int .i64 er,v',.int .i64 er] w4 (λr w5=>r = .returned (.bool true)∧R (.returned (.bool true)) w5)))) :
  Calls Tryz.prog 62 #[.pointer (some ⟨p,0,none⟩),zjb px py,zkb 11 e a b s t vl vm] w R:=by
 unfold zeb at hX
 have HX:=ze hX
 unfold zjb zkb
 clear hX
 go_enter Tryz.func62,Tryz.ntmps62
 go_wp2_with (first
  |(go_at_call 27;refine HX.out.mono ?_;rintro r w2 ⟨v,er,lo,hi,av,n,cap,rfl,hk,y0,y1,y2,hy⟩;have HY:=ze hy;have q1:w2.cell? ⟨w.heap.size,1,none⟩=some (.pointer (some ⟨py,0,none⟩)):=zg (z7c hk) 1;have q12:w2.cell? ⟨w.heap.size+1,2,none⟩=some (.int .i64 a):=zg (zbc hk) 2;have q14:w2.cell? ⟨w.heap.size+1,4,none⟩=some (.string s):=zg (zbc hk) 4;have q15:w2.cell? ⟨w.heap.size+1,5,none⟩=some (.string t):=zg (zbc hk) 5;clear hy hk)
  |go_in)
 go_region_held3 (λw'=>w'.cell? ⟨w.heap.size,1,none⟩=some (.pointer (some ⟨py,0,none⟩))∧w'.cell? ⟨py,0,none⟩=some (.slice av n cap)∧w'.cell? ⟨py,1,none⟩=some (.int .i64 lo)∧w'.cell? ⟨py,2,none⟩=some (.int .i64 hi)∧w'.cell? ⟨w.heap.size+1,2,none⟩=some (.int .i64 a)∧w'.cell? ⟨w.heap.size+1,4,none⟩=some (.string s)∧w'.cell? ⟨w.heap.size+1,5,none⟩=some (.string t)) (go_keep) ((go_at_call 99;refine (HY.out _ ?_).mono ?_;(first|exact Kp.drew _ _|exact Kp.drewN _ _ _|exact Kp.refl _ _);rintro r w4 ⟨v',rfl,hk4,hp⟩;have HP:=ze hp;have zy0:=(hk4.cell (World.block_lt_of_cell? _ _ y0) (λh=>h)).trans y0;have zy1:=(hk4.cell (World.block_lt_of_cell? _ _ y1) (λh=>h)).trans y1;have zy2:=(hk4.cell (World.block_lt_of_cell? _ _ y2) (λh=>h)).trans y2;have zq1:=(hk4.cell (World.block_lt_of_cell? _ _ q1) (λh=>h)).trans q1;have zq12:=(hk4.cell (World.block_lt_of_cell? _ _ q12) (λh=>h)).trans q12;have zq14:=(hk4.cell (World.block_lt_of_cell? _ _ q14) (λh=>h)).trans q14;have zq15:=(hk4.cell (World.block_lt_of_cell? _ _ q15) (λh=>h)).trans q15;clear hp hk4))
 all_goals
  go_wp2_with (first
   |(go_at_call 100;refine HP.out.mono ?_;rintro r w5 ⟨rfl,hr⟩)
   |go_in)
  exact hr
end
end
section
open Go.RowKit Go.Maps Go.Sort
section
variable {own own':Nat→Lab}{c:Nat}{w w':World}{p:Nat}{s:XS}{mo ph mv mm:Nat}{pt mw:Int→Nat}{sl:ByteArray→Value}
variable {R:Ending→World→Prop}
set_option maxRecDepth 20000 in
set_option maxHeartbeats 1000000 in
theorem zfy (h:XR own c w p s mo ph mv mm pt mw sl)(m:Int)(f t:ByteArray)(hnm:s.nm<100000)(hm:∀k,zxf s k)(hkey:∀k,s.mom k≠[]→k.size≤8)
  (h1:m<s.hor→R (.returned (.tuple #[.slice none 0 0,.int .i64 6])) w)
  (h2:¬m<s.hor→s.now<m→R (.returned (.tuple #[.slice none 0 0,.int .i64 7])) w)
  (h3:¬m<s.hor→¬s.now<m→∀w' v (ks:List ByteArray),Kp (λ_=>False) w w'→ks.Pairwise blt→(∀k,k∈ks↔s.mom k≠[]∧inR f t k=true)→ks.length≤s.nm→
   w'.ownsRow w.heap.size 105 2 v (ks.filterMap (zdb (λk=>zvb s k m))).length (z9 (ks.filterMap (zdb (λk=>zvb s k m))))→R (.returned (.tuple #[v,.int .i64 0])) w') :
  Calls Tryz.prog 55 #[.pointer (some ⟨p,0,none⟩),.int .i64 m,.string f,.string t] w R:=by
 have H:=ze h
 have c3:w.cell? ⟨p,0,none⟩=some (.pointer (some ⟨ph,0,none⟩)):=zg h.store 0
 by_cases q1:m<s.hor
 ·have HR:=ze (h1 q1)
  have Q1:=ze q1
  clear h h1 h2 h3 q1 hnm hm hkey
  go_enter Tryz.func55,Tryz.ntmps55
  go_wp2_with (first
   |(go_at_call 44;refine z3d H.out m (λ_=>?_) (λq _=>by have:=Q1.out;omega) (λq _=>by have:=Q1.out;omega))
   |go_in)
  exact HR.out
 ·by_cases q2:s.now<m
  ·have HR:=ze (h2 q1 q2)
   have Q1:=ze q1
   have Q2:=ze q2
   clear h h1 h2 h3 q1 q2 hnm hm hkey
   go_enter Tryz.func55,Tryz.ntmps55
   go_wp2_with (first
    |(go_at_call 44;refine z3d H.out m (λq=>by have:=Q1.out;omega) (λ_ _=>?_) (λ_ q=>by have:=Q2.out;omega))
    |go_in)
   exact HR.out
  ·have HR:=ze (h3 q1 q2)
   have Q1:=ze q1
   have Q2:=ze q2
   have HN:=ze hnm
   have HM:=ze hm
   have HW:=ze hkey
   obtain⟨i0,hi,hz0,hz1,hz2⟩:=info_parts zvi
   clear h h1 h2 h3 q1 q2 hnm hm hkey
   go_enter Tryz.func55,Tryz.ntmps55
   go_wp2_with (first
    |(go_at_call 44;refine z3d H.out m (λq=>by have:=Q1.out;omega) (λ_ q=>by have:=Q2.out;omega) (λ_ _=>?_))
    |(go_at_call 90;refine zjy H.out f t HN.out (λw1 v1 ks hk1 hrow hmem hlen hsort=>?_);have H1:Hid (XR own c w1 p s mo ph mv mm pt mw sl):=H.out.kept hk1;obtain⟨a1,cap1,rfl,hcell⟩:=zoh hrow;have HC:=ze hcell;have HROW:=ze hrow;have HSO:=ze hsort;have HME:=ze hmem;have HLE:=ze hlen;clear hcell hrow hsort hmem hlen)
    |go_in)
   clear c3
   have HS1:Hid (w.heap.size≤w1.heap.size):=hk1.size
   go_loopw [11,30] (λv12 v34 wr=>∃i:Nat,i≤ks.length∧v34 = .int .i64 i∧Kp (λ_=>False) w1 wr∧wr.ownsRow w1.heap.size 105 2 v12 ((ks.take i).filterMap (zdb (λk=>zvb s k m))).length (z9 ((ks.take i).filterMap (zdb (λk=>zvb s k m)))))
    (λ_ v34 _=>ks.length-(intOf v34).toNat)
   case atStart=>exact⟨0,Nat.zero_le _,rfl,Kp.refl _ _,World.ownsRow_nil _ _ _ _⟩
   case round=>
    obtain⟨i,hile,rfl,hkp,hown⟩:=hrel
    by_cases hlt:i<ks.length
    ·obtain⟨g,rfl,hg1,hg2,hcell⟩:=HC.out (λh=>by rw[h]at hlt;simp at hlt)
     have hck:wr.cell? ⟨g,i,none⟩=some (.string ks[i]):=(hkp.cell (a:=⟨g,i,none⟩) hg2 (λh=>h)).trans (hcell i hlt)
     have hki:ks[i]∈ks:=List.getElem_mem _
     have hkk:=(HME.out ks[i]).1 hki
     have htk:ks.take (i+1)=ks.take i++[ks[i]]:=List.take_succ_eq_append_getElem hlt
     have HT:=ze htk
     have hlt':(i:Int)<ks.length:=by omega
     have hi1:(i:Int)≤1000000:=by have:=HLE.out;have:=HN.out;omega
     have hlenps:Hid (((ks.take i).filterMap (zdb (λk=>zvb s k m))).length≤1000000):=by
      show _≤_
      have h1:=List.length_filterMap_le (zdb (λk=>zvb s k m)) (ks.take i)
      have h2:(ks.take i).length≤i:=by simp[List.length_take];omega
      have:=HLE.out;have:=HN.out;omega
     have hxr:Hid (XR own c wr p s mo ph mv mm pt mw sl):=H1.out.kept hkp
     have c4:wr.cell? ⟨p,0,none⟩=some (.pointer (some ⟨ph,0,none⟩)):=zg hxr.out.store 0
     have HWK:=ze (HW.out _ hkk.1)
     have HKP:=ze hkp
     generalize hkeq:ks[i]=k at *
     clear hkk hki htk hkp hcell
     cases hs:(zvb s k m).2
     ·go_wp2_with (first
       |(go_at_call 91;refine z3j hxr.out k m HWK.out (HM.out k).len (HM.out k).up (HM.out k).ver (λw2 hk2=>?_);have HK2:Hid (Kp (λ_=>False) wr w2):=hk2;clear hk2)
       |go_in)
      go_roundw
      case rel=>
       refine⟨i+1,by omega,by go_num,HKP.out.trans HK2.out (λ_ _ h=>h),?_⟩
       have hp0:(ks.take (i+1)).filterMap (zdb (λk=>zvb s k m))=(ks.take i).filterMap (zdb (λk=>zvb s k m)):=by rw[HT.out,List.filterMap_append];simp[zdb,hs]
       rw[hp0]
       exact zi hown HK2.out (λ_ _ h=>h)
      case measure=>simp[intOf];omega
     ·go_wp2_with (first
       |(go_at_call 91;refine z3j hxr.out k m HWK.out (HM.out k).len (HM.out k).up (HM.out k).ver (λw2 hk2=>?_);have HK2:Hid (Kp (λ_=>False) wr w2):=hk2;have hown2:=zi hown hk2 (λ_ _ h=>h);clear hk2)
       |(at_builtin;refine wpList_append_own_at _ rfl _ _ 43 rfl w1.heap.size 105 i0 (.agg #[.string ⟨#[]⟩,.string ⟨#[]⟩]) 2 32 Tryz.underlying43 hi hz0 hz1 hz2 rfl (by decide) _ _ _ rfl (hown2.alloc _) ⟨w2.heap.size,0,none⟩ 1 1 [.string k,.string (zvb s k m).1] rfl rfl (zqh _ _ _ _) (by simp[Value.oneCell']) (by have:=hlenps.out;unfold maxLen;omega) (by have:=hlenps.out;omega) (by have:=HKP.out.size;have:=HK2.out.size;simp;omega) ?_;intro v' w3 hown' hgrow hnil hloc)
       |go_in)
      have hb1:∀b,Value.ownBlock u11=some b→w1.heap.size≤b:=λb hb=>(hown2.lt b hb).1
      go_roundw
      case rel=>
       refine⟨i+1,by omega,by go_num,((HKP.out.trans HK2.out (λ_ _ h=>h)).trans ((Kp.alloc (λb=>Value.ownBlock u11=some b) w2 _).trans (Kp.of_grown (S:=λb=>Value.ownBlock u11=some b) hgrow (λ_ h=>h)) (λ_ _ h=>h)) (λb hb h=>by have:=hb1 b h;omega)),?_⟩
       have hp0:(ks.take (i+1)).filterMap (zdb (λk=>zvb s k m))=(ks.take i).filterMap (zdb (λk=>zvb s k m))++[(k,(zvb s k m).1)]:=by rw[HT.out,List.filterMap_append];simp[zdb,hs]
       rw[hp0,List.length_append,← zth]
       exact hown'
      case measure=>simp[intOf];omega
    ·have hie:i=ks.length:=by omega
     subst hie
     rw[List.take_length]at hown
     go_wp2_with fail
     refine HR.out wr u11 ks (hk1.trans hkp (λ_ _ h=>h)) HSO.out HME.out HLE.out ⟨hown.1,hown.2.imp id (λ⟨g,cap,cur,e1,e2,e3⟩=>⟨g,cap,cur,e1,Nat.le_trans HS1.out e2,e3⟩)⟩
set_option maxRecDepth 20000 in
set_option maxHeartbeats 400000 in
theorem zx2 (m:Int)(f t:ByteArray)
  (hR:Calls Tryz.prog 55 #[.pointer (some ⟨p,0,none⟩),.int .i64 m,.string f,.string t] w λe w'=>∃(a:Value) (b:Int),e = .returned (.tuple #[a,.int .i64 b])∧R (.returned (.tuple #[a,.int .i64 b])) w') :
  Calls Tryz.prog 27 #[.pointer (some ⟨p,0,none⟩),.int .i64 m,.string f,.string t] w R:=by
 have HR:=ze hR
 clear hR
 go_enter Tryz.func27,Tryz.ntmps27
 go_wp2_with (first
  |(go_at_call 55;refine Calls.mono HR.out ?_;rintro e w1 ⟨a,b,rfl,hr⟩;have HR1:=ze hr;clear hr)
  |go_in)
 exact HR1.out
end
end
section
open Go.RowKit
section
variable {own:Nat→Lab}{i:Nat}{w:World}{p px py nt:Nat}
variable {R:Ending→World→Prop}
theorem YI.small {y:YS}(h:YI y):y.l.length<1000000:=by
 have h1:=h.len
 have h2:=h.now
 omega
theorem z42 (hD:Duo own i w px py nt)(e a b:Int)(st tt:ByteArray)(hst:st.size≤maxLen)(vl vm:Value)
  (hK:∀w3 own3,Kp (Cap own i) w w3→(∀b,b<w.heap.size→own3 b=own b)→Duo own3 i w3 px py (nt+1)→R (.returned (.bool true)) w3) :
  Calls Tryz.prog 62 #[.pointer (some ⟨p,0,none⟩),zjb px py,zkb 10 e a b st tt vl vm] w R:=by
 obtain⟨s,y,hx,hy,ht,hi,hn⟩:=hD
 refine zvx w p px py e a b st tt vl vm ?_
 have hw:=zfd w px py 10 e a b st tt vl vm
 generalize zeb w px py 10 e a b st tt vl vm=w1 at hw ⊢
 have X0:=hx.box hw
 have Y0:=hy.box hw
 obtain⟨mo,ph,mv,mm,pt,mw,sl,X⟩:=X0
 obtain⟨vL,vT,vG,sv,lg,Y,hl,hg⟩:=Y0
 obtain⟨av,cap,hvL,_⟩:=zr Y.rowL
 have hnow:=ht.now
 have hhor:=ht.hor
 have F:∀{w2 w3:World},Kp (λ_=>False) w1 w2→Kp (λ_=>False) w2 w3→R (.returned (.bool true)) w3:=λk2 k3=>zkg hw k2 k3 ⟨mo,ph,mv,mm,pt,mw,sl,X⟩ ⟨vL,vT,vG,sv,lg,Y,hl,hg⟩ ht hi hn hK
 have C:∀{w2:World},Kp (λ_=>False) w1 w2→w2.cell? ⟨py,0,none⟩=some (.slice av y.l.length cap)∧w2.cell? ⟨py,1,none⟩=some (.int .i64 y.hor)∧w2.cell? ⟨py,2,none⟩=some (.int .i64 y.now):=λk2=>
  ⟨(zg (Y.kept k2).store 0).trans (by rw[← hvL];rfl),zg (Y.kept k2).store 1,zg (Y.kept k2).store 2⟩
 have W:∀{w3:World},Kp (λ_=>False) w1 w3→w3.ownsRow 0 193 4 (.slice av y.l.length cap) y.l.length (zo y.l):=λk=>by
  have:=(Y.kept k).rowL
  rw[hvL]at this
  exact this
 refine zp3 a st (zt2 X a st hst (ht.momOk hi) (λhk=>⟨_,_,rfl,?_⟩) (λhk q1=>⟨_,_,rfl,?_⟩) (λhk q1 q2=>⟨_,_,rfl,?_⟩) (λhk q1 q2 hv w2 k2=>⟨_,_,rfl,?_⟩) (λhk q1 q2 hv w2 k2=>⟨_,_,rfl,?_⟩))
 ·refine⟨_,_,y.hor,y.now,av,_,cap,rfl,Kp.refl _ _,(C (Kp.refl _ _)).1,(C (Kp.refl _ _)).2.1,(C (Kp.refl _ _)).2.2,λw3 k3=>?_⟩
  exact zqj y.l _ y.hor y.now a st hi.small hst (W k3) (λ_=>⟨rfl,k3,F (Kp.refl _ _) k3⟩) (λh=>by rw[hk]at h;cases h) (λh=>by rw[hk]at h;cases h) (λh=>by rw[hk]at h;cases h) (λh=>by rw[hk]at h;cases h)
 ·refine⟨_,_,y.hor,y.now,av,_,cap,rfl,Kp.refl _ _,(C (Kp.refl _ _)).1,(C (Kp.refl _ _)).2.1,(C (Kp.refl _ _)).2.2,λw3 k3=>?_⟩
  exact zqj y.l _ y.hor y.now a st hi.small hst (W k3) (λh=>by rw[hk]at h;cases h) (λ_ _=>⟨rfl,k3,F (Kp.refl _ _) k3⟩) (λ_ h=>by omega) (λ_ h=>by omega) (λ_ h=>by omega)
 ·refine⟨_,_,y.hor,y.now,av,_,cap,rfl,Kp.refl _ _,(C (Kp.refl _ _)).1,(C (Kp.refl _ _)).2.1,(C (Kp.refl _ _)).2.2,λw3 k3=>?_⟩
  exact zqj y.l _ y.hor y.now a st hi.small hst (W k3) (λh=>by rw[hk]at h;cases h) (λ_ h=>by omega) (λ_ _ _=>⟨rfl,k3,F (Kp.refl _ _) k3⟩) (λ_ _ h=>by omega) (λ_ _ h=>by omega)
 ·refine⟨_,_,y.hor,y.now,av,_,cap,rfl,kpF k2,(C k2).1,(C k2).2.1,(C k2).2.2,λw3 k3=>?_⟩
  refine zqj y.l _ y.hor y.now a st hi.small hst (W (k2.trans k3 (λ_ _ h=>h))) (λh=>by rw[hk]at h;cases h) (λ_ h=>by omega) (λ_ _ h=>by omega) (λ_ _ _ r w4 hr hr2 k4=>⟨rfl,k3.trans k4 (λ_ _ h=>h),F k2 (k3.trans k4 (λ_ _ h=>h))⟩) (λ_ _ _ r w4 hr hr2 k4=>?_)
  have:=(ht.told hi a st r hr).1
  rw[hr2]at this
  have hv':(zvb s st a).2=true:=this.symm
  rw[hv]at hv';cases hv'
 ·refine⟨_,_,y.hor,y.now,av,_,cap,rfl,kpF k2,(C k2).1,(C k2).2.1,(C k2).2.2,λw3 k3=>?_⟩
  refine zqj y.l _ y.hor y.now a st hi.small hst (W (k2.trans k3 (λ_ _ h=>h))) (λh=>by rw[hk]at h;cases h) (λ_ h=>by omega) (λ_ _ h=>by omega) (λ_ _ _ r w4 hr hr2 k4=>?_) (λ_ _ _ r w4 hr hr2 k4=>⟨?_,k3.trans k4 (λ_ _ h=>h),F k2 (k3.trans k4 (λ_ _ h=>h))⟩)
  ·have:=(ht.told hi a st r hr).1
   rw[hr2]at this
   have hv':(zvb s st a).2=false:=this.symm
   rw[hv]at hv';cases hv'
  ·rw[(ht.told hi a st r hr).2 hr2]
theorem zzy (hD:Duo own i w px py nt)(e a b:Int)(st tt:ByteArray)(vl vm:Value)
  (hK:∀w3 own3,Kp (Cap own i) w w3→(∀b,b<w.heap.size→own3 b=own b)→Duo own3 i w3 px py (nt+1)→R (.returned (.bool true)) w3) :
  Calls Tryz.prog 62 #[.pointer (some ⟨p,0,none⟩),zjb px py,zkb 14 e a b st tt vl vm] w R:=by
 obtain⟨s,y,hx,hy,ht,hi,hn⟩:=hD
 refine z8s w p px py e a b st tt vl vm ?_
 have hw:=zfd w px py 14 e a b st tt vl vm
 generalize zeb w px py 14 e a b st tt vl vm=w1 at hw ⊢
 have X0:=hx.box hw
 have Y0:=hy.box hw
 obtain⟨mo,ph,mv,mm,pt,mw,sl,X⟩:=X0
 obtain⟨vL,vT,vG,sv,lg,Y,hl,hg⟩:=Y0
 obtain⟨av,cap,hvL,_⟩:=zr Y.rowL
 have hc:=ht.count hi X
 refine z00 X ⟨s.nv,av,cap,rfl,Kp.refl _ _,?_,zkg hw (Kp.refl _ _) (Kp.refl _ _) ⟨mo,ph,mv,mm,pt,mw,sl,X⟩ ⟨vL,vT,vG,sv,lg,Y,hl,hg⟩ ht hi hn hK⟩
 rw[hc]
 exact (zg Y.store 0).trans (by rw[← hvL];rfl)
theorem zyy (hD:Duo own i w px py nt)(hT:Tab w)(hN:zid own (2*i+2))(hnt:nt<100000000)(e a b:Int)(st tt:ByteArray)(vl vm:Value)
  (hK:∀w3 own3,Kp (Cap own i) w w3→(∀b,b<w.heap.size→own3 b=own b)→Duo own3 i w3 px py (nt+1)→R (.returned (.bool true)) w3) :
  Calls Tryz.prog 62 #[.pointer (some ⟨p,0,none⟩),zjb px py,zkb 12 e a b st tt vl vm] w R:=by
 obtain⟨s,y,hx,hy,ht,hi,hn⟩:=hD
 refine z7s w p px py e a b st tt vl vm ?_
 have hw:=zfd w px py 12 e a b st tt vl vm
 generalize zeb w px py 12 e a b st tt vl vm=w1 at hw ⊢
 have HB:=hi.yb (by omega)
 have X0:=hx.box hw
 have Y0:=hy.box hw
 have X1:=X0
 have Y1:=Y0
 obtain⟨mo,ph,mv,mm,pt,mw,sl,X⟩:=X0
 obtain⟨vL,vT,vG,sv,lg,Y,hl,hg⟩:=Y0
 have hnow:=ht.now
 have hhor:=ht.hor
 have hb1:=hi.now
 have hb2:=hi.hor
 have hlg1:=ht.lgl
 have hN1:zid (zmc own w.heap.size) (2*i+2):=by
  unfold zid
  rw[zrb hT.lt.1,zrb hT.lt.2];exact hN
 refine zz0 X (hT.kept hw) hN1 a (by omega) (by omega) ht.lgb (λh0=>⟨_,rfl,Kp.refl _ _,?_⟩) (λq1 q2 hp w2 k2=>⟨_,rfl,kpF k2,?_⟩) (λq1 q2 hp w2 own2 l2 k2 a2 hl2 hs2 X2=>⟨_,rfl,low k2,?_⟩)
 ·exact z6m Y HB hi.bku a (by omega) hb2.1 hb1.2 (λ_=>⟨rfl,zkg hw (Kp.refl _ _) (Kp.refl _ _) X1 Y1 ht hi hn hK⟩) (λh1 h2=>by omega) (λh1 _ h2=>by omega) (λh1 _ h2=>by omega)
 ·exact z6m (Y.kept k2) HB hi.bku a (by omega) hb2.1 hb1.2 (λh=>by omega) (λ_ _ _=>⟨rfl,zkg hw k2 (Kp.refl _ _) X1 Y1 ht hi hn hK⟩) (λ_ h=>absurd ((zio ht a).1 hp) h) (λ_ h=>absurd ((zio ht a).1 hp) h)
 ·have hpY:¬zfm y a:=λh=>hp ((zio ht a).2 h)
  have k2s:=k2.size
  have A2:∀b,b<w1.heap.size→zmc own2 w2.heap.size b=zmc own w.heap.size b:=λb hb=>(zrb (by omega)).trans (a2 b hb)
  have X2':=XE.frame (own':=zmc own2 w2.heap.size) (w':=w2) ⟨_,_,_,_,_,_,_,X2⟩ (λ_ _ _=>rfl) (λb hb _=>zrb hb)
  have nine:∀g,w2.heap.size≤g→zmc own2 w2.heap.size g=zt:=λg hg=>zef (by omega)
  obtain⟨vL,vT,vG,sv,lg,Y,hl,hg⟩:=Y1.past k2 A2
  refine z6m Y HB hi.bku a (by omega) hb2.1 hb1.2 (λh=>by omega) (λ_ _ h=>absurd h hpY) (λ_ _ he=>⟨rfl,?_⟩) (λ_ _ hlt w3 own3 vG' x k3 a3 Y3 hb3 ho3=>⟨rfl,?_⟩)
  ·have ey:z5k y a=y:=by rw[he];simp[z5k]
   refine fin hw k2 A2 X2' (Kp.refl _ _) (λ_ _=>rfl) ⟨vL,vT,vG,sv,lg,Y,hl,hg⟩ ?_ hi (by omega) hK
   have:=ht.retained a (by omega) hl2 hs2
   rw[ey]at this
   exact this
  ·refine fin hw k2 A2 X2' k3 a3 ⟨_,_,_,_,_,Y3,?_,?_⟩ (ht.retained a (by omega) hl2 hs2) (hi.retained (by omega) (by omega) hpY) (by show y.txs.length≤nt+1;omega) hK
   ·show ((lg++[x]).length:Int)≤y.now+a
    rw[List.length_append]
    simp
    omega
   ·show z9g own3 w3 (lg++[x]) (if y.hor<a then y.lg++[zxb a.toNat] else y.lg)
    rw[if_pos hlt]
    refine (hg.past k3 a3 (by omega)).snoc (hb3.mono (Nat.zero_le _)) (λg e=>?_)
    rw[ho3 g e]
    exact nine g (hb3.lt g e).1
theorem z0y (hD:Duo own i w px py nt)(e a b:Int)(ha:-9223372036854775808≤a∧a≤9223372036854775807)(st tt:ByteArray)(vl vm:Value)
  (hK:∀w3 own3,Kp (Cap own i) w w3→(∀b,b<w.heap.size→own3 b=own b)→Duo own3 i w3 px py (nt+1)→R (.returned (.bool true)) w3) :
  Calls Tryz.prog 62 #[.pointer (some ⟨p,0,none⟩),zjb px py,zkb 13 e a b st tt vl vm] w R:=by
 obtain⟨s,y,hx,hy,ht,hi,hn⟩:=hD
 refine z9s w p px py e a b st tt vl vm ?_
 have hw:=zfd w px py 13 e a b st tt vl vm
 generalize zeb w px py 13 e a b st tt vl vm=w1 at hw ⊢
 have Y1:=hy.box hw
 obtain⟨mo,ph,mv,mm,pt,mw,sl,X⟩:=hx.box hw
 have hnm:=ht.nm
 have hb1:=hi.now
 refine z10 X a ha ⟨ht.momOk hi,ht.keysM hi,by omega⟩ (λw2 sl2 ks hs hmem k2 X2=>⟨_,rfl,low k2,?_⟩)
 obtain⟨vL,vT,vG,sv,lg,Y,hl,hg⟩:=Y1.past k2 (λ_ _=>rfl)
 refine z30 Y hi.small a ha.2 (λn w3 own3 y' vL' hv h1 h2 k3 a3 Y3=>?_)
 obtain⟨r1,r2,r3,r4,r5,r6⟩:=zp0 ht hi hs hmem hv h1 h2
 refine⟨by rw[r1],fin hw k2 (λ_ _=>rfl) ⟨_,_,_,_,_,_,_,X2⟩ k3 a3 ⟨_,_,_,_,_,Y3,by rw[r5,r6];exact hl,by rw[hv.same.1];exact hg.past k3 a3 (by omega)⟩ r2 r3 (by rw[r4];omega) hK⟩
variable {ds:List (Nat × Nat)}{vL vP vK:Value}{bk:BO}
theorem zt1 (h:Inv own w p ds vL vP vK bk nt)(hi:i<ds.length)(hnt:nt<1000000)(e a b:Int)(st tt:ByteArray)(vl vm:Value)
  (hK:∀w' own' vP' vK' bk',Kp (λb=>own b≠zt) w w'→(∀b,b<w.heap.size→own' b=own b)→Inv own' w' p ds vL vP' vK' bk' (nt+1)→R (.returned (.bool true)) w') :
  Calls Tryz.prog 62 #[.pointer (some ⟨p,0,none⟩),zjb (ds[i]).1 (ds[i]).2,zkb 11 e a b st tt vl vm] w R:=by
 obtain⟨s,y,hx,hy,ht,hI,hn⟩:=h.duos i hi
 refine zjv w p _ _ e a b st tt vl vm ?_
 have hw:=zfd w (ds[i]).1 (ds[i]).2 11 e a b st tt vl vm
 generalize zeb w (ds[i]).1 (ds[i]).2 11 e a b st tt vl vm=w1 at hw ⊢
 obtain⟨mo,ph,mv,mm,pt,mw,sl,X⟩:=hx.box hw
 obtain⟨vL',vT,vG,sv,lg,Y,hl,_⟩:=hy.box hw
 obtain⟨av,cap,hvL,_⟩:=zr Y.rowL
 have hnm:=ht.nm
 have hnow:=hI.now
 have hn1:=ht.now
 have hh1:=ht.hor
 have hsm:=hI.len
 have C:∀{w2:World},Kp (λ_=>False) w1 w2→w2.cell? ⟨(ds[i]).2,0,none⟩=some (.slice av y.l.length cap)∧w2.cell? ⟨(ds[i]).2,1,none⟩=some (.int .i64 y.hor)∧w2.cell? ⟨(ds[i]).2,2,none⟩=some (.int .i64 y.now):=λk2=>
  ⟨(zg (Y.kept k2).store 0).trans (by rw[← hvL];rfl),zg (Y.kept k2).store 1,zg (Y.kept k2).store 2⟩
 have W:∀{w3:World},Kp (λ_=>False) w1 w3→w3.ownsRow 0 193 4 (.slice av y.l.length cap) y.l.length (zo y.l):=λk=>by
  have:=(Y.kept k).rowL
  rw[hvL]at this
  exact this
 refine zx2 a st tt (zfy X a st tt (by omega) (ht.momOk hI) (ht.keysM hI) (λq1=>⟨_,_,rfl,?_⟩) (λq1 q2=>⟨_,_,rfl,?_⟩) (λq1 q2 w2 v ks k2 hsort hmem hlen hrow=>⟨_,_,rfl,?_⟩))
 ·refine⟨_,_,y.hor,y.now,av,_,cap,rfl,Kp.refl _ _,(C (Kp.refl _ _)).1,(C (Kp.refl _ _)).2.1,(C (Kp.refl _ _)).2.2,λw3 k3=>?_⟩
  refine zdl y.l _ y.hor y.now a st tt _ (ht.told hI a) hI.small (W k3) (λ_=>⟨_,rfl,k3,?_⟩) (λh=>by omega) (λh=>by omega)
  exact zuj h hnt (hw.trans k3 (λ_ _ h=>h)) (.slice none 0 0) (.slice none 0 0) 0 [] 6 (by omega) (World.ownsRow_nil _ _ _ _) (World.ownsRow_nil _ _ _ _) hK
 ·refine⟨_,_,y.hor,y.now,av,_,cap,rfl,Kp.refl _ _,(C (Kp.refl _ _)).1,(C (Kp.refl _ _)).2.1,(C (Kp.refl _ _)).2.2,λw3 k3=>?_⟩
  refine zdl y.l _ y.hor y.now a st tt _ (ht.told hI a) hI.small (W k3) (λh=>by omega) (λ_ _=>⟨_,rfl,k3,?_⟩) (λ_ h=>by omega)
  exact zuj h hnt (hw.trans k3 (λ_ _ h=>h)) (.slice none 0 0) (.slice none 0 0) 0 [] 7 (by omega) (World.ownsRow_nil _ _ _ _) (World.ownsRow_nil _ _ _ _) hK
 ·refine⟨_,_,y.hor,y.now,av,_,cap,rfl,kpF k2,(C k2).1,(C k2).2.1,(C k2).2.2,λw3 k3=>?_⟩
  refine zdl y.l _ y.hor y.now a st tt _ (ht.told hI a) hI.small (W (k2.trans k3 (λ_ _ h=>h))) (λh=>by omega) (λ_ h=>by omega) (λ_ _ w4 v' ks' k4 hsort' hmem' hlen' hrow'=>⟨v',rfl,k3.trans k4 (λ_ _ h=>h),?_⟩)
  have hks:ks'=ks:=zii hsort' hsort (λk=>by rw[hmem,hmem',ht.mom,zxj])
  subst hks
  have hlf:=List.length_filterMap_le (zdb (λk=>zvb s k a)) ks'
  have k34:=k3.trans k4 (λ_ _ h=>h)
  have hrow4:=zi hrow k34 (λ_ _ h=>h)
  refine zuj h hnt ((hw.trans k2 (λ_ _ h=>h)).trans k34 (λ_ _ h=>h)) v v' _ _ 0 (by omega) ⟨hrow4.1,hrow4.2.imp id (λ⟨g,cap,cur,e1,e2,e3⟩=>⟨g,cap,cur,e1,Nat.le_trans hw.size e2,e3⟩)⟩ ⟨hrow'.1,hrow'.2.imp id (λ⟨g,cap,cur,e1,_,e3⟩=>⟨g,cap,cur,e1,Nat.zero_le _,e3⟩)⟩ hK
theorem zc3 (h:Inv own w p ds vL vP vK bk nt)(hi:i<ds.length)(hnt:nt<1000000)(kind e a b:Int)(hk:10≤kind∧kind≤14)(ha:-9223372036854775808≤a∧a≤9223372036854775807)(st tt:ByteArray)(hst:st.size≤maxLen)(vl vm:Value)
  (hK:∀w' own' vP' vK' bk',Kp (λb=>own b≠zt) w w'→(∀b,b<w.heap.size→own' b=own b)→Inv own' w' p ds vL vP' vK' bk' (nt+1)→R (.returned (.bool true)) w') :
  Calls Tryz.prog 62 #[.pointer (some ⟨p,0,none⟩),zjb (ds[i]).1 (ds[i]).2,zkb kind e a b st tt vl vm] w R:=by
 have hD:=h.duos i hi
 have hn':nt<100000000:=by omega
 have K:∀w3 own3,Kp (Cap own i) w w3→(∀b,b<w.heap.size→own3 b=own b)→Duo own3 i w3 (ds[i]).1 (ds[i]).2 (nt+1)→R (.returned (.bool true)) w3:=λw3 own3 k a d=>hK w3 own3 vP vK bk (k.mono (λ_ _ h=>zkm h)) a (h.touch hi k a d)
 rcases (by omega:kind=10∨kind=11∨kind=12∨kind=13∨kind=14) with rfl|rfl|rfl|rfl|rfl
 ·exact z42 hD e a b st tt hst vl vm K
 ·exact zt1 h hi hnt e a b st tt vl vm hK
 ·exact zyy hD h.tab (h.tabN i) hn' e a b st tt vl vm K
 ·exact z0y hD e a b ha st tt vl vm K
 ·exact zzy hD e a b st tt vl vm K
end
end
section
open Go.RowKit Go.Maps Go.Lib
structure RS where
 bs:List UInt8
 wr:Bool
def RS.bad (s:RS):RS:={ s with wr:=true }
def RS.take (s:RS)(n:Nat):Option (List UInt8) × RS:=if s.wr=true∨s.bs.length<n then (none,s.bad) else (some (s.bs.take n),⟨s.bs.drop n,false⟩)
def RS.one (s:RS):Nat × RS:=(match (s.take 1).1 with|some l=>(l.getD 0 0).toNat|none=>0,(s.take 1).2)
def le4 (l:List UInt8):Nat:=(l.getD 0 0).toNat+256*(l.getD 1 0).toNat+65536*(l.getD 2 0).toNat+16777216*(l.getD 3 0).toNat
def RS.four (s:RS):Nat × RS:=(match (s.take 4).1 with|some l=>le4 l|none=>0,(s.take 4).2)
def RS.text (s:RS):List UInt8 × RS:=((((s.one).2.take (s.one).1).1).getD [],((s.one).2.take (s.one).1).2)
def RdC (w:World)(v:Value)(bs:List UInt8)(g:Nat):Prop:=
 ∃o cap,v = .slice (some ⟨g,o,none⟩) bs.length cap∧bs.length≤cap∧∀j,j<bs.length→w.cell? ⟨g,o+j,none⟩=some (b8 (bs.getD j 0))
theorem RdC.rd {w:World}{v:Value}{bs:List UInt8}{g:Nat}(h:RdC w v bs g):RdB w v bs:=by
 obtain⟨o,cap,rfl,_,hc⟩:=h
 exact⟨_,cap,rfl,λ_=>⟨g,o,rfl,hc⟩⟩
theorem RdC.kp {S:Nat→Prop}{w w':World}{v:Value}{bs:List UInt8}{g:Nat}(h:RdC w v bs g)(hk:Kp S w w')(hs:¬S g):RdC w' v bs g:=by
 obtain⟨o,cap,rfl,hl,hc⟩:=h
 exact⟨o,cap,rfl,hl,λj hj=>(hk.cell (World.block_lt_of_cell? _ _ (hc j hj)) hs).trans (hc j hj)⟩
theorem RdC.kept {w w':World}{v:Value}{bs:List UInt8}{g:Nat}(h:RdC w v bs g)(hk:Kp (λ_=>False) w w'):RdC w' v bs g:=h.kp hk (λe=>e)
structure zgc (w:World)(r:Nat)(s:RS)(v:Value)(g:Nat):Prop where
 blk:w.heap[r]?=some (.cells #[v,.bool s.wr] 303 (0,0))
 rd:RdC w v s.bs g
 ne:g≠r
 lt:g<w.heap.size
theorem zgc.kp {S:Nat→Prop}{w w':World}{r:Nat}{s:RS}{v:Value}{g:Nat}(h:zgc w r s v g)(hk:Kp S w w')(h1:¬S r)(h2:¬S g):zgc w' r s v g:=
 ⟨(hk.block r (zh h.blk) h1).trans h.blk,h.rd.kp hk h2,h.ne,Nat.lt_of_lt_of_le h.lt hk.size⟩
theorem zgc.wrong {w:World}{r:Nat}{s:RS}{v:Value}{g:Nat}(h:zgc w r s v g):zgc (w.setCell ⟨r,1,none⟩ (.bool true)) r s.bad v g:=
 ⟨zn h.blk _,h.rd.kp (Kp.setCell (S:=λb=>b=r) w _ _ rfl) h.ne,h.ne,Nat.lt_of_lt_of_le h.lt (Kp.setCell (S:=λb=>b=r) w _ _ rfl).size⟩
theorem zgc.on {w:World}{r:Nat}{s:RS}{v v':Value}{g:Nat}(h:zgc w r s v g)(hw:s.wr=false){bs:List UInt8}(h':RdC w v' bs g):zgc (w.setCell ⟨r,0,none⟩ v') r ⟨bs,false⟩ v' g:=
 ⟨by rw[← hw];exact zn h.blk _,h'.kp (Kp.setCell (S:=λb=>b=r) w _ _ rfl) h.ne,h.ne,Nat.lt_of_lt_of_le h.lt (Kp.setCell (S:=λb=>b=r) w _ _ rfl).size⟩
theorem RdC.take {w:World}{g o cap:Nat}{bs:List UInt8}(hl:bs.length≤cap)(hc:∀j,j<bs.length→w.cell? ⟨g,o+j,none⟩=some (b8 (bs.getD j 0)))(n:Nat)(hn:n≤bs.length):RdC w (.slice (some ⟨g,o,none⟩) n cap) (bs.take n) g:=
 ⟨o,cap,by rw[List.length_take,Nat.min_eq_left hn],by rw[List.length_take];omega,λj hj=>by
  rw[List.length_take]at hj
  have hj1:j<n:=by omega
  rw[hc j (by omega)];simp[List.getD,hj1]⟩
theorem RdC.drop {w:World}{g o cap:Nat}{bs:List UInt8}(hl:bs.length≤cap)(hc:∀j,j<bs.length→w.cell? ⟨g,o+j,none⟩=some (b8 (bs.getD j 0)))(n:Nat)(hn:n≤bs.length):RdC w (.slice (some ⟨g,o+n,none⟩) (bs.length-n) (cap-n)) (bs.drop n) g:=
 ⟨o+n,cap-n,by rw[List.length_drop],by rw[List.length_drop];omega,λj hj=>by
  rw[List.length_drop]at hj
  rw[Nat.add_assoc,hc (n+j) (by omega)];simp[List.getD]⟩
theorem RdC.dropAll {w:World}{g o:Nat}{bs:List UInt8}(n:Nat)(hn:n=bs.length):RdC w (.slice (some ⟨g,o,none⟩) 0 0) (bs.drop n) g:=by
 subst hn
 exact⟨o,0,by simp,by simp,λj hj=>by simp at hj⟩
section
variable {R:Ending→World→Prop}
set_option maxRecDepth 20000 in
set_option maxHeartbeats 1000000 in
theorem z2m (r:Nat)(s:RS)(v:Value)(g n:Nat)(w:World)(h:zgc w r s v g)(hn:n≤1100000)(hl:s.bs.length≤1100000)
  (h1:(s.take n).1=none→zgc (w.setCell ⟨r,1,none⟩ (.bool true)) r (s.take n).2 v g→R (.returned (.slice none 0 0)) (w.setCell ⟨r,1,none⟩ (.bool true)))
  (h2:∀l v1 v2,(s.take n).1=some l→l.length=n→zgc (w.setCell ⟨r,0,none⟩ v2) r (s.take n).2 v2 g→RdC (w.setCell ⟨r,0,none⟩ v2) v1 l g→R (.returned v1) (w.setCell ⟨r,0,none⟩ v2)) :
  Calls Tryz.prog 205 #[.pointer (some ⟨r,0,none⟩),.int .i64 n] w R:=by
 have H:=ze h
 obtain⟨o,cap,rfl,hcap,hc⟩:=h.rd
 have c0:w.cell? ⟨r,0,none⟩=some (.slice (some ⟨g,o,none⟩) s.bs.length cap):=zg h.blk 0
 have c1:w.cell? ⟨r,1,none⟩=some (.bool s.wr):=zg h.blk 1
 have f0:=zj h.blk 0
 have f1:=zj h.blk 1
 have HC:=ze hc
 have hn':(n:Int)≤1100000:=by omega
 have hl':(s.bs.length:Int)≤1100000:=by omega
 by_cases q:s.wr=true∨s.bs.length<n
 ·have e:s.take n=(none,s.bad):=by simp[RS.take,q]
  rw[e]at h1
  have HR:=ze (h1 rfl h.wrong)
  clear h h1 h2 hc e
  by_cases q1:s.wr=true
  ·rw[q1]at c1
   clear q
   go_enter Tryz.func205,Tryz.ntmps205
   go_wp2_with fail
   exact HR.out
  ·have q2:(s.bs.length:Int)<n:=q.elim (λe=>absurd e q1) (λe=>by omega)
   have q3:s.wr=false:=by simpa using q1
   rw[q3]at c1
   clear q q1
   go_enter Tryz.func205,Tryz.ntmps205
   go_wp2_with fail
   exact HR.out
 ·have e:s.take n=(some (s.bs.take n),⟨s.bs.drop n,false⟩):=by simp[RS.take,q]
  have q1:s.wr=false:=by cases hw:s.wr<;>simp_all
  have q2:n≤s.bs.length:=by omega
  have q3:¬(s.bs.length:Int)<n:=by omega
  have q4:n≤cap:=by omega
  rw[e]at h2
  have HR:=ze h2
  have Q1:=ze q1
  have HCAP:=ze hcap
  have HL:=ze hl
  rw[q1]at c1
  by_cases q5:cap=n
  ·have q6:s.bs.length=n:=by omega
   have e0:RdC w (.slice (some ⟨g,o,none⟩) 0 0) (s.bs.drop n) g:=RdC.dropAll n q6.symm
   have HF:=ze (HR.out (s.bs.take n) (.slice (some ⟨g,o,none⟩) n cap) (.slice (some ⟨g,o,none⟩) 0 0) rfl (by rw[List.length_take];omega) (h.on q1 e0) ((RdC.take hcap hc n q2).kp (Kp.setCell (S:=λb=>b=r) w _ _ rfl) h.ne))
   clear h h1 h2 e q hc
   subst q5
   rw[q6]at c0
   clear q2 q3 hcap hl hl'
   go_enter Tryz.func205,Tryz.ntmps205
   go_wp2_with fail
   exact HF.out
  ·have e0:=RdC.drop (w:=w) (g:=g) (o:=o) hcap hc n q2
   have HF:=ze (HR.out (s.bs.take n) (.slice (some ⟨g,o,none⟩) n cap) _ rfl (by rw[List.length_take];omega) (h.on q1 e0) ((RdC.take hcap hc n q2).kp (Kp.setCell (S:=λb=>b=r) w _ _ rfl) h.ne))
   clear h h1 h2 e q hc
   go_enter Tryz.func205,Tryz.ntmps205
   go_wp2_with fail
   exact HF.out
set_option maxRecDepth 20000 in
set_option maxHeartbeats 1000000 in
theorem ztf (r:Nat)(s:RS)(v:Value)(g:Nat)(w:World)(h:zgc w r s v g)(hl:s.bs.length≤1100000)
  (hR:∀w' v',zgc w' r s.one.2 v' g→Kp (λb=>b=r) w w'→R (.returned (.int .i64 (s.one.1:Nat))) w') :
  Calls Tryz.prog 206 #[.pointer (some ⟨r,0,none⟩)] w R:=by
 have H:=ze h
 have HL:=ze hl
 have HR:=ze hR
 clear h hl hR
 go_enter Tryz.func206,Tryz.ntmps206
 go_wp2_with (first
  |(go_at_call 205;refine z2m r s v g 1 w H.out (by omega) HL.out ?_ ?_)
  |fail)
 ·intro e hr
  have HF:=ze (HR.out _ v (by unfold RS.one;exact hr) (Kp.setCell w _ _ rfl))
  have e1:s.one.1=0:=by simp[RS.one,e]
  rw[e1]at HF
  clear hr
  go_wp2_with fail
  exact HF.out
 ·intro l v1 v2 e hlen hr hrd
  have HF:=ze (HR.out _ v2 (by unfold RS.one;exact hr) (Kp.setCell w _ _ rfl))
  have e1:s.one.1=(l.getD 0 0).toNat:=by simp[RS.one,e]
  rw[e1]at HF
  obtain⟨o,cap,rfl,hcap,hc⟩:=hrd
  have hc0:=hc 0 (by omega)
  rw[hlen]
  generalize hx:l.getD 0 0=x at HF hc0
  have hx2:=x.toNat_lt
  simp only[b8,Nat.add_zero]at hc0
  clear hr hc hx
  go_wp2_with fail
  exact HF.out
end
end
end Go.Proofs.YthbdpfccfcceiaaGreatDoor
