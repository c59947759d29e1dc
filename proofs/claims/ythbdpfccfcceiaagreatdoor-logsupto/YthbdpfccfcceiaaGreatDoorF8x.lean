/-
  Of the proof of logsUpto_card.
-/
import Derived.Test.YthbdpfccfcceiaaGreatDoorF5x
namespace Go.Proofs.YthbdpfccfcceiaaGreatDoor
section
open Go.RowKit Go.Maps Go.Lib
def zlc (bs:List UInt8)(n:Nat):Option (List UInt8 × List UInt8):=
 if bs.length<n+4∨le4 ((bs.drop n).take 4)≠z5c (bs.take n) then none else some (bs.take n,bs.drop (n+4))
section
variable {R:Ending→World→Prop}
set_option maxRecDepth 20000 in
theorem zod (a:Option Addr)(n c:Nat)(w:World)
  (hR:R (.returned (.pointer (some ⟨w.heap.size,0,none⟩))) (w.alloc (.cells #[.slice a n c,.bool false] 303))) :
  Calls Tryz.prog 144 #[.slice a n c] w R:=by
 have HR:=ze hR
 clear hR
 go_enter Tryz.func144,Tryz.ntmps144
 go_wp2_with fail
 exact HR.out
theorem zte {w:World}{v:Value}{bs:List UInt8}{g:Nat}(h:RdC w v bs g)(hg:g<w.heap.size):zgc (w.alloc (.cells #[v,.bool false] 303)) w.heap.size ⟨bs,false⟩ v g:=
 ⟨heap_alloc_new w _,h.kept (Kp.alloc _ _ _),by omega,Nat.lt_of_lt_of_le hg (Kp.alloc (λ_=>False) w _).size⟩
set_option maxRecDepth 20000 in
set_option maxHeartbeats 1000000 in
theorem z1n (v:Value)(bs:List UInt8)(g n:Nat)(w:World)(h:RdC w v bs g)(hg:g<w.heap.size)(hT:Tab w)(hn:n≤100000)(hl:bs.length≤1100000)
  (h1:zlc bs n=none→∀w',Kp (λ_=>False) w w'→R (.returned (.tuple #[.slice none 0 0,.slice none 0 0,.bool false])) w')
  (h2:∀v1 v2 w',zlc bs n=some (bs.take n,bs.drop (n+4))→RdC w' v1 (bs.take n) g→RdC w' v2 (bs.drop (n+4)) g→Kp (λ_=>False) w w'→R (.returned (.tuple #[v1,v2,.bool true])) w') :
  Calls Tryz.prog 173 #[v,.int .i64 n] w R:=by
 obtain⟨o,cap,rfl,hcap,hc⟩:=h
 have hn':(n:Int)≤100000:=by omega
 have hl':(bs.length:Int)≤1100000:=by omega
 by_cases q:bs.length<n+4
 ·have e:zlc bs n=none:=by simp[zlc,q]
  have HF:=ze (h1 e w (Kp.refl _ _))
  have q':(bs.length:Int)<(n:Int)+4:=by omega
  clear h1 h2 e q hc hT
  go_enter Tryz.func173,Tryz.ntmps173
  go_wp2_with fail
  refine bodyPost_ret (results_tmp3 rfl _ _ _) rfl ?_
  exact HF.out
 ·have q':¬(bs.length:Int)<(n:Int)+4:=by omega
  have H1:=ze h1
  have H2:=ze h2
  have HT:=ze hT
  have HC:=ze hc
  have HCAP:=ze hcap
  have HG:=ze hg
  have HL:=ze hl
  have HQ:=ze q
  have q2:n≤cap:=by omega
  have q3:n+4≤cap:=by omega
  have HT1:Hid (RdC w (.slice (some ⟨g,o,none⟩) n cap) (bs.take n) g):=RdC.take hcap hc n (by omega)
  have HT2:Hid (RdC w (.slice (some ⟨g,o+n,none⟩) 4 (cap-n)) ((bs.drop n).take 4) g):=by
   obtain⟨o2,c2,e1,e2,e3⟩:=RdC.drop (w:=w) (g:=g) (o:=o) hcap hc n (by omega)
   injection e1 with e1 e4 e5
   injection e1 with e1
   injection e1 with _ e1
   subst e1;subst e5
   exact RdC.take e2 e3 4 (by rw[List.length_drop];omega)
  have HFR:Hid ((⟨(bs.drop n).take 4,false⟩:RS).four.1=le4 ((bs.drop n).take 4)):=by
   simp only[Hid,RS.four,RS.take]
   rw[if_neg (by simp;omega)]
   simp[List.take_take]
  have hw4:IntKind.i64.wrap ((n:Int)+4)=(n:Int)+4:=IntWalk.i64_in _ (by omega)
  have hw5:(0:Int)≤(n:Int)+4:=by omega
  have hw6:(n:Int)+4≤bs.length:=by omega
  by_cases qs:le4 ((bs.drop n).take 4)=z5c (bs.take n)
  ·have e:zlc bs n=some (bs.take n,bs.drop (n+4)):=by simp[zlc,q,qs]
   have HF:∀v2 w',RdC w v2 (bs.drop (n+4)) g→Kp (λ_=>False) w w'→R (.returned (.tuple #[.slice (some ⟨g,o,none⟩) n cap,v2,.bool true])) w':=λv2 w' hv hk=>h2 _ _ _ e (HT1.out.kept hk) (hv.kept hk) hk
   by_cases q5:cap=n+4
   ·have HF2:=ze (HF (.slice (some ⟨g,o,none⟩) 0 0) · (RdC.dropAll (n+4) (by omega)))
    rw[qs]at HFR
    have q6:bs.length=n+4:=by omega
    clear h1 h2 hc hT hcap hg hl q hn HF e qs q' q3 hw6
    subst q5
    rw[q6]
    rw[show n+4-n=4 by omega]at HT2
    go_enter Tryz.func173,Tryz.ntmps173
    go_wp2_with (first
    |(go_at_call 144;refine zod _ _ _ _ ?_)
    |(go_at_call 174;refine zff w.heap.size ⟨(bs.drop n).take 4,false⟩ _ g _ (zte HT2.out HG.out) (by simp;omega) ?_;intro w1 v1 hr1 hk1;rw[HFR.out];have HKA:Hid (Kp (λ_=>False) w w1):=((Kp.alloc (λ_=>False) w _).trans hk1 (λb hb e=>by omega));clear hr1 hk1)
    |(go_at_call 204;refine (zxn _ (bs.take n) _ (HT.out.kept HKA.out) (by simp;have:=HL.out;omega) (HT1.out.rd.kept HKA.out)).mono ?_;rintro e w' ⟨rfl,rfl⟩)
    |fail)
    go_region_law fail
    all_goals
     go_wp2_with fail
     refine bodyPost_ret (results_tmp3 rfl _ _ _) rfl ?_
     exact HF2.out _ (HKA.out.trans (Kp.drew _ _) (λ_ _ h=>h))
   ·have HF2:=ze (HF _ · (RdC.drop (w:=w) (g:=g) (o:=o) hcap hc (n+4) (by omega)))
    rw[qs]at HFR
    clear h1 h2 hc hT hcap hg hl q hn HF e qs
    go_enter Tryz.func173,Tryz.ntmps173
    go_wp2_with (first
    |(go_at_call 144;refine zod _ _ _ _ ?_)
    |(go_at_call 174;refine zff w.heap.size ⟨(bs.drop n).take 4,false⟩ _ g _ (zte HT2.out HG.out) (by simp;omega) ?_;intro w1 v1 hr1 hk1;rw[HFR.out];have HKA:Hid (Kp (λ_=>False) w w1):=((Kp.alloc (λ_=>False) w _).trans hk1 (λb hb e=>by omega));clear hr1 hk1)
    |(go_at_call 204;refine (zxn _ (bs.take n) _ (HT.out.kept HKA.out) (by simp;have:=HL.out;omega) (HT1.out.rd.kept HKA.out)).mono ?_;rintro e w' ⟨rfl,rfl⟩)
    |fail)
    go_region_law fail
    all_goals
     go_wp2_with fail
     refine bodyPost_ret (results_tmp3 rfl _ _ _) rfl ?_
     exact HF2.out _ (HKA.out.trans (Kp.drew _ _) (λ_ _ h=>h))
  ·have e:zlc bs n=none:=by simp[zlc,qs]
   have HF:=ze (h1 e)
   clear h1 h2 hc hT hcap hg hl q hn e
   generalize le4 ((bs.drop n).take 4)=x at HFR qs
   generalize hy:z5c (bs.take n)=y at qs
   have hx:((x:Int) == (y:Int))=false:=by simp;omega
   go_enter Tryz.func173,Tryz.ntmps173
   go_wp2_with (first
    |(go_at_call 144;refine zod _ _ _ _ ?_)
    |(go_at_call 174;refine zff w.heap.size ⟨(bs.drop n).take 4,false⟩ _ g _ (zte HT2.out HG.out) (by simp;omega) ?_;intro w1 v1 hr1 hk1;rw[HFR.out];have HKA:Hid (Kp (λ_=>False) w w1):=((Kp.alloc (λ_=>False) w _).trans hk1 (λb hb e=>by omega));clear hr1 hk1)
    |(go_at_call 204;refine (zxn _ (bs.take n) _ (HT.out.kept HKA.out) (by simp;have:=HL.out;omega) (HT1.out.rd.kept HKA.out)).mono ?_;rintro e w' ⟨rfl,rfl⟩)
    |fail)
   refine bodyPost_ret (results_tmp3 rfl _ _ _) rfl ?_
   exact HF.out _ HKA.out
set_option maxRecDepth 20000 in
set_option maxHeartbeats 400000 in
theorem z6r (p:Option Addr)(len cap n:Nat)(w:World)(hn:n≤100000)(q:len<n+4)
  (hR:R (.returned (.tuple #[.slice none 0 0,.slice none 0 0,.bool false])) w) :
  Calls Tryz.prog 173 #[.slice p len cap,.int .i64 n] w R:=by
 have HF:=ze hR
 have q':(len:Int)<(n:Int)+4:=by omega
 have hn':(n:Int)≤100000:=by omega
 have hl':(len:Int)≤1100000:=by omega
 clear hR q
 go_enter Tryz.func173,Tryz.ntmps173
 go_wp2_with fail
 refine bodyPost_ret (results_tmp3 rfl _ _ _) rfl ?_
 exact HF.out
def RdN (w:World)(v:Value)(bs:List UInt8)(g:Nat):Prop:=
 ∃p cap,v = .slice p bs.length cap∧bs.length≤cap∧(bs≠[]→g<w.heap.size∧∃o,p=some ⟨g,o,none⟩∧∀j,j<bs.length→w.cell? ⟨g,o+j,none⟩=some (b8 (bs.getD j 0)))
theorem RdN.kp {S:Nat→Prop}{w w':World}{v:Value}{bs:List UInt8}{g:Nat}(h:RdN w v bs g)(hk:Kp S w w')(hs:¬S g):RdN w' v bs g:=by
 obtain⟨p,cap,rfl,hl,hc⟩:=h
 refine⟨p,cap,rfl,hl,λhb=>?_⟩
 obtain⟨hg,o,rfl,hc2⟩:=hc hb
 exact⟨Nat.lt_of_lt_of_le hg hk.size,o,rfl,λj hj=>(hk.cell (World.block_lt_of_cell? _ _ (hc2 j hj)) hs).trans (hc2 j hj)⟩
theorem RdN.rdc {w:World}{v:Value}{bs:List UInt8}{g:Nat}(h:RdN w v bs g)(hb:bs≠[]):RdC w v bs g∧g<w.heap.size:=by
 obtain⟨p,cap,rfl,hl,hc⟩:=h
 obtain⟨hg,o,rfl,hc2⟩:=hc hb
 exact⟨⟨o,cap,rfl,hl,hc2⟩,hg⟩
theorem zjt (v:Value)(bs:List UInt8)(g n:Nat)(w:World)(h:RdN w v bs g)(hT:Tab w)(hn:n≤100000)(hl:bs.length≤1100000)
  (h1:zlc bs n=none→∀w',Kp (λ_=>False) w w'→R (.returned (.tuple #[.slice none 0 0,.slice none 0 0,.bool false])) w')
  (h2:∀v1 v2 w',zlc bs n=some (bs.take n,bs.drop (n+4))→g<w.heap.size→RdC w' v1 (bs.take n) g→RdC w' v2 (bs.drop (n+4)) g→Kp (λ_=>False) w w'→R (.returned (.tuple #[v1,v2,.bool true])) w') :
  Calls Tryz.prog 173 #[v,.int .i64 n] w R:=by
 by_cases hb:bs=[]
 ·obtain⟨p,cap,rfl,_,_⟩:=h
  subst hb
  exact z6r p _ cap n w hn (by simp) (h1 (by simp[zlc]) w (Kp.refl _ _))
 ·obtain⟨hc,hg⟩:=h.rdc hb
  exact z1n v bs g n w hc hg hT hn hl h1 (λv1 v2 w' e r1 r2 hk=>h2 v1 v2 w' e hg r1 r2 hk)
end
end
section
open Go.RowKit Go.Maps Go.Lib
theorem zcp (bs:List UInt8)(i:Nat):(bs.map λb=>(b.toNat:Int)).getD i 0=((bs.getD i 0).toNat:Int):=by
 simp only[List.getD,List.getElem?_map]
 cases bs[i]?<;>simp
theorem zwn (bs:List UInt8):Lib.bytesOf (bs.map λb=>(b.toNat:Int))=bs:=by
 simp[Lib.bytesOf,Function.comp_def]
def z6d (bs:List UInt8):Option Nat:=match zlc bs 7 with
 |none=>none
 |some (c,_)=>if [80,76,49].isPrefixOf c then some (le4 (c.drop 3)) else none
section
variable {R:Ending→World→Prop}
theorem zsq (v:Value)(bs:List UInt8)(g:Nat)(ob:List UInt8)(g1 c1:Nat)(w:World)(h:RdC w v bs g)(hob:∀j,j<ob.length→w.cell? ⟨g1,0+j,none⟩=some (b8 (ob.getD j 0)))
  (h1:ob.isPrefixOf bs=false→∀v',R (.returned (.tuple #[v',.bool false])) w)
  (h2:ob.isPrefixOf bs=true→∀v',RdC w v' (bs.drop ob.length) g→R (.returned (.tuple #[v',.bool true])) w) :
  Calls Tryz.prog 142 #[v,.slice (some ⟨g1,0,none⟩) ob.length c1] w R:=by
 obtain⟨o,cap,rfl,hcap,hc⟩:=h
 refine (Tryz.bytes_CutPrefix g o bs.length cap g1 0 ob.length c1 (bs.map λb=>(b.toNat:Int)) (ob.map λb=>(b.toNat:Int)) w (by simp) (by simp) hcap (λj hj=>?_) (λj hj=>?_)).mono ?_
 ·rw[zcp];exact hc j hj
 ·rw[zcp];exact hob j hj
 ·rintro e w' ⟨rfl,rfl⟩
  unfold Lib.bytesTrimPrefix
  rw[zwn,zwn]
  show R (.returned (.tuple #[_,.bool (ob.isPrefixOf bs)])) w'
  cases hp:ob.isPrefixOf bs with
  |false=>exact h1 hp _
  |true=>
   have hle:ob.length≤bs.length:=(List.isPrefixOf_iff_prefix.1 hp).length_le
   refine h2 hp _ ?_
   have e0:Lib.hasPrefix bs ob=true:=hp
   rw[if_pos e0]
   unfold Lib.sliceFrom
   rw[List.length_map]
   by_cases hcc:cap=ob.length
   ·rw[if_pos hcc]
    have e1:bs.length-ob.length=0:=by omega
    have e2:cap-ob.length=0:=by omega
    rw[e1,e2]
    exact RdC.dropAll ob.length (by omega)
   ·rw[if_neg hcc]
    exact RdC.drop (w:=w') (g:=g) (o:=o) hcap hc ob.length hle
theorem zxx (w:World):∀j,j<[80,76,49].length→(w.alloc (.cells #[.int .u8 80,.int .u8 76,.int .u8 49] 5 (3,4))).cell? ⟨w.heap.size,0+j,none⟩=some (b8 (([80,76,49]:List UInt8).getD j 0)):=λj hj=>by
 have hb:=heap_alloc_new w (.cells #[.int .u8 80,.int .u8 76,.int .u8 49] 5 (3,4))
 rw[Nat.zero_add]
 rcases (by simp at hj;omega:j=0∨j=1∨j=2) with rfl|rfl|rfl<;>exact zg hb _
set_option maxRecDepth 20000 in
set_option maxHeartbeats 1000000 in
theorem z9n (v:Value)(bs:List UInt8)(g:Nat)(w:World)(h:RdN w v bs g)(hT:Tab w)(hl:bs.length≤1100000)
  (h1:z6d bs=none→∀w',Kp (λ_=>False) w w'→R (.returned (.tuple #[.int .i64 0,.slice none 0 0,.bool false])) w')
  (h2:∀(n:Nat) v' w',z6d bs=some n→g<w.heap.size→RdC w' v' (bs.drop 11) g→Kp (λ_=>False) w w'→R (.returned (.tuple #[.int .i64 n,v',.bool true])) w') :
  Calls Tryz.prog 128 #[v] w R:=by
 have H:=ze h
 have HT:=ze hT
 have HL:=ze hl
 have H1:=ze h1
 have H2:=ze h2
 clear h hT hl h1 h2
 go_enter Tryz.func128,Tryz.ntmps128
 go_wp2_with (first
  |(go_at_call 173;refine zjt _ bs g 7 _ H.out HT.out (by omega) HL.out ?_ ?_)
  |fail)
 ·intro e w1 hk1
  have HF:=ze (H1.out (by simp[z6d,e]) w1 hk1)
  clear hk1
  go_wp2_with fail
  refine bodyPost_ret (results_tmp3 rfl _ _ _) rfl ?_
  exact HF.out
 ·intro v1 v2 w1 e hg hr1 hr2 hk1
  have h7:11≤bs.length:=by
   unfold zlc at e
   split at e
   ·cases e
   ·rename_i hq
    omega
  have hcv:=run_convert_bytes_const (P:=Tryz.prog) w1 48 5 #[.int .u8 80,.int .u8 76,.int .u8 49] 3 3 Tryz.underlying48 Tryz.underlying5
  obtain⟨o1,c1,rfl,hcap1,hc1⟩:=hr1
  obtain⟨o2,c2,rfl,hcap2,hc2⟩:=hr2
  have l7:(bs.take 7).length=7:=by simp;omega
  obtain⟨n2,hn2⟩:∃n,(bs.drop (7+4)).length=n:=⟨_,rfl⟩
  have HR1:Hid (RdC w1 (.slice (some ⟨g,o1,none⟩) 7 c1) (bs.take 7) g):=⟨o1,c1,by rw[l7],hcap1,hc1⟩
  have HR2:Hid (RdC w1 (.slice (some ⟨g,o2,none⟩) n2 c2) (bs.drop (7+4)) g):=⟨o2,c2,by rw[hn2],hcap2,hc2⟩
  have HK1:=ze hk1
  have HG:=ze hg
  have HE:=ze e
  have H7:=ze h7
  rw[l7,hn2]
  clear hc1 hc2 hcap1 hcap2 hk1 hg e h7 l7 hn2
  go_wp2_with (first
   |(go_at_call 142;refine zsq _ (bs.take 7) g [80,76,49] w1.heap.size 3 _ (HR1.out.kept (Kp.alloc _ _ _)) (zxx w1) ?_ ?_)
   |fail)
  ·intro hp v3
   have HF:=ze (H1.out (by simp only[z6d,HE.out];rw[hp];rfl) _ (HK1.out.trans (Kp.alloc (λ_=>False) w1 (.cells #[.int .u8 80,.int .u8 76,.int .u8 49] 5 (3,4))) (λ_ _ h=>h)))
   clear hp
   go_wp2_with fail
   refine bodyPost_ret (results_tmp3 rfl _ _ _) rfl ?_
   exact HF.out
  ·intro hp v3 hr3
   obtain⟨o3,c3,rfl,hcap3,hc3⟩:=hr3
   have l3:((bs.take 7).drop 3).length=4:=by have:=H7.out;simp;omega
   have HR3:Hid (RdC (w1.alloc (.cells #[.int .u8 80,.int .u8 76,.int .u8 49] 5 (3,4))) (.slice (some ⟨g,o3,none⟩) 4 c3) ((bs.take 7).drop 3) g):=⟨o3,c3,by rw[l3],hcap3,hc3⟩
   rw[l3]
   have e4:(⟨(bs.take 7).drop 3,false⟩:RS).four.1=le4 ((bs.take 7).drop 3):=by
    have:=H7.out
    simp only[RS.four,RS.take]
    rw[if_neg (by simp;omega)]
    rw[List.take_of_length_le (by simp;omega)]
   have HE4:=ze e4
   have HG3:Hid (g<(w1.alloc (.cells #[.int .u8 80,.int .u8 76,.int .u8 49] 5 (3,4))).heap.size):=by
    show _<_
    have:=HG.out;have:=HK1.out.size
    simp;omega
   have HL3:Hid (((bs.take 7).drop 3).length≤1100000):=by
    show _≤_
    rw[l3];omega
   have hlt:=z7w ((bs.take 7).drop 3)
   have HC:Hid (z6d bs=some (le4 ((bs.take 7).drop 3))):=by
    show _=_
    simp only[z6d,HE.out]
    rw[if_pos (by simpa using hp)]
   generalize le4 ((bs.take 7).drop 3)=x at HE4 HC hlt e4
   have hlt':(x:Int)<4294967296:=by omega
   have e64:wrap64 (x:Int)=(x:Int):=by
    have h64:IntKind.i64.wrap (x:Int)=(x:Int):=IntWalk.i64_in _ (by omega)
    exact IntWalk.i64_left _ ▸ h64
   have HF:=ze (λw'=>H2.out x (.slice (some ⟨g,o2,none⟩) n2 c2) w' HC.out HG.out)
   clear hc3 hcap3 hp e4 hlt l3
   have kX:=Kp.alloc (λ_=>False) w1 (.cells #[.int .u8 80,.int .u8 76,.int .u8 49] 5 (3,4))
   generalize w1.alloc (.cells #[.int .u8 80,.int .u8 76,.int .u8 49] 5 (3,4))=A at HR3 HG3 kX ⊢
   have KX:=ze kX
   clear kX
   go_wp2_with (first
    |(go_at_call 144;refine zod _ _ _ _ ?_)
    |(go_at_call 174;refine zff _ ⟨(bs.take 7).drop 3,false⟩ _ g _ (zte HR3.out HG3.out) HL3.out ?_;intro w4 v4 hr4 hk4;rw[HE4.out];have HK4:=ze hk4;clear hr4 hk4)
    |fail)
   have kA:Kp (λ_=>False) w1 w4:=KX.out.trans ((Kp.alloc (λb=>b=A.heap.size) A _).trans HK4.out (λ_ _ h=>h)) (λb hb e=>by have:=KX.out.size;omega)
   refine bodyPost_ret (results_tmp3 rfl _ _ _) rfl ?_
   first
    |exact HF.out _ (HR2.out.kept kA) (HK1.out.trans kA (λ_ _ h=>h))
    |(rw[e64];exact HF.out _ (HR2.out.kept kA) (HK1.out.trans kA (λ_ _ h=>h)))
end
end
section
open Go.RowKit Go.Maps Go.Lib
def RS.writes (s:RS):Nat→List (ByteArray × ByteArray × Bool) × RS
 |0=>([],s)
 |n+1=>((s.writes n).1++[((s.writes n).2.key.1,(s.writes n).2.key.2.ver.1)],(s.writes n).2.key.2.ver.2)
theorem RS.writes_length (s:RS):∀n,(s.writes n).1.length=n
 |0=>rfl
 |n+1=>by simp[RS.writes,s.writes_length n]
theorem RS.key_len (s:RS):s.key.2.bs.length≤s.bs.length:=by
 have h:=s.text_len
 unfold RS.key
 dsimp only
 split
 ·exact h
 ·exact h
theorem RS.ver_len (s:RS):s.ver.2.bs.length≤s.bs.length:=by
 have h:=s.one_len
 have h2:=s.one.2.text_len
 unfold RS.ver
 split
 ·dsimp only
  split
  ·omega
  ·show s.one.2.text.2.bs.length≤_;omega
 ·split
  ·exact h
  ·exact h
theorem RS.writes_len (s:RS):∀n,(s.writes n).2.bs.length≤s.bs.length
 |0=>Nat.le_refl _
 |n+1=>Nat.le_trans (Nat.le_trans (RS.ver_len _) (RS.key_len _)) (s.writes_len n)
section
variable {R:Ending→World→Prop}
theorem z0v {ops:Array Oper}{rest:List Oper}{o:Oper}{a:Act}{Q:Exit→Act→World→Prop}(w:World)(hgd:o.guard=none)(s x:Operand)
  (ho:o.op = .call { callee:=.builtin .append,args:=#[s,x],argTypes:=#[108,108] })
  (base:Nat) (v:Value) (n:Nat) (xs:List Value) (hs:a.eval s=v) (hown:w.ownsRow base 153 3 v n xs) (g:Nat) (u1 u2 u3:Value) (hx:a.eval x = .slice (some ⟨g,0,none⟩) 1 1) (hu:w.heap[g]?=some (.cells #[u1,u2,u3] 153 (0,0))) (h1:∀u∈[u1,u2,u3],u.oneCell'=true) (hl:n≤1000) (hb:base≤w.heap.size)
  (h:∀v' w',w'.ownsRow base 153 3 v' (n+1) (xs++[u1,u2,u3])→Kp (λb=>v.ownBlock=some b) w w'→(v'.ownBlock=v.ownBlock∨v'.ownBlock=some w.heap.size)→wpList Tryz.prog ops Q rest (a.put o.dst v') w') :
  wpList Tryz.prog ops Q (o::rest) a w:=by
 obtain⟨i0,hi,hz0,hz1,hz2⟩:=info_parts z80
 refine wpList_append_own_at _ hgd s x 108 ho base 153 i0 (.agg #[.string ⟨#[]⟩,.string ⟨#[]⟩,.bool false]) 3 40 Tryz.underlying108 hi hz0 hz1 hz2 rfl (by decide) v n xs hs hown ⟨g,0,none⟩ 1 1 [u1,u2,u3] hx rfl (λj y hj=>?_) h1 (by unfold maxLen;omega) (by omega) hb (λv' w' r1 r2 _ r4=>h v' w' r1 (Kp.of_grown r2 (λ_ e=>e)) r4)
 rw[zub,Nat.zero_add,zg hu]
 simpa using hj
structure zi4 (w:World)(r g:Nat)(s:RS)(k:Nat)(wr:World)(v3 v:Value):Prop where
 kp:Kp (λb=>b=r) w wr
 rdr:zgc wr r (s.writes k).2 v g
 row:wr.ownsRow w.heap.size 153 3 v3 k ((s.writes k).1.flatMap z5f)
set_option maxRecDepth 20000 in
set_option maxHeartbeats 2000000 in
theorem z0j (r:Nat)(s:RS)(v:Value)(g:Nat)(w:World)(h:zgc w r s v g)(hl:s.bs.length≤1100000)
  (hR:∀w' v' u,zgc w' r (s.one.2.writes s.one.1).2 v' g→Kp (λb=>b=r) w w'→w'.ownsRow w.heap.size 153 3 u s.one.1 ((s.one.2.writes s.one.1).1.flatMap z5f)→R (.returned u) w') :
  Calls Tryz.prog 207 #[.pointer (some ⟨r,0,none⟩)] w R:=by
 have hrl:=zh h.blk
 have hgl:=h.lt
 have H:=ze h
 have HL:=ze hl
 have HR:=ze hR
 have HO:=ze s.one_len
 have hone:(s.one.1:Int)<256:=by have:=s.one_lt;omega
 have HW:=ze s.one.2.writes_len
 clear h hl hR
 go_enter Tryz.func207,Tryz.ntmps207
 go_wp2_with (first
  |(go_at_call 206;refine ztf r s v g w H.out HL.out ?_;intro w1 v1 hr1 hk1;have H1:=ze hr1;have HK1:=ze hk1;clear hr1 hk1)
  |fail)
 generalize hn:s.one.1=n at HR hone ⊢
 clear hn
 go_loopw [3,7] (λv3 v7 wr=>∃(k:Nat) (v:Value),k≤n∧v7 = .int .i64 k∧zi4 w r g s.one.2 k wr v3 v) (λ_ v7 _=>n-(intOf v7).toNat)
 case atStart=>exact⟨0,v1,Nat.zero_le _,rfl,HK1.out,H1.out,World.ownsRow_nil _ _ _ _⟩
 case round=>
  obtain⟨k,v,hk,rfl,hM⟩:=hrel
  have HM:=ze hM
  obtain⟨pu,capu,rfl⟩:=zp hM.row
  clear hM
  by_cases hlt:k<n
  ·have hlt':(k:Int)<n:=by omega
   have HKN:Hid (k≤1000):=by show _≤_;omega
   clear hk
   go_wp2_with (first
    |(go_at_call 243;refine zb0 r (s.one.2.writes k).2 v g _ HM.out.rdr (by have:=HW.out k;have:=HO.out;have:=HL.out;omega) ?_;intro w2 v2 hr2 hk2;have H2:=ze hr2;have HK2:=ze hk2;clear hr2 hk2)
    |(go_at_call 244;refine zr2 r (s.one.2.writes k).2.key.2 v2 g _ H2.out (by have:=RS.key_len (s.one.2.writes k).2;have:=HW.out k;have:=HO.out;have:=HL.out;omega) ?_;intro w3 v4 hr3 hk3;have H3:=ze hr3;have HK3:Hid (Kp (λb=>b=r) wr w3):=HK2.out.trans hk3 (λ_ _ h=>h);clear hr3 hk3)
    |(at_builtin;refine z0v _ rfl _ _ rfl w.heap.size (.slice pu k capu) k _ rfl (zi HM.out.row (HK3.out.trans (Kp.alloc _ _ _) (λ_ _ h=>h)) (λb e (h:b=r)=>by have:=(HM.out.row.lt b e).1;omega)) w3.heap.size _ _ _ rfl (heap_alloc_new w3 _) (by simp[Value.oneCell']) HKN.out (by have:=HM.out.kp.size;have:=HK3.out.size;simp;omega) ?_;intro v5 w5 hown5 hk5 hloc5;have HOW:=ze hown5;have HK5:Hid (Kp (λb=>b=r∨(Value.slice pu k capu).ownBlock=some b) wr w5):=((HK3.out.mono (λ_ _ h=>Or.inl h)).trans (Kp.alloc _ _ _) (λ_ _ h=>h)).trans hk5 (λ_ _ h=>Or.inr h);have H5:=ze (show zgc w5 r ((s.one.2.writes k).2.key.2.ver).2 v4 g from (H3.out.kp ((Kp.alloc (λb=>(Value.slice pu k capu).ownBlock=some b) _ _).trans hk5 (λ_ _ h=>h)) (λe=>by have:=(HM.out.row.lt _ e).1;omega) (λe=>by have:=(HM.out.row.lt _ e).1;omega)));obtain⟨pu5,capu5,rfl⟩:=zp hown5;clear hown5 hk5 hloc5)
    |fail)
   go_roundw
   case rel=>
    refine⟨k+1,v4,by omega,by go_num,?_,?_,?_⟩
    ·exact HM.out.kp.trans HK5.out (λb hb e=>e.elim id (λe=>by have:=(HM.out.row.lt _ e).1;omega))
    ·exact H5.out
    ·show w5.ownsRow w.heap.size 153 3 _ (k+1) (((s.one.2.writes k).1++[((s.one.2.writes k).2.key.1,(s.one.2.writes k).2.key.2.ver.1)]).flatMap z5f)
     rw[List.flatMap_append]
     exact HOW.out
   case measure=>simp[intOf];omega
  ·have hie:k=n:=by omega
   subst hie
   have HF:=ze (HR.out _ v _ HM.out.rdr HM.out.kp HM.out.row)
   clear hk hlt
   go_wp2_with fail
   exact HF.out
end
end
section
open Go.RowKit Go.Maps Go.Lib
section
variable {R:Ending→World→Prop}
theorem zcr (a b:ByteArray):Op.bytesLess a.toList b.toList=true↔blt a b:=by
 rw[bytesLess_eq,decide_eq_true_eq,Lib.toList_data,Lib.toList_data]
 rfl
theorem zzj {α:Type}{P:α→α→Prop}(ht:∀a b c,P a b→P b c→P a c):∀l:List α,(∀(i:Nat) a b,l[i]?=some a→l[i+1]?=some b→P a b)→l.Pairwise P
 |[],_=>List.Pairwise.nil
 |[a],_=>by simp
 |a::b::r,h=>by
  have ih:=zzj ht (b::r) (λi x y hx hy=>h (i+1) x y (by simpa using hx) (by simpa using hy))
  refine List.pairwise_cons.2 ⟨λc hc=>?_,ih⟩
  have hab:=h 0 a b rfl rfl
  rcases List.mem_cons.1 hc with rfl|hc
  ·exact hab
  ·exact ht _ _ _ hab ((List.pairwise_cons.1 ih).1 c hc)
theorem z3p {α:Type}{P:α→α→Prop}{l:List α}(h:l.Pairwise P)(i:Nat)(a b:α)(ha:l[i]?=some a)(hb:l[i+1]?=some b):P a b:=by
 obtain⟨h1,rfl⟩:=List.getElem?_eq_some_iff.1 ha
 obtain⟨h2,rfl⟩:=List.getElem?_eq_some_iff.1 hb
 exact List.pairwise_iff_getElem.1 h i (i+1) h1 h2 (by omega)
set_option maxRecDepth 20000 in
set_option maxHeartbeats 2000000 in
theorem zix (u:Value)(ws:List (ByteArray × ByteArray × Bool))(w:World)(base:Nat)(h:WR base w u ws)(hl:ws.length≤1000)
  (hR:∀(b:Bool) w',(b=true↔(ws.map Prod.fst).Pairwise blt∧1≤ws.length∧ws.length≤10)→Kp (λ_=>False) w w'→R (.returned (.bool b)) w') :
  Calls Tryz.prog 208 #[u] w R:=by
 by_cases h0:ws.length=0
 ·have e:ws=[]:=List.eq_nil_of_length_eq_zero h0
  subst e
  obtain⟨pu,cap,rfl⟩:=zp h
  have HF:=ze (hR false w (by simp) (Kp.refl _ _))
  clear h hR hl h0
  go_enter Tryz.func208,Tryz.ntmps208
  go_wp2_with fail
  go_loop [3] (λv3=>v3 = .int .i64 1) (λ_=>0)
  case atStart=>rfl
  case round=>
   obtain rfl:=hrel
   go_wp2_with fail
   exact HF.out
 ·obtain⟨g,cap,cur,rfl,hg,hcur⟩:=zib h (by omega)
  have HW:=ze h
  have HR:=ze hR
  have hl':(ws.length:Int)≤1000:=by omega
  have HN:=ze h0
  clear h hR hg hcur h0
  go_enter Tryz.func208,Tryz.ntmps208
  go_wp2_with fail
  go_loopw [3] (λv3 wr=>∃k:Nat,1≤k∧k≤ws.length∧v3 = .int .i64 k∧Kp (λ_=>False) w wr∧∀i a b,i+1<k→ws[i]?=some a→ws[i+1]?=some b→blt a.1 b.1) (λv3 _=>ws.length-(intOf v3).toNat)
  case atStart=>exact⟨1,Nat.le_refl _,by have:=HN.out;omega,rfl,Kp.refl _ _,λi a b hi=>by omega⟩
  case round=>
   obtain⟨k,hk1,hk,rfl,hkp,hin⟩:=hrel
   have HIN:=ze hin
   have HKP:=ze hkp
   clear hin hkp
   by_cases hlt:k<ws.length
   ·have hlt':(k:Int)<ws.length:=by omega
    obtain⟨j,rfl⟩:∃j,k=j+1:=⟨k-1,by omega⟩
    obtain⟨a,ha⟩:∃a,ws[j]?=some a:=⟨ws[j],List.getElem?_eq_getElem (by omega)⟩
    obtain⟨b,hb⟩:∃b,ws[j+1]?=some b:=⟨ws[j+1],List.getElem?_eq_getElem hlt⟩
    have hcs:=World.ownsRow.cells (zi HW.out HKP.out (λ_ _ e=>e)) (g:=g) rfl
    have ca:wr.cell? ⟨g,j*3,none⟩=some (.string a.1):=by
     have:=hcs _ _ (zpl ws j a ha).1
     rw[zub,Nat.zero_add]at this
     exact this
    have cb:wr.cell? ⟨g,(j+1)*3,none⟩=some (.string b.1):=by
     have:=hcs _ _ (zpl ws (j+1) b hb).1
     rw[zub,Nat.zero_add]at this
     exact this
    have HA:=ze ha
    have HB:=ze hb
    clear hcs ha hb
    have hj:j<ws.length:=by omega
    have hj':(j:Int)<ws.length:=by omega
    have hk0':(0:Int)≤(j:Int)+1:=by omega
    have hk2':(j:Int)+1<ws.length:=by omega
    have e1:IntKind.i64.wrap (((j+1:Nat):Int)-1)=(j:Int):=by rw[show ((j+1:Nat):Int)-1=(j:Int) by omega];exact IntWalk.i64_in _ (by omega)
    have e2:IntKind.i64.wrap ((j:Int)+1-1)=(j:Int):=by rw[show (j:Int)+1-1=(j:Int) by omega];exact IntWalk.i64_in _ (by omega)
    have e3:IntKind.i64.wrap (j:Int)=(j:Int):=IntWalk.i64_in _ (by omega)
    by_cases hbl:blt a.1 b.1
    ·have hbl':Op.bytesLess a.1.toList b.1.toList=true:=(zcr a.1 b.1).2 hbl
     have HBL:=ze hbl
     clear hbl
     go_wp2_with fail
     go_region_held3 (λw'=>w'.cell? ⟨g,j*3,none⟩=some (.string a.1)∧w'.cell? ⟨g,(j+1)*3,none⟩=some (.string b.1)) (go_keep) (fail)
     all_goals go_wp2_with fail
     all_goals go_roundw
     case rel=>
      refine⟨j+1+1,by omega,by omega,by go_num,HKP.out.trans (Kp.drew _ _) (λ_ _ h=>h),λi x y hi hx hy=>?_⟩
      by_cases hij:i=j
      ·subst hij
       obtain rfl:=Option.some.inj (HA.out.symm.trans hx)
       obtain rfl:=Option.some.inj (HB.out.symm.trans hy)
       exact HBL.out
      ·exact HIN.out i x y (by omega) hx hy
     case measure=>simp[intOf];omega
    ·have hbl':Op.bytesLess a.1.toList b.1.toList=false:=by rw[Bool.eq_false_iff];exact λe=>hbl ((zcr a.1 b.1).1 e)
     have HF:=ze (HR.out false wr.drew ⟨λe=>(by cases e),λe=>absurd (z3p e.1 j a.1 b.1 (by rw[List.getElem?_map,HA.out];rfl) (by rw[List.getElem?_map,HB.out];rfl)) hbl⟩ (HKP.out.trans (Kp.drew _ _) (λ_ _ h=>h)))
     clear hbl
     go_wp2_with fail
     go_region_held3 (λw'=>w'.cell? ⟨g,j*3,none⟩=some (.string a.1)∧w'.cell? ⟨g,(j+1)*3,none⟩=some (.string b.1)) (go_keep) (fail)
     all_goals go_wp2_with fail
     exact HF.out
   ·have hie:k=ws.length:=by omega
    subst hie
    have hpw:(ws.map Prod.fst).Pairwise blt:=zzj (α:=ByteArray) (P:=blt) (λa b c h1 h2=>zxg h1 h2) (ws.map Prod.fst) (λi a b ha hb=>by
     rw[List.getElem?_map]at ha hb
     obtain⟨x,hx,rfl⟩:=Option.map_eq_some_iff.1 ha
     obtain⟨y,hy,rfl⟩:=Option.map_eq_some_iff.1 hb
     exact HIN.out i x y (List.getElem?_eq_some_iff.1 hy).1 hx hy)
    by_cases h10:ws.length≤10
    ·have HF:=ze (HR.out true wr (by simp[hpw,h10];omega) HKP.out)
     have h10':(ws.length:Int)≤10:=by omega
     have h1':(1:Int)≤ws.length:=by omega
     clear hpw hk
     go_wp2_with fail
     exact HF.out
    ·have HF:=ze (HR.out false wr (by simp[h10]) HKP.out)
     have h10':¬(ws.length:Int)≤10:=by omega
     have h1':(1:Int)≤ws.length:=by omega
     clear hpw hk
     go_wp2_with fail
     exact HF.out
end
end
end Go.Proofs.YthbdpfccfcceiaaGreatDoor
