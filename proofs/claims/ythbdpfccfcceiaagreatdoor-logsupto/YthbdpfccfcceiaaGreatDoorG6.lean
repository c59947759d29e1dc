/-
  Of the proof of logsUpto_card.
-/
import Derived.Test.YthbdpfccfcceiaaGreatDoorG4x
namespace Go.Proofs.YthbdpfccfcceiaaGreatDoor
open Go.RowKit
theorem zuo:∀(l:List (Nat × Nat)) (j:Nat) (hj:j<l.length),(zce l)[j*2]?=some (.pointer (some ⟨l[j].1,0,none⟩))∧(zce l)[j*2+1]?=some (.pointer (some ⟨l[j].2,0,none⟩))
 |a::r,0,_=>by simp[zce]
 |a::r,j+1,hj=>by
  have ih:=zuo r j (by simpa using hj)
  have e:zce (a::r) = .pointer (some ⟨a.1,0,none⟩)::.pointer (some ⟨a.2,0,none⟩)::zce r:=by simp[zce]
  rw[e,show (j+1)*2=j*2+1+1 by omega]
  simpa using ih
theorem zsg {w:World}{v:Value}{l:List (Nat × Nat)}(h:w.ownsRow 0 81 2 v l.length (zce l))(h0:0<l.length):∃g cap,v = .slice (some ⟨g,0,none⟩) l.length cap∧l.length≤cap∧g<w.heap.size∧∀j (hj:j<l.length),w.cell? ⟨g,j*2,none⟩=some (.pointer (some ⟨l[j].1,0,none⟩))∧w.cell? ⟨g,j*2+1,none⟩=some (.pointer (some ⟨l[j].2,0,none⟩)):=by
 rcases h.2 with ⟨rfl,h1⟩|⟨g,cap,cur,rfl,hb,hg,hn,hm,hcs,ht⟩
 ·omega
 ·refine⟨g,cap,rfl,hn,zh hg,λj hj=>?_⟩
  have key:∀i u,(zce l)[i]?=some u→w.cell? ⟨g,i,none⟩=some u:=λi u hu=>by
   have:w.cell? ⟨g,i,none⟩=cur[i]?:=by simp[World.cell?,hg]
   rw[this,← Array.getElem?_toList]
   rw[← ht,List.getElem?_take]at hu
   split at hu
   ·exact hu
   ·cases hu
  obtain⟨a1,a2⟩:=zuo l j hj
  exact⟨key _ _ a1,key _ _ a2⟩
section
variable {own:Nat→Lab}{w:World}{p nt:Nat}{ds:List (Nat × Nat)}{vL vP vK:Value}{bk:BO}
variable {R:Ending→World→Prop}
theorem zb3 {w2:World}{i:Nat}(h:Inv own w p ds vL vP vK bk nt)(k:Kp (λ_=>False) w w2)(hi:i<ds.length)(hnt:nt<1000000)(kind e a b:Int)(hk:2≤kind∧kind≤9)(ha:-9223372036854775808≤a∧a≤9223372036854775807)(st tt:ByteArray)(hst:st.size≤maxLen)(htt:tt.size≤maxLen)(vl vm:Value)
  (hK:∀w' own' vP' vK' bk',Kp (λb=>own b≠zt) w w'→(∀b,b<w.heap.size→own' b=own b)→Inv own' w' p ds vL vP' vK' bk' (nt+1)→R (.returned (.bool true)) w') :
  Calls Tryz.prog 61 #[.pointer (some ⟨p,0,none⟩),.agg #[.pointer (some ⟨(ds[i]).1,0,none⟩),.pointer (some ⟨(ds[i]).2,0,none⟩)],.agg #[.int .i64 kind,.int .i64 e,.int .i64 a,.int .i64 b,.string st,.string tt,vl,vm]] w2 R:=by
 refine z63 (h.same (own3:=zmc own w.heap.size) k (λ_ hb=>zrb hb)) hi hnt kind e a b hk ha st tt hst htt vl vm (λw' own' vP' vK' bk' k2 a2 I=>hK w' own' vP' vK' bk' ?_ ?_ I)
 ·exact (k.mono (S':=λb=>own b≠zt) (λ_ _ h=>h.elim)).trans k2 (λb hb e=>by rw[zrb hb]at e;exact e)
 ·intro b hb
  rw[a2 b (Nat.lt_of_lt_of_le hb k.size),zrb hb]
set_option maxRecDepth 20000 in
set_option maxHeartbeats 16000000 in
theorem zd2 (h:Inv own w p ds vL vP vK bk nt)(h0:0<ds.length)(hnt:nt<1000000)(kind e a b:Int)(hF:kind=2∨kind=3∨kind=4∨kind=5)(he:-9223372036854775808≤e∧e≤9223372036854775807)(st tt:ByteArray)(vl vm:Value)
  (hC:∀w2 (i:Nat) (hi:i<ds.length),Kp (λ_=>False) w w2→Calls Tryz.prog 61 #[.pointer (some ⟨p,0,none⟩),.agg #[.pointer (some ⟨(ds[i]).1,0,none⟩),.pointer (some ⟨(ds[i]).2,0,none⟩)],.agg #[.int .i64 kind,.int .i64 e,.int .i64 a,.int .i64 b,.string st,.string tt,vl,vm]] w2 (λr w'=>r = .returned (.bool true)∧R (.returned (.bool true)) w')) :
  Calls Tryz.prog 31 #[.pointer (some ⟨p,0,none⟩),.agg #[.int .i64 kind,.int .i64 e,.int .i64 a,.int .i64 b,.string st,.string tt,vl,vm]] w R:=by
 obtain⟨g,cap,hvL,hcap,hgl,hcells⟩:=zsg h.rowL h0
 have hk1:Kp (λ_=>False) w (w.alloc (.cells #[.int .i64 kind,.int .i64 e,.int .i64 a,.int .i64 b,.string st,.string tt,vl,vm] 71)):=Kp.alloc _ _ _
 have lp:p<w.heap.size:=zh h.book.world
 have c0:w.cell? ⟨p,0,none⟩=some vL:=zg h.book.world 0
 rw[hvL]at c0
 have d0:=(hk1.cell (a:=⟨p,0,none⟩) lp (λh=>h)).trans c0
 have hil:=zug e ds.length h0
 have e0:=(hk1.cell (a:=⟨g,z0b e ds.length*2,none⟩) hgl (λh=>h)).trans (hcells _ hil).1
 have e1:=(hk1.cell (a:=⟨g,z0b e ds.length*2+1,none⟩) hgl (λh=>h)).trans (hcells _ hil).2
 have z1:(w.alloc (.cells #[.int .i64 kind,.int .i64 e,.int .i64 a,.int .i64 b,.string st,.string tt,vl,vm] 71)).cell? ⟨w.heap.size,1,none⟩=some (.int .i64 e):=zg (heap_alloc_new w _) 1
 have hil':(z0b e ds.length:Int)<ds.length:=by omega
 have ng1:g≠w.heap.size+1:=by omega
 have np1:p≠w.heap.size+1:=by omega
 have hn1:=h.nds
 have hdl:(ds.length:Int)<1000000:=by omega
 have HCALL:=ze (λw2 (k:Kp (λ_=>False) w w2)=>hC w2 _ hil k)
 have HE:=ze he
 have H0:=ze h0
 have HLT:Hid (ds.length<1000000000):=by show _<_;omega
 generalize hds:ds[z0b e ds.length]=d at *
 clear hds hil
 generalize hpi:z0b e ds.length=i at *
 clear h hC hcells hvL hk1 he hnt hn1 h0 c0 lp hgl
 rcases hF with rfl|rfl|rfl|rfl
 all_goals
  go_enter Tryz.func31,Tryz.ntmps31
  go_wp2
  go_region_held3 (λw'=>w'.cell? ⟨p,0,none⟩=some (.slice (some ⟨g,0,none⟩) ds.length cap)∧w'.cell? ⟨w.heap.size,1,none⟩=some (.int .i64 e)∧w'.cell? ⟨g,i*2,none⟩=some (.pointer (some ⟨d.1,0,none⟩))∧w'.cell? ⟨g,i*2+1,none⟩=some (.pointer (some ⟨d.2,0,none⟩))) (go_keep) ((go_at_call 60;refine znf e ds.length _ HE.out H0.out HLT.out ?_;rw[hpi]))
  all_goals
   go_wp2_with (first
    |(go_at_call 61;refine (HCALL.out _ ?_).mono ?_;(exact ((Kp.alloc _ _ _).trans (Kp.alloc (λ_=>False) _ _) (λ_ _ h=>h)).trans (Kp.drew (λ_=>False) _) (λ_ _ h=>h));rintro r w'' ⟨rfl,hr⟩)
    |fail)
   exact hr
set_option maxRecDepth 20000 in
set_option maxHeartbeats 16000000 in
theorem ze2 (h:Inv own w p ds vL vP vK bk nt)(h0:0<ds.length)(hnt:nt<1000000)(kind e a b:Int)(hF:kind=6∨kind=7∨kind=8∨kind=9)(he:-9223372036854775808≤e∧e≤9223372036854775807)(st tt:ByteArray)(vl vm:Value)
  (hC:∀w2 (i:Nat) (hi:i<ds.length),Kp (λ_=>False) w w2→Calls Tryz.prog 61 #[.pointer (some ⟨p,0,none⟩),.agg #[.pointer (some ⟨(ds[i]).1,0,none⟩),.pointer (some ⟨(ds[i]).2,0,none⟩)],.agg #[.int .i64 kind,.int .i64 e,.int .i64 a,.int .i64 b,.string st,.string tt,vl,vm]] w2 (λr w'=>r = .returned (.bool true)∧R (.returned (.bool true)) w')) :
  Calls Tryz.prog 31 #[.pointer (some ⟨p,0,none⟩),.agg #[.int .i64 kind,.int .i64 e,.int .i64 a,.int .i64 b,.string st,.string tt,vl,vm]] w R:=by
 obtain⟨g,cap,hvL,hcap,hgl,hcells⟩:=zsg h.rowL h0
 have hk1:Kp (λ_=>False) w (w.alloc (.cells #[.int .i64 kind,.int .i64 e,.int .i64 a,.int .i64 b,.string st,.string tt,vl,vm] 71)):=Kp.alloc _ _ _
 have lp:p<w.heap.size:=zh h.book.world
 have c0:w.cell? ⟨p,0,none⟩=some vL:=zg h.book.world 0
 rw[hvL]at c0
 have d0:=(hk1.cell (a:=⟨p,0,none⟩) lp (λh=>h)).trans c0
 have hil:=zug e ds.length h0
 have e0:=(hk1.cell (a:=⟨g,z0b e ds.length*2,none⟩) hgl (λh=>h)).trans (hcells _ hil).1
 have e1:=(hk1.cell (a:=⟨g,z0b e ds.length*2+1,none⟩) hgl (λh=>h)).trans (hcells _ hil).2
 have z1:(w.alloc (.cells #[.int .i64 kind,.int .i64 e,.int .i64 a,.int .i64 b,.string st,.string tt,vl,vm] 71)).cell? ⟨w.heap.size,1,none⟩=some (.int .i64 e):=zg (heap_alloc_new w _) 1
 have hil':(z0b e ds.length:Int)<ds.length:=by omega
 have ng1:g≠w.heap.size+1:=by omega
 have np1:p≠w.heap.size+1:=by omega
 have hn1:=h.nds
 have hdl:(ds.length:Int)<1000000:=by omega
 have HCALL:=ze (λw2 (k:Kp (λ_=>False) w w2)=>hC w2 _ hil k)
 have HE:=ze he
 have H0:=ze h0
 have HLT:Hid (ds.length<1000000000):=by show _<_;omega
 generalize hds:ds[z0b e ds.length]=d at *
 clear hds hil
 generalize hpi:z0b e ds.length=i at *
 clear h hC hcells hvL hk1 he hnt hn1 h0 c0 lp hgl
 rcases hF with rfl|rfl|rfl|rfl
 all_goals
  go_enter Tryz.func31,Tryz.ntmps31
  go_wp2
  go_region_held3 (λw'=>w'.cell? ⟨p,0,none⟩=some (.slice (some ⟨g,0,none⟩) ds.length cap)∧w'.cell? ⟨w.heap.size,1,none⟩=some (.int .i64 e)∧w'.cell? ⟨g,i*2,none⟩=some (.pointer (some ⟨d.1,0,none⟩))∧w'.cell? ⟨g,i*2+1,none⟩=some (.pointer (some ⟨d.2,0,none⟩))) (go_keep) ((go_at_call 60;refine znf e ds.length _ HE.out H0.out HLT.out ?_;rw[hpi]))
  all_goals
   go_wp2_with (first
    |(go_at_call 61;refine (HCALL.out _ ?_).mono ?_;(exact ((Kp.alloc _ _ _).trans (Kp.alloc (λ_=>False) _ _) (λ_ _ h=>h)).trans (Kp.drew (λ_=>False) _) (λ_ _ h=>h));rintro r w'' ⟨rfl,hr⟩)
    |fail)
   exact hr
set_option maxRecDepth 20000 in
set_option maxHeartbeats 16000000 in
theorem zf2 (h:Inv own w p ds vL vP vK bk nt)(h0:0<ds.length)(hnt:nt<1000000)(kind e a b:Int)(hF:kind=10∨kind=11∨kind=12∨kind=13∨kind=14)(he:-9223372036854775808≤e∧e≤9223372036854775807)(st tt:ByteArray)(vl vm:Value)
  (hC:∀w2 (i:Nat) (hi:i<ds.length),Kp (λ_=>False) w w2→Calls Tryz.prog 62 #[.pointer (some ⟨p,0,none⟩),.agg #[.pointer (some ⟨(ds[i]).1,0,none⟩),.pointer (some ⟨(ds[i]).2,0,none⟩)],.agg #[.int .i64 kind,.int .i64 e,.int .i64 a,.int .i64 b,.string st,.string tt,vl,vm]] w2 (λr w'=>r = .returned (.bool true)∧R (.returned (.bool true)) w')) :
  Calls Tryz.prog 31 #[.pointer (some ⟨p,0,none⟩),.agg #[.int .i64 kind,.int .i64 e,.int .i64 a,.int .i64 b,.string st,.string tt,vl,vm]] w R:=by
 obtain⟨g,cap,hvL,hcap,hgl,hcells⟩:=zsg h.rowL h0
 have hk1:Kp (λ_=>False) w (w.alloc (.cells #[.int .i64 kind,.int .i64 e,.int .i64 a,.int .i64 b,.string st,.string tt,vl,vm] 71)):=Kp.alloc _ _ _
 have lp:p<w.heap.size:=zh h.book.world
 have c0:w.cell? ⟨p,0,none⟩=some vL:=zg h.book.world 0
 rw[hvL]at c0
 have d0:=(hk1.cell (a:=⟨p,0,none⟩) lp (λh=>h)).trans c0
 have hil:=zug e ds.length h0
 have e0:=(hk1.cell (a:=⟨g,z0b e ds.length*2,none⟩) hgl (λh=>h)).trans (hcells _ hil).1
 have e1:=(hk1.cell (a:=⟨g,z0b e ds.length*2+1,none⟩) hgl (λh=>h)).trans (hcells _ hil).2
 have z1:(w.alloc (.cells #[.int .i64 kind,.int .i64 e,.int .i64 a,.int .i64 b,.string st,.string tt,vl,vm] 71)).cell? ⟨w.heap.size,1,none⟩=some (.int .i64 e):=zg (heap_alloc_new w _) 1
 have hil':(z0b e ds.length:Int)<ds.length:=by omega
 have ng1:g≠w.heap.size+1:=by omega
 have np1:p≠w.heap.size+1:=by omega
 have hn1:=h.nds
 have hdl:(ds.length:Int)<1000000:=by omega
 have HCALL:=ze (λw2 (k:Kp (λ_=>False) w w2)=>hC w2 _ hil k)
 have HE:=ze he
 have H0:=ze h0
 have HLT:Hid (ds.length<1000000000):=by show _<_;omega
 generalize hds:ds[z0b e ds.length]=d at *
 clear hds hil
 generalize hpi:z0b e ds.length=i at *
 clear h hC hcells hvL hk1 he hnt hn1 h0 c0 lp hgl
 rcases hF with rfl|rfl|rfl|rfl|rfl
 all_goals
  go_enter Tryz.func31,Tryz.ntmps31
  go_wp2
  go_region_held3 (λw'=>w'.cell? ⟨p,0,none⟩=some (.slice (some ⟨g,0,none⟩) ds.length cap)∧w'.cell? ⟨w.heap.size,1,none⟩=some (.int .i64 e)∧w'.cell? ⟨g,i*2,none⟩=some (.pointer (some ⟨d.1,0,none⟩))∧w'.cell? ⟨g,i*2+1,none⟩=some (.pointer (some ⟨d.2,0,none⟩))) (go_keep) ((go_at_call 60;refine znf e ds.length _ HE.out H0.out HLT.out ?_;rw[hpi]))
  all_goals
   go_wp2_with (first
    |(go_at_call 62;refine (HCALL.out _ ?_).mono ?_;(exact ((Kp.alloc _ _ _).trans (Kp.alloc (λ_=>False) _ _) (λ_ _ h=>h)).trans (Kp.drew (λ_=>False) _) (λ_ _ h=>h));rintro r w'' ⟨rfl,hr⟩)
    |fail)
   exact hr
set_option maxRecDepth 20000 in
set_option maxHeartbeats 16000000 in
theorem zul (h:Inv own w p ds vL vP vK bk nt)(h0:0<ds.length)(hnt:nt<1000000)(kind e a b:Int)(hF:kind=15∨kind=16∨kind=17∨kind=19)(he:-9223372036854775808≤e∧e≤9223372036854775807)(st tt:ByteArray)(vl vm:Value)
  (hC:∀w2 (i:Nat) (hi:i<ds.length),Kp (λ_=>False) w w2→Calls Tryz.prog 63 #[.pointer (some ⟨p,0,none⟩),.agg #[.pointer (some ⟨(ds[i]).1,0,none⟩),.pointer (some ⟨(ds[i]).2,0,none⟩)],.agg #[.int .i64 kind,.int .i64 e,.int .i64 a,.int .i64 b,.string st,.string tt,vl,vm]] w2 (λr w'=>r = .returned (.bool true)∧R (.returned (.bool true)) w')) :
  Calls Tryz.prog 31 #[.pointer (some ⟨p,0,none⟩),.agg #[.int .i64 kind,.int .i64 e,.int .i64 a,.int .i64 b,.string st,.string tt,vl,vm]] w R:=by
 obtain⟨g,cap,hvL,hcap,hgl,hcells⟩:=zsg h.rowL h0
 have hk1:Kp (λ_=>False) w (w.alloc (.cells #[.int .i64 kind,.int .i64 e,.int .i64 a,.int .i64 b,.string st,.string tt,vl,vm] 71)):=Kp.alloc _ _ _
 have lp:p<w.heap.size:=zh h.book.world
 have c0:w.cell? ⟨p,0,none⟩=some vL:=zg h.book.world 0
 rw[hvL]at c0
 have d0:=(hk1.cell (a:=⟨p,0,none⟩) lp (λh=>h)).trans c0
 have hil:=zug e ds.length h0
 have e0:=(hk1.cell (a:=⟨g,z0b e ds.length*2,none⟩) hgl (λh=>h)).trans (hcells _ hil).1
 have e1:=(hk1.cell (a:=⟨g,z0b e ds.length*2+1,none⟩) hgl (λh=>h)).trans (hcells _ hil).2
 have z1:(w.alloc (.cells #[.int .i64 kind,.int .i64 e,.int .i64 a,.int .i64 b,.string st,.string tt,vl,vm] 71)).cell? ⟨w.heap.size,1,none⟩=some (.int .i64 e):=zg (heap_alloc_new w _) 1
 have hil':(z0b e ds.length:Int)<ds.length:=by omega
 have ng1:g≠w.heap.size+1:=by omega
 have np1:p≠w.heap.size+1:=by omega
 have hn1:=h.nds
 have hdl:(ds.length:Int)<1000000:=by omega
 have HCALL:=ze (λw2 (k:Kp (λ_=>False) w w2)=>hC w2 _ hil k)
 have HE:=ze he
 have H0:=ze h0
 have HLT:Hid (ds.length<1000000000):=by show _<_;omega
 generalize hds:ds[z0b e ds.length]=d at *
 clear hds hil
 generalize hpi:z0b e ds.length=i at *
 clear h hC hcells hvL hk1 he hnt hn1 h0 c0 lp hgl
 rcases hF with rfl|rfl|rfl|rfl
 all_goals
  go_enter Tryz.func31,Tryz.ntmps31
  go_wp2
  go_region_held3 (λw'=>w'.cell? ⟨p,0,none⟩=some (.slice (some ⟨g,0,none⟩) ds.length cap)∧w'.cell? ⟨w.heap.size,1,none⟩=some (.int .i64 e)∧w'.cell? ⟨g,i*2,none⟩=some (.pointer (some ⟨d.1,0,none⟩))∧w'.cell? ⟨g,i*2+1,none⟩=some (.pointer (some ⟨d.2,0,none⟩))) (go_keep) ((go_at_call 60;refine znf e ds.length _ HE.out H0.out HLT.out ?_;rw[hpi]))
  all_goals
   go_wp2_with (first
    |(go_at_call 63;refine (HCALL.out _ ?_).mono ?_;(exact ((Kp.alloc _ _ _).trans (Kp.alloc (λ_=>False) _ _) (λ_ _ h=>h)).trans (Kp.drew (λ_=>False) _) (λ_ _ h=>h));rintro r w'' ⟨rfl,hr⟩)
    |fail)
   exact hr
theorem zzr (h:Inv own w p ds vL vP vK bk nt)(h0:0<ds.length)(hnt:nt<1000000)(kind e a b:Int)(hk:2≤kind∧kind≤9)(he:-9223372036854775808≤e∧e≤9223372036854775807)(ha:-9223372036854775808≤a∧a≤9223372036854775807)(st tt:ByteArray)(hst:st.size≤maxLen)(htt:tt.size≤maxLen)(vl vm:Value)
  (hK:∀w' own' vP' vK' bk',Kp (λb=>own b≠zt) w w'→(∀b,b<w.heap.size→own' b=own b)→Inv own' w' p ds vL vP' vK' bk' (nt+1)→R (.returned (.bool true)) w') :
  Calls Tryz.prog 31 #[.pointer (some ⟨p,0,none⟩),.agg #[.int .i64 kind,.int .i64 e,.int .i64 a,.int .i64 b,.string st,.string tt,vl,vm]] w R:=
 (by
  have C:∀w2 (i:Nat) (hi:i<ds.length),Kp (λ_=>False) w w2→_:=λw2 i hi k=>zb3 (w2:=w2) (R:=λr w'=>r = .returned (.bool true)∧R (.returned (.bool true)) w') h k hi hnt kind e a b hk ha st tt hst htt vl vm (λw' own' vP' vK' bk' k a I=>⟨rfl,hK w' own' vP' vK' bk' k a I⟩)
  by_cases q:kind≤5
  ·exact zd2 h h0 hnt kind e a b (by omega) he st tt vl vm C
  ·exact ze2 h h0 hnt kind e a b (by omega) he st tt vl vm C)
set_option maxRecDepth 20000 in
set_option maxHeartbeats 2000000 in
theorem z1x (h:Inv own w p ds vL vP vK bk nt)(h0:0<ds.length)(hnt:nt<1000000)(kind e a b:Int)(hkind:kind≤0)(he:-9223372036854775808≤e∧e≤9223372036854775807)(_ha:-9223372036854775808≤a∧a≤9223372036854775807)(st tt:ByteArray)(_hst:st.size≤maxLen)(_htt:tt.size≤maxLen)(vl vm:Value)
  (hK:∀w' own' vP' vK' bk',Kp (λb=>own b≠zt) w w'→(∀b,b<w.heap.size→own' b=own b)→Inv own' w' p ds vL vP' vK' bk' (nt+1)→R (.returned (.bool true)) w') :
  Calls Tryz.prog 31 #[.pointer (some ⟨p,0,none⟩),.agg #[.int .i64 kind,.int .i64 e,.int .i64 a,.int .i64 b,.string st,.string tt,vl,vm]] w R:=by
 obtain⟨g,cap,hvL,hcap,hgl,hcells⟩:=zsg h.rowL h0
 have hk1:Kp (λ_=>False) w (w.alloc (.cells #[.int .i64 kind,.int .i64 e,.int .i64 a,.int .i64 b,.string st,.string tt,vl,vm] 71)):=Kp.alloc _ _ _
 have lp:p<w.heap.size:=zh h.book.world
 have c0:w.cell? ⟨p,0,none⟩=some vL:=zg h.book.world 0
 rw[hvL]at c0
 have d0:=(hk1.cell (a:=⟨p,0,none⟩) lp (λh=>h)).trans c0
 have hil:=zug e ds.length h0
 have e0:=(hk1.cell (a:=⟨g,z0b e ds.length*2,none⟩) hgl (λh=>h)).trans (hcells _ hil).1
 have e1:=(hk1.cell (a:=⟨g,z0b e ds.length*2+1,none⟩) hgl (λh=>h)).trans (hcells _ hil).2
 have z1:(w.alloc (.cells #[.int .i64 kind,.int .i64 e,.int .i64 a,.int .i64 b,.string st,.string tt,vl,vm] 71)).cell? ⟨w.heap.size,1,none⟩=some (.int .i64 e):=zg (heap_alloc_new w _) 1
 have hil':(z0b e ds.length:Int)<ds.length:=by omega
 have ng1:g≠w.heap.size+1:=by omega
 have np1:p≠w.heap.size+1:=by omega
 have hn1:=h.nds
 have hdl:(ds.length:Int)<1000000:=by omega
 have H:=ze h
 have HK:=ze hK
 have k1:(kind == 1)=false:=by simp;omega
 have k2:(kind == 2)=false:=by simp;omega
 have k3:(kind == 3)=false:=by simp;omega
 have k4:(kind == 4)=false:=by simp;omega
 have k5:(kind == 5)=false:=by simp;omega
 have k6:(kind == 6)=false:=by simp;omega
 have k7:(kind == 7)=false:=by simp;omega
 have k8:(kind == 8)=false:=by simp;omega
 have k9:(kind == 9)=false:=by simp;omega
 have k10:(kind == 10)=false:=by simp;omega
 have k11:(kind == 11)=false:=by simp;omega
 have k12:(kind == 12)=false:=by simp;omega
 have k13:(kind == 13)=false:=by simp;omega
 have k14:(kind == 14)=false:=by simp;omega
 have k15:(kind == 15)=false:=by simp;omega
 have k16:(kind == 16)=false:=by simp;omega
 have k17:(kind == 17)=false:=by simp;omega
 have k18:(kind == 18)=false:=by simp;omega
 have k19:(kind == 19)=false:=by simp;omega
 have k20:(kind == 20)=false:=by simp;omega
 have k21:(kind == 21)=false:=by simp;omega
 have k22:(kind == 22)=false:=by simp;omega
 have k23:(kind == 23)=false:=by simp;omega
 have k24:(kind == 24)=false:=by simp;omega
 have k25:(kind == 25)=false:=by simp;omega
 have k26:(kind == 26)=false:=by simp;omega
 have HE:=ze he
 have H0:=ze h0
 have HLT:Hid (ds.length<1000000000):=by show _<_;omega
 generalize hds:ds[z0b e ds.length]=d at *
 clear hds hil
 generalize hpi:z0b e ds.length=i at *
 clear h hK hcells hvL hk1 he _ha _hst _htt hnt hn1 h0 c0 lp hgl
 go_enter Tryz.func31,Tryz.ntmps31
 go_wp2
 go_region_held3 (λw'=>w'.cell? ⟨p,0,none⟩=some (.slice (some ⟨g,0,none⟩) ds.length cap)∧w'.cell? ⟨w.heap.size,1,none⟩=some (.int .i64 e)∧w'.cell? ⟨g,i*2,none⟩=some (.pointer (some ⟨d.1,0,none⟩))∧w'.cell? ⟨g,i*2+1,none⟩=some (.pointer (some ⟨d.2,0,none⟩))) (go_keep) ((go_at_call 60;refine znf e ds.length _ HE.out H0.out HLT.out ?_;rw[hpi]))
 all_goals
  go_wp2
  have k:Kp (λ_=>False) w ((w.alloc (.cells #[.int .i64 kind,.int .i64 e,.int .i64 a,.int .i64 b,.string st,.string tt,vl,vm] 71)).alloc (.cells #[.pointer (some ⟨d.1,0,none⟩),.pointer (some ⟨d.2,0,none⟩)] 81)).drew:=((Kp.alloc _ _ _).trans (Kp.alloc (λ_=>False) _ _) (λ_ _ h=>h)).trans (Kp.drew (λ_=>False) _) (λ_ _ h=>h)
  exact HK.out _ own vP vK bk (kpF k) (λ_ _=>rfl) ((H.out.same k (λ_ _=>rfl)).mono (Nat.le_succ _))
end
end Go.Proofs.YthbdpfccfcceiaaGreatDoor
