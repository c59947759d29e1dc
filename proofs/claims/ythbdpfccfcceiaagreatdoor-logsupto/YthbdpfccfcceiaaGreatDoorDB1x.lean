/-
  Of the proof of logsUpto_card.
-/
import Derived.Test.YthbdpfccfcceiaaGreatDoorDA5x
namespace Go.Proofs.YthbdpfccfcceiaaGreatDoor
section
open Go.RowKit Go.Maps Go.Lib
structure TS where
 B:List UInt8
 at_:Nat
 bad:Bool
def TS.some (t:TS)(n:Nat):List UInt8 × TS:=if t.bad=true∨t.B.length-t.at_<n then ([],{ t with bad:=true }) else ((t.B.drop t.at_).take n,{ t with at_:=t.at_+n })
def TS.one (t:TS):Nat × TS:=(((t.some 1).1.getD 0 0).toNat,(t.some 1).2)
def TS.four (t:TS):Nat × TS:=(t.one.1+256*(t.one.2.one.1+256*(t.one.2.one.2.one.1+256*t.one.2.one.2.one.2.one.1)),t.one.2.one.2.one.2.one.2)
def TS.text (t:TS):ByteArray × TS:=(z7b (t.one.2.some t.one.1).1,(t.one.2.some t.one.1).2)
structure znb (w:World)(r:Nat)(t:TS)(v:Value)(g:Nat):Prop where
 blk:w.heap[r]?=some (.cells #[v,.int .i64 (t.at_:Nat),.bool t.bad] 307 (0,0))
 rd:RdN w v t.B g
 ne:g≠r
 le:t.at_≤t.B.length
theorem znb.kp {S:Nat→Prop}{w w':World}{r:Nat}{t:TS}{v:Value}{g:Nat}(h:znb w r t v g)(hk:Kp S w w')(h1:¬S r)(h2:¬S g):znb w' r t v g:=
 ⟨(hk.block r (zh h.blk) h1).trans h.blk,h.rd.kp hk h2,h.ne,h.le⟩
theorem znb.wrong {w:World}{r:Nat}{t:TS}{v:Value}{g:Nat}(h:znb w r t v g):znb (w.setCell ⟨r,2,none⟩ (.bool true)) r { t with bad:=true } v g:=
 ⟨zn h.blk _,h.rd.kp (Kp.setCell (S:=λb=>b=r) w _ _ rfl) h.ne,h.ne,h.le⟩
theorem znb.on {w:World}{r:Nat}{t:TS}{v:Value}{g n:Nat}(h:znb w r t v g)(hn:n≤t.B.length):znb (w.setCell ⟨r,1,none⟩ (.int .i64 (n:Nat))) r { t with at_:=n } v g:=
 ⟨zn h.blk _,h.rd.kp (Kp.setCell (S:=λb=>b=r) w _ _ rfl) h.ne,h.ne,hn⟩
section
variable {R:Ending→World→Prop}
set_option maxRecDepth 20000 in
set_option maxHeartbeats 1000000 in
theorem z1u (r:Nat)(t:TS)(v:Value)(g n:Nat)(w:World)(h:znb w r t v g)(hn:n≤1100000)(hl:t.B.length≤1100000)
  (hR:∀w' v',znb w' r (t.some n).2 v g→RdN w' v' (t.some n).1 g→Kp (λb=>b=r) w w'→R (.returned v') w') :
  Calls Tryz.prog 245 #[.pointer (some ⟨r,0,none⟩),.int .i64 n] w R:=by
 have H:=ze h
 have c1:w.cell? ⟨r,1,none⟩=some (.int .i64 (t.at_:Nat)):=zg h.blk 1
 have c2:w.cell? ⟨r,2,none⟩=some (.bool t.bad):=zg h.blk 2
 have f1:=zj h.blk 1
 have f2:=zj h.blk 2
 have hn':(n:Int)≤1100000:=by omega
 have hl':(t.B.length:Int)≤1100000:=by omega
 have hle:(t.at_:Int)≤t.B.length:=by have:=h.le;omega
 obtain⟨p,cap,rfl,hcap,hc⟩:=h.rd
 have c0:w.cell? ⟨r,0,none⟩=some (.slice p t.B.length cap):=zg h.blk 0
 by_cases q:t.bad=true∨t.B.length-t.at_<n
 ·have e:t.some n=([],{ t with bad:=true }):=by simp[TS.some,q]
  rw[e]at hR
  have HR:Hid (∀w1,Kp (λ_=>False) w w1→R (.returned (.slice none 0 0)) (w1.setCell ⟨r,2,none⟩ (.bool true))):=λw1 k1=>hR _ (.slice none 0 0) (h.kp k1 (λe=>e) (λe=>e)).wrong ⟨none,0,rfl,Nat.le_refl _,λe=>absurd rfl e⟩ ((k1.mono (λ_ _ e=>e.elim)).trans (Kp.setCell (S:=λb=>b=r) w1 _ _ rfl) (λ_ _ e=>e))
  clear h hR hc e
  by_cases q1:t.bad=true
  ·rw[q1]at c2
   clear q
   go_enter Tryz.func245,Tryz.ntmps245
   go_wp2_with fail
   go_quiet (fail)
   all_goals go_wp2_with fail
   all_goals exact HR.out _ (Kp.drewN _ _ _)
  ·have q2:(t.B.length:Int)-t.at_<n:=q.elim (λe=>absurd e q1) (λe=>by omega)
   have q3:t.bad=false:=by simpa using q1
   rw[q3]at c2
   clear q q1
   go_enter Tryz.func245,Tryz.ntmps245
   go_wp2_with fail
   go_quiet (fail)
   all_goals go_wp2_with fail
   all_goals exact HR.out _ (Kp.drewN _ _ _)
 ·have q1:t.bad=false:=by cases hw:t.bad<;>simp_all
  have q2:¬(t.B.length:Int)-t.at_<n:=by omega
  have q3:(t.at_:Int)+n≤t.B.length:=by omega
  have q4:(t.at_:Int)+n≤cap:=by omega
  have q5:(t.at_:Int)≤cap:=by omega
  have e:t.some n=((t.B.drop t.at_).take n,{ t with at_:=t.at_+n }):=by simp[TS.some,q]
  rw[e]at hR
  rw[q1]at c2
  have HR:=ze hR
  have HC:=ze hc
  clear h hR hc e q
  go_enter Tryz.func245,Tryz.ntmps245
  go_wp2_with fail
  go_quiet (fail)
  all_goals go_wp2_with fail
  go_quiet (fail)
  all_goals go_wp2_with fail
  all_goals (
   rename_i n1 hx1
   have hT:=((H.out.kp (Kp.drewN (λ_=>False) w n1) (λe=>e) (λe=>e)).on (n:=t.at_+n) (by omega)).kp (Kp.drewN (λ_=>False) _ nq) (λe=>e) (λe=>e)
   have hK:=(((Kp.drewN (λb=>b=r) w n1).trans (Kp.setCell (S:=λb=>b=r) _ ⟨r,1,none⟩ (.int .i64 ((t.at_+n:Nat):Int)) rfl) (λ_ _ e=>e)).trans (Kp.drewN (λb=>b=r) _ nq) (λ_ _ e=>e))
   rw[show ((t.at_:Int)+n)=((t.at_+n:Nat):Int) by omega]
   refine HR.out _ _ hT ?_ hK)
  ·have hn0:n=0:=by omega
   subst hn0
   exact⟨p,0,by simp,by simp,λe=>absurd (by simp) e⟩
  ·have hlen:((t.B.drop t.at_).take n).length=n:=by rw[List.length_take,List.length_drop];omega
   refine⟨_,cap-t.at_,by rw[hlen],by rw[hlen];omega,λhne=>?_⟩
   have hb:t.B≠[]:=λe=>hne (by simp[e])
   obtain⟨hg,o,rfl,hc⟩:=HC.out hb
   refine⟨Nat.lt_of_lt_of_le hg hK.size,o+t.at_,by simp[zub],λj hj=>?_⟩
   rw[hlen]at hj
   have hj1:t.at_+j<t.B.length:=by omega
   have h1:=hc (t.at_+j) hj1
   rw[Nat.add_assoc,(hK.cell (a:=⟨g,o+(t.at_+j),none⟩) (World.block_lt_of_cell? _ _ h1) H.out.ne).trans h1]
   simp[List.getD,hj]
theorem TS.some_le (t:TS)(h:t.at_≤t.B.length)(n:Nat):(t.some n).2.B=t.B∧(t.some n).1.length≤n∧(t.some n).2.at_≤t.B.length:=by
 unfold TS.some
 split
 ·exact⟨rfl,by simp,h⟩
 ·exact⟨rfl,by simp;omega,by simp;omega⟩
theorem TS.one_B (t:TS):t.one.2.B=t.B:=by
 unfold TS.one TS.some
 split<;>rfl
theorem TS.one_lt (t:TS):t.one.1<256:=by
 unfold TS.one
 exact UInt8.toNat_lt _
set_option maxRecDepth 20000 in
set_option maxHeartbeats 1000000 in
theorem z23 (r:Nat)(t:TS)(v:Value)(g:Nat)(w:World)(h:znb w r t v g)(hl:t.B.length≤1100000)
  (hR:∀w',znb w' r t.one.2 v g→Kp (λb=>b=r) w w'→R (.returned (.int .i64 (t.one.1:Nat))) w') :
  Calls Tryz.prog 246 #[.pointer (some ⟨r,0,none⟩)] w R:=by
 have H:=ze h
 have HL:=ze hl
 have HR:=ze hR
 have HS:=ze (t.some_le h.le 1)
 clear h hl hR
 go_enter Tryz.func246,Tryz.ntmps246
 go_wp2_with (first
  |(go_at_call 245;refine z1u r t v g 1 w H.out (by omega) HL.out ?_)
  |fail)
 intro w1 v1 hT hr hk
 have HF:=ze (HR.out w1 hT hk)
 have hlen:=HS.out.2.1
 unfold TS.one at HF
 obtain⟨p,cap,rfl,hcap,hc⟩:=hr
 clear hT hk
 generalize (t.some 1).1=l at *
 match l,hlen with
 |[],_=>
  clear hc
  simp only[List.length_nil]
  go_wp2_with fail
  exact HF.out
 |[x],_=>
  obtain⟨_,o,rfl,hc2⟩:=hc (by simp)
  have hc0:=hc2 0 (by simp)
  have hx:=x.toNat_lt
  simp[b8]at hc0
  simp only[List.length_cons,List.length_nil]
  clear hc hc2 hcap
  go_wp2_with fail
  exact HF.out
theorem zgd (r:Nat)(t:TS)(a:Nat)(ta:TS)(e:t.one=(a,ta))(v:Value)(g:Nat)(w:World)(h:znb w r t v g)(hl:t.B.length≤1100000)
  (hR:∀w',znb w' r ta v g→Kp (λb=>b=r) w w'→R (.returned (.int .i64 (a:Nat))) w') :
  Calls Tryz.prog 246 #[.pointer (some ⟨r,0,none⟩)] w R:=
 z23 r t v g w h hl (by rw[e];exact hR)
set_option maxRecDepth 20000 in
set_option maxHeartbeats 1000000 in
theorem z33 (r:Nat)(t:TS)(v:Value)(g:Nat)(w:World)(h:znb w r t v g)(hl:t.B.length≤1100000)
  (hR:∀w',znb w' r t.four.2 v g→Kp (λb=>b=r) w w'→R (.returned (.int .i64 (t.four.1:Nat))) w') :
  Calls Tryz.prog 197 #[.pointer (some ⟨r,0,none⟩)] w R:=by
 have H:=ze h
 have HL:=ze hl
 have HR:=ze hR
 have l1:=t.one_lt
 have l2:=t.one.2.one_lt
 have l3:=t.one.2.one.2.one_lt
 have l4:=t.one.2.one.2.one.2.one_lt
 have hb1:=ze (t.one_B)
 have hb2:=ze (t.one.2.one_B.trans t.one_B)
 have hb3:=ze ((t.one.2.one.2.one_B.trans t.one.2.one_B).trans t.one_B)
 clear h hl hR
 unfold TS.four at HR
 generalize e1:t.one=t1 at *
 generalize e2:t1.2.one=t2 at *
 generalize e3:t2.2.one=t3 at *
 generalize e4:t3.2.one=t4 at *
 obtain⟨a,ta⟩:=t1
 obtain⟨b,tb⟩:=t2
 obtain⟨c,tc⟩:=t3
 obtain⟨d,td⟩:=t4
 simp only at *
 have E1:=ze e1
 have E2:=ze e2
 have E3:=ze e3
 have E4:=ze e4
 have l1':(a:Int)<256:=by omega
 have l2':(b:Int)<256:=by omega
 have l3':(c:Int)<256:=by omega
 have l4':(d:Int)<256:=by omega
 have m1:(c:Int)+256*d≤65536:=by omega
 have m2:(b:Int)+256*(c+256*d)≤16777216:=by omega
 have m3:(a:Int)+256*(b+256*(c+256*d))≤4294967296:=by omega
 clear e1 e2 e3 e4
 go_enter Tryz.func197,Tryz.ntmps197
 go_wp2_with (first
  |(go_at_call 246;refine zgd r t a ta E1.out v g w H.out HL.out ?_;intro w1 hT1 hk1;have H1:=ze hT1;have HK1:=ze hk1;clear hT1 hk1)
  |(go_at_call 246;refine zgd r ta b tb E2.out v g w1 H1.out (by rw[hb1.out];exact HL.out) ?_;intro w2 hT2 hk2;have H2:=ze hT2;have HK2:=ze (HK1.out.trans hk2 (λ_ _ h=>h));clear hT2 hk2)
  |(go_at_call 246;refine zgd r tb c tc E3.out v g w2 H2.out (by rw[hb2.out];exact HL.out) ?_;intro w3 hT3 hk3;have H3:=ze hT3;have HK3:=ze (HK2.out.trans hk3 (λ_ _ h=>h));clear hT3 hk3)
  |(go_at_call 246;refine zgd r tc d td E4.out v g w3 H3.out (by rw[hb3.out];exact HL.out) ?_;intro w4 hT4 hk4;have H4:=ze hT4;have HK4:=ze (HK3.out.trans hk4 (λ_ _ h=>h));clear hT4 hk4)
  |fail)
 have HF:=HR.out w4 H4.out HK4.out
 rw[show (((a+256*(b+256*(c+256*d)):Nat)):Int)=(a:Int)+256*(b+256*(c+256*d)) by omega]at HF
 exact HF
theorem TS.four_B (t:TS):t.four.2.B=t.B:=((((TS.one_B _).trans (TS.one_B _)).trans (TS.one_B _)).trans (TS.one_B _))
theorem TS.four_lt (t:TS):t.four.1<4294967296:=by
 unfold TS.four
 dsimp only
 have l1:=t.one_lt
 have l2:=t.one.2.one_lt
 have l3:=t.one.2.one.2.one_lt
 have l4:=t.one.2.one.2.one.2.one_lt
 omega
theorem zvq (r:Nat)(t:TS)(a:Nat)(ta:TS)(e:t.four=(a,ta))(v:Value)(g:Nat)(w:World)(h:znb w r t v g)(hl:t.B.length≤1100000)
  (hR:∀w',znb w' r ta v g→Kp (λb=>b=r) w w'→R (.returned (.int .i64 (a:Nat))) w') :
  Calls Tryz.prog 197 #[.pointer (some ⟨r,0,none⟩)] w R:=
 z33 r t v g w h hl (by rw[e];exact hR)
theorem zci {w:World}{v:Value}{l:List UInt8}{g:Nat}(h:RdN w v l g):(convert 48 9 v).run Tryz.prog w = .ok (.string (z7b l)) w:=by
 obtain⟨p,cap,rfl,_,hc⟩:=h
 by_cases hl:l=[]
 ·subst hl
  cases p with
  |none=>
   rw[List.length_nil,run_convert_bytes_string (P:=Tryz.prog) w 48 9 5 none 0 cap Tryz.underlying48 Tryz.underlying5 Tryz.underlying9]
   rfl
  |some a=>exact run_convert_bytes_back (P:=Tryz.prog) w 48 9 5 a cap [] Tryz.underlying48 Tryz.underlying5 Tryz.underlying9 (λj hj=>by simp at hj)
 ·obtain⟨_,o,rfl,hc2⟩:=hc hl
  exact zyo w g o cap l hc2
end
end
section
open Go.RowKit Go.Maps Go.Lib
def TS.wrong (t:TS):TS:={ t with bad:=true }
def TS.ver0 (t:TS):(ByteArray × Bool) × TS:=if t.one.1=0 then ((t.one.2.text.1,false),t.one.2.text.2) else if t.one.1=1 then ((eb,true),t.one.2) else ((eb,false),t.one.2.wrong)
def TS.ver (t:TS)(key:ByteArray):(ByteArray × Bool) × TS:=(t.ver0.1,if zu key=true∧t.ver0.1.1.size≤20 then t.ver0.2 else t.ver0.2.wrong)
theorem TS.some_B (t:TS)(n:Nat):(t.some n).2.B=t.B:=by
 unfold TS.some
 split<;>rfl
theorem TS.text_B (t:TS):t.text.2.B=t.B:=by
 unfold TS.text
 exact (TS.some_B _ _).trans t.one_B
theorem TS.text_size (t:TS):t.text.1.size≤255:=by
 unfold TS.text
 rw[z5g]
 have h1:=t.one_lt
 unfold TS.some
 split
 ·simp
 ·simp;omega
section
variable {R:Ending→World→Prop}
set_option maxRecDepth 20000 in
set_option maxHeartbeats 1000000 in
theorem zkn (r:Nat)(t:TS)(v:Value)(g:Nat)(w:World)(h:znb w r t v g)(hl:t.B.length≤1100000)
  (hR:∀w',znb w' r t.text.2 v g→Kp (λb=>b=r) w w'→R (.returned (.string t.text.1)) w') :
  Calls Tryz.prog 198 #[.pointer (some ⟨r,0,none⟩)] w R:=by
 have H:=ze h
 have HL:=ze hl
 have HR:=ze hR
 have HB:=ze t.one_B
 have HLT:=ze t.one_lt
 clear h hl hR
 unfold TS.text at HR
 generalize e1:t.one=t1 at *
 obtain⟨a,ta⟩:=t1
 simp only at *
 have E1:=ze e1
 clear e1
 go_enter Tryz.func198,Tryz.ntmps198
 go_wp2_with (first
  |(go_at_call 246;refine zgd r t a ta E1.out v g w H.out HL.out ?_;intro w1 hT1 hk1;have H1:=ze hT1;have HK1:=ze hk1;clear hT1 hk1)
  |(go_at_call 245;refine z1u r ta v g a w1 H1.out (by have:=HLT.out;omega) (by rw[HB.out];exact HL.out) ?_;intro w2 v2 hT2 hr2 hk2;have HF:=ze (HR.out w2 hT2 (HK1.out.trans hk2 (λ_ _ h=>h)));have q:=zci hr2;clear hT2 hk2 hr2)
  |fail)
 exact HF.out
set_option maxRecDepth 20000 in
set_option maxHeartbeats 1000000 in
theorem z8y (r:Nat)(t:TS)(v:Value)(g:Nat)(key:ByteArray)(w:World)(h:znb w r t v g)(hg:g<w.heap.size)(hl:t.B.length≤1100000)(hkey:key.size≤maxLen)
  (hR:∀w',znb w' r (t.ver key).2 v g→Kp (λb=>b=r) w w'→R (.returned (.agg #[.string key,.int .i64 0,.bool (t.ver key).1.2,.string (t.ver key).1.1])) w') :
  Calls Tryz.prog 199 #[.pointer (some ⟨r,0,none⟩),.string key] w R:=by
 have hr:=zh h.blk
 have kA:=Kp.alloc (λ_=>False) w (.cells #[.string ⟨#[]⟩,.int .i64 0,.bool false,.string ⟨#[]⟩] 193)
 have kB:=Kp.alloc (λ_=>False) (w.alloc (.cells #[.string ⟨#[]⟩,.int .i64 0,.bool false,.string ⟨#[]⟩] 193)) (.cells #[.string key,.int .i64 0,.bool false,.string ⟨#[]⟩] 193)
 have bA:=heap_alloc_new w (.cells #[.string ⟨#[]⟩,.int .i64 0,.bool false,.string ⟨#[]⟩] 193)
 have bB:=heap_alloc_new (w.alloc (.cells #[.string ⟨#[]⟩,.int .i64 0,.bool false,.string ⟨#[]⟩] 193)) (.cells #[.string key,.int .i64 0,.bool false,.string ⟨#[]⟩] 193)
 have sA:(w.alloc (.cells #[.string ⟨#[]⟩,.int .i64 0,.bool false,.string ⟨#[]⟩] 193)).heap.size=w.heap.size+1:=by simp
 rw[sA]at bB
 have H0:=ze ((h.kp kA (λe=>e) (λe=>e)).kp kB (λe=>e) (λe=>e))
 have K0:=ze (kA.trans kB (λ_ _ e=>e))
 have HBA:Hid (((w.alloc (.cells #[.string ⟨#[]⟩,.int .i64 0,.bool false,.string ⟨#[]⟩] 193)).alloc (.cells #[.string key,.int .i64 0,.bool false,.string ⟨#[]⟩] 193)).heap[w.heap.size]?=some (.cells #[.string ⟨#[]⟩,.int .i64 0,.bool false,.string ⟨#[]⟩] 193 (0,0))):=(kB.block _ (zh bA) (λe=>e)).trans bA
 have HBB:=ze bB
 have HR:=ze hR
 have HL:=ze hl
 have HKEY:=ze hkey
 have HB1:=ze t.one_B
 have HTS:=ze t.one.2.text_size
 have l1:=t.one_lt
 clear h hR hl kA kB bA bB sA hkey
 generalize hW:(w.alloc (.cells #[.string ⟨#[]⟩,.int .i64 0,.bool false,.string ⟨#[]⟩] 193)).alloc (.cells #[.string key,.int .i64 0,.bool false,.string ⟨#[]⟩] 193)=W0 at H0 K0 HBA HBB
 have HW:=ze hW
 clear hW
 -- the end
 have FIN:Hid (∀(X:World) (t':TS) (y:YV),znb X r t' v g→Kp (λb=>b=r∨b=w.heap.size+1) W0 X→znb (zfl X w.heap.size 0 y) r t' v g∧Kp (λb=>b=r) w (zfl X w.heap.size 0 y)∧(zfl X w.heap.size 0 y).heap[w.heap.size]?=some (.cells #[.string y.key,.int .i64 y.t,.bool y.gone,.string y.s] 193 (0,0))):=λX t' y hX hk=>by
  have k4:=zeo X w.heap.size 0 y
  have hA:=(hk.block _ (zh HBA.out) (λe=>by omega)).trans HBA.out
  exact⟨hX.kp k4 (λe=>by omega) (λe=>by omega),((K0.out.mono (λ_ _ e=>e.elim)).trans hk (λb hb e=>e.elim (λe=>e) (λe=>by omega))).trans k4 (λb hb e=>by omega),zn (zn (zn (zn hA _) _) _) _⟩
 have CB:Hid (∀X,Kp (λb=>b=r) W0 X→X.heap[w.heap.size+1]?=some (.cells #[.string key,.int .i64 0,.bool false,.string ⟨#[]⟩] 193 (0,0))):=λX hk=>(hk.block _ (zh HBB.out) (λe=>by omega)).trans HBB.out
 have CA:Hid (∀X,Kp (λb=>b=r) W0 X→X.heap[w.heap.size]?=some (.cells #[.string ⟨#[]⟩,.int .i64 0,.bool false,.string ⟨#[]⟩] 193 (0,0))):=λX hk=>(hk.block _ (zh HBA.out) (λe=>by omega)).trans HBA.out
 have nr:r≠w.heap.size:=by omega
 have nr':w.heap.size≠r:=by omega
 have nr2:r≠w.heap.size+1:=by omega
 have nr2':w.heap.size+1≠r:=by omega
 unfold TS.ver TS.ver0 at HR
 generalize e1:t.one=t1 at *
 obtain⟨a,ta⟩:=t1
 simp only at *
 have E1:=ze e1
 have hbt:=ze ta.text_B
 clear e1
 by_cases q0:a=0
 ·subst q0
  simp only[if_true]at HR
  generalize e2:ta.text=t2 at *
  obtain⟨S,tb⟩:=t2
  simp only at *
  have E2:=ze e2
  clear e2
  have hS:(S.size:Int)≤255:=by have:=HTS.out;omega
  by_cases q1:zu key=true
  ·by_cases q2:S.size≤20
   ·have q2':¬(20:Int)<S.size:=by omega
    simp only[q1,q2,and_self,if_true]at HR
    go_enter Tryz.func199,Tryz.ntmps199
    go_wp2_with (first
     |(go_at_call 246;rw[HW.out];refine zgd r t 0 ta E1.out v g W0 H0.out HL.out ?_;intro w1 hT1 hk1;have H1:=ze hT1;have HK1:=ze hk1;clear hT1 hk1)
     |(go_at_call 198;refine zkn r ta v g w1 H1.out (by rw[HB1.out];exact HL.out) ?_;intro w2 hT2 hk2;rw[E2.out]at hT2 ⊢;have H2:=ze hT2;have HK2:=ze (HK1.out.trans hk2 (λ_ _ h=>h));have b0:=zg (CB.out w2 HK2.out) 0;have b1:=zg (CB.out w2 HK2.out) 1;have b2:=zg (CB.out w2 HK2.out) 2;have b3:=zg (CB.out w2 HK2.out) 3;have bf:=λo=>zj (CB.out w2 HK2.out) o;have bf2:=bf 2;have bf3:=bf 3;have a0:=zg (CA.out w2 HK2.out) 0;have a1:=zg (CA.out w2 HK2.out) 1;have a2:=zg (CA.out w2 HK2.out) 2;have a3:=zg (CA.out w2 HK2.out) 3;have af:=λo=>zj (CA.out w2 HK2.out) o;have r2:=zg hT2.blk 2;have rf:=zj hT2.blk 2;simp at b0 b1 b2 b3 a0 a1 a2 a3 r2;clear hT2 hk2)
     |(go_at_call 151;refine (z8b _ _ HKEY.out).mono ?_;rintro e w' ⟨rfl,rfl⟩)
     |fail)
    obtain⟨h1,h2,h3⟩:=FIN.out (w2.setCell ⟨w.heap.size+1,3,none⟩ (.string S)) tb ⟨key,0,false,S⟩ (znb.kp H2.out (Kp.setCell (S:=λb=>b=w.heap.size+1) _ _ _ rfl) (λe=>by omega) (λe=>by omega)) ((HK2.out.mono (λ_ _ e=>Or.inl e)).trans (Kp.setCell (S:=λb=>b=w.heap.size+1) _ _ _ rfl) (λ_ _ e=>Or.inr e))
    refine bodyPost_ret (results_cell_row rfl _ _ w.heap.size 193 _ (0,0) _ rfl h3 Tryz.underlying193 rfl (by kernel_rfl)) rfl ?_
    exact HR.out _ h1 h2
   ·have q2':(20:Int)<S.size:=by omega
    simp only[q2,and_false,if_false]at HR
    go_enter Tryz.func199,Tryz.ntmps199
    go_wp2_with (first
     |(go_at_call 246;rw[HW.out];refine zgd r t 0 ta E1.out v g W0 H0.out HL.out ?_;intro w1 hT1 hk1;have H1:=ze hT1;have HK1:=ze hk1;clear hT1 hk1)
     |(go_at_call 198;refine zkn r ta v g w1 H1.out (by rw[HB1.out];exact HL.out) ?_;intro w2 hT2 hk2;rw[E2.out]at hT2 ⊢;have H2:=ze hT2;have HK2:=ze (HK1.out.trans hk2 (λ_ _ h=>h));have b0:=zg (CB.out w2 HK2.out) 0;have b1:=zg (CB.out w2 HK2.out) 1;have b2:=zg (CB.out w2 HK2.out) 2;have b3:=zg (CB.out w2 HK2.out) 3;have bf:=λo=>zj (CB.out w2 HK2.out) o;have bf2:=bf 2;have bf3:=bf 3;have a0:=zg (CA.out w2 HK2.out) 0;have a1:=zg (CA.out w2 HK2.out) 1;have a2:=zg (CA.out w2 HK2.out) 2;have a3:=zg (CA.out w2 HK2.out) 3;have af:=λo=>zj (CA.out w2 HK2.out) o;have r2:=zg hT2.blk 2;have rf:=zj hT2.blk 2;simp at b0 b1 b2 b3 a0 a1 a2 a3 r2;clear hT2 hk2)
     |(go_at_call 151;refine (z8b _ _ HKEY.out).mono ?_;rintro e w' ⟨rfl,rfl⟩)
     |fail)
    obtain⟨h1,h2,h3⟩:=FIN.out ((w2.setCell ⟨w.heap.size+1,3,none⟩ (.string S)).setCell ⟨r,2,none⟩ (.bool true)) (TS.wrong tb) ⟨key,0,false,S⟩ (znb.wrong (znb.kp H2.out (Kp.setCell (S:=λb=>b=w.heap.size+1) _ _ _ rfl) (λe=>by omega) (λe=>by omega))) (((HK2.out.mono (λ_ _ e=>Or.inl e)).trans (Kp.setCell (S:=λb=>b=w.heap.size+1) _ _ _ rfl) (λ_ _ e=>Or.inr e)).trans (Kp.setCell (S:=λb=>b=r) _ _ _ rfl) (λ_ _ e=>Or.inl e))
    refine bodyPost_ret (results_cell_row rfl _ _ w.heap.size 193 _ (0,0) _ rfl h3 Tryz.underlying193 rfl (by kernel_rfl)) rfl ?_
    exact HR.out _ h1 h2
  ·have q1':zu key=false:=by simpa using q1
   simp only[q1]at HR
   clear q1
   go_enter Tryz.func199,Tryz.ntmps199
   go_wp2_with (first
    |(go_at_call 246;rw[HW.out];refine zgd r t 0 ta E1.out v g W0 H0.out HL.out ?_;intro w1 hT1 hk1;have H1:=ze hT1;have HK1:=ze hk1;clear hT1 hk1)
    |(go_at_call 198;refine zkn r ta v g w1 H1.out (by rw[HB1.out];exact HL.out) ?_;intro w2 hT2 hk2;rw[E2.out]at hT2 ⊢;have H2:=ze hT2;have HK2:=ze (HK1.out.trans hk2 (λ_ _ h=>h));have b0:=zg (CB.out w2 HK2.out) 0;have b1:=zg (CB.out w2 HK2.out) 1;have b2:=zg (CB.out w2 HK2.out) 2;have b3:=zg (CB.out w2 HK2.out) 3;have bf:=λo=>zj (CB.out w2 HK2.out) o;have bf2:=bf 2;have bf3:=bf 3;have a0:=zg (CA.out w2 HK2.out) 0;have a1:=zg (CA.out w2 HK2.out) 1;have a2:=zg (CA.out w2 HK2.out) 2;have a3:=zg (CA.out w2 HK2.out) 3;have af:=λo=>zj (CA.out w2 HK2.out) o;have r2:=zg hT2.blk 2;have rf:=zj hT2.blk 2;simp at b0 b1 b2 b3 a0 a1 a2 a3 r2;clear hT2 hk2)
    |(go_at_call 151;refine (z8b _ _ HKEY.out).mono ?_;rintro e w' ⟨rfl,rfl⟩)
    |fail)
   obtain⟨h1,h2,h3⟩:=FIN.out ((w2.setCell ⟨w.heap.size+1,3,none⟩ (.string S)).setCell ⟨r,2,none⟩ (.bool true)) (TS.wrong tb) ⟨key,0,false,S⟩ (znb.wrong (znb.kp H2.out (Kp.setCell (S:=λb=>b=w.heap.size+1) _ _ _ rfl) (λe=>by omega) (λe=>by omega))) (((HK2.out.mono (λ_ _ e=>Or.inl e)).trans (Kp.setCell (S:=λb=>b=w.heap.size+1) _ _ _ rfl) (λ_ _ e=>Or.inr e)).trans (Kp.setCell (S:=λb=>b=r) _ _ _ rfl) (λ_ _ e=>Or.inl e))
   refine bodyPost_ret (results_cell_row rfl _ _ w.heap.size 193 _ (0,0) _ rfl h3 Tryz.underlying193 rfl (by kernel_rfl)) rfl ?_
   exact HR.out _ h1 h2
 ·have es:eb.size=0:=rfl
  by_cases q1:a=1
  ·subst q1
   simp only[if_neg (show ¬(1=0) by omega),if_true,es,Nat.zero_le,and_true]at HR
   clear q0 es
   by_cases q2:zu key=true
   ·simp only[q2,if_true]at HR
    go_enter Tryz.func199,Tryz.ntmps199
    go_wp2_with (first
     |(go_at_call 246;rw[HW.out];refine zgd r t 1 ta E1.out v g W0 H0.out HL.out ?_;intro w1 hT1 hk1;have H1:=ze hT1;have HK1:=ze hk1;have b0:=zg (CB.out w1 hk1) 0;have b1:=zg (CB.out w1 hk1) 1;have b2:=zg (CB.out w1 hk1) 2;have b3:=zg (CB.out w1 hk1) 3;have bf:=λo=>zj (CB.out w1 hk1) o;have bf2:=bf 2;have bf3:=bf 3;have a0:=zg (CA.out w1 hk1) 0;have a1:=zg (CA.out w1 hk1) 1;have a2:=zg (CA.out w1 hk1) 2;have a3:=zg (CA.out w1 hk1) 3;have af:=λo=>zj (CA.out w1 hk1) o;have r2:=zg hT1.blk 2;have rf:=zj hT1.blk 2;simp at b0 b1 b2 b3 a0 a1 a2 a3 r2;clear hT1 hk1)
     |(go_at_call 151;refine (z8b _ _ HKEY.out).mono ?_;rintro e w' ⟨rfl,rfl⟩)
     |fail)
    obtain⟨h1,h2,h3⟩:=FIN.out (w1.setCell ⟨w.heap.size+1,2,none⟩ (.bool true)) ta ⟨key,0,true,eb⟩ (znb.kp H1.out (Kp.setCell (S:=λb=>b=w.heap.size+1) _ _ _ rfl) (λe=>by omega) (λe=>by omega)) ((HK1.out.mono (λ_ _ e=>Or.inl e)).trans (Kp.setCell (S:=λb=>b=w.heap.size+1) _ _ _ rfl) (λ_ _ e=>Or.inr e))
    refine bodyPost_ret (results_cell_row rfl _ _ w.heap.size 193 _ (0,0) _ rfl h3 Tryz.underlying193 rfl (by kernel_rfl)) rfl ?_
    exact HR.out _ h1 h2
   ·simp only[if_neg q2]at HR
    have q2':zu key=false:=by simpa using q2
    clear q2
    go_enter Tryz.func199,Tryz.ntmps199
    go_wp2_with (first
     |(go_at_call 246;rw[HW.out];refine zgd r t 1 ta E1.out v g W0 H0.out HL.out ?_;intro w1 hT1 hk1;have H1:=ze hT1;have HK1:=ze hk1;have b0:=zg (CB.out w1 hk1) 0;have b1:=zg (CB.out w1 hk1) 1;have b2:=zg (CB.out w1 hk1) 2;have b3:=zg (CB.out w1 hk1) 3;have bf:=λo=>zj (CB.out w1 hk1) o;have bf2:=bf 2;have bf3:=bf 3;have a0:=zg (CA.out w1 hk1) 0;have a1:=zg (CA.out w1 hk1) 1;have a2:=zg (CA.out w1 hk1) 2;have a3:=zg (CA.out w1 hk1) 3;have af:=λo=>zj (CA.out w1 hk1) o;have r2:=zg hT1.blk 2;have rf:=zj hT1.blk 2;simp at b0 b1 b2 b3 a0 a1 a2 a3 r2;clear hT1 hk1)
     |(go_at_call 151;refine (z8b _ _ HKEY.out).mono ?_;rintro e w' ⟨rfl,rfl⟩)
     |fail)
    obtain⟨h1,h2,h3⟩:=FIN.out ((w1.setCell ⟨w.heap.size+1,2,none⟩ (.bool true)).setCell ⟨r,2,none⟩ (.bool true)) (TS.wrong ta) ⟨key,0,true,eb⟩ (znb.wrong (znb.kp H1.out (Kp.setCell (S:=λb=>b=w.heap.size+1) _ _ _ rfl) (λe=>by omega) (λe=>by omega))) (((HK1.out.mono (λ_ _ e=>Or.inl e)).trans (Kp.setCell (S:=λb=>b=w.heap.size+1) _ _ _ rfl) (λ_ _ e=>Or.inr e)).trans (Kp.setCell (S:=λb=>b=r) _ _ _ rfl) (λ_ _ e=>Or.inl e))
    refine bodyPost_ret (results_cell_row rfl _ _ w.heap.size 193 _ (0,0) _ rfl h3 Tryz.underlying193 rfl (by kernel_rfl)) rfl ?_
    exact HR.out _ h1 h2
  ·have q0':((a:Int) == 0)=false:=by simpa using q0
   have q1':((a:Int) == 1)=false:=by simp;omega
   simp only[if_neg q0,if_neg q1,es,Nat.zero_le,and_true]at HR
   clear es
   by_cases q2:zu key=true
   ·simp only[q2,if_true]at HR
    go_enter Tryz.func199,Tryz.ntmps199
    go_wp2_with (first
     |(go_at_call 246;rw[HW.out];refine zgd r t a ta E1.out v g W0 H0.out HL.out ?_;intro w1 hT1 hk1;have H1:=ze hT1;have HK1:=ze hk1;have b0:=zg (CB.out w1 hk1) 0;have b1:=zg (CB.out w1 hk1) 1;have b2:=zg (CB.out w1 hk1) 2;have b3:=zg (CB.out w1 hk1) 3;have bf:=λo=>zj (CB.out w1 hk1) o;have bf2:=bf 2;have bf3:=bf 3;have a0:=zg (CA.out w1 hk1) 0;have a1:=zg (CA.out w1 hk1) 1;have a2:=zg (CA.out w1 hk1) 2;have a3:=zg (CA.out w1 hk1) 3;have af:=λo=>zj (CA.out w1 hk1) o;have r2:=zg hT1.blk 2;have rf:=zj hT1.blk 2;simp at b0 b1 b2 b3 a0 a1 a2 a3 r2;clear hT1 hk1)
     |(go_at_call 151;refine (z8b _ _ HKEY.out).mono ?_;rintro e w' ⟨rfl,rfl⟩)
     |fail)
    obtain⟨h1,h2,h3⟩:=FIN.out (w1.setCell ⟨r,2,none⟩ (.bool true)) (TS.wrong ta) ⟨key,0,false,eb⟩ (znb.wrong H1.out) ((HK1.out.mono (λ_ _ e=>Or.inl e)).trans (Kp.setCell (S:=λb=>b=r) _ _ _ rfl) (λ_ _ e=>Or.inl e))
    refine bodyPost_ret (results_cell_row rfl _ _ w.heap.size 193 _ (0,0) _ rfl h3 Tryz.underlying193 rfl (by kernel_rfl)) rfl ?_
    exact HR.out _ h1 h2
   ·simp only[if_neg q2]at HR
    have q2':zu key=false:=by simpa using q2
    clear q2
    go_enter Tryz.func199,Tryz.ntmps199
    go_wp2_with (first
     |(go_at_call 246;rw[HW.out];refine zgd r t a ta E1.out v g W0 H0.out HL.out ?_;intro w1 hT1 hk1;have H1:=ze hT1;have HK1:=ze hk1;have b0:=zg (CB.out w1 hk1) 0;have b1:=zg (CB.out w1 hk1) 1;have b2:=zg (CB.out w1 hk1) 2;have b3:=zg (CB.out w1 hk1) 3;have bf:=λo=>zj (CB.out w1 hk1) o;have bf2:=bf 2;have bf3:=bf 3;have a0:=zg (CA.out w1 hk1) 0;have a1:=zg (CA.out w1 hk1) 1;have a2:=zg (CA.out w1 hk1) 2;have a3:=zg (CA.out w1 hk1) 3;have af:=λo=>zj (CA.out w1 hk1) o;have r2:=zg hT1.blk 2;have rf:=zj hT1.blk 2;simp at b0 b1 b2 b3 a0 a1 a2 a3 r2;clear hT1 hk1)
     |(go_at_call 151;refine (z8b _ _ HKEY.out).mono ?_;rintro e w' ⟨rfl,rfl⟩)
     |fail)
    obtain⟨h1,h2,h3⟩:=FIN.out ((w1.setCell ⟨r,2,none⟩ (.bool true)).setCell ⟨r,2,none⟩ (.bool true)) (TS.wrong (TS.wrong ta)) ⟨key,0,false,eb⟩ (znb.wrong (znb.wrong H1.out)) (((HK1.out.mono (λ_ _ e=>Or.inl e)).trans (Kp.setCell (S:=λb=>b=r) _ _ _ rfl) (λ_ _ e=>Or.inl e)).trans (Kp.setCell (S:=λb=>b=r) _ _ _ rfl) (λ_ _ e=>Or.inl e))
    refine bodyPost_ret (results_cell_row rfl _ _ w.heap.size 193 _ (0,0) _ rfl h3 Tryz.underlying193 rfl (by kernel_rfl)) rfl ?_
    exact HR.out _ h1 h2
end
end
end Go.Proofs.YthbdpfccfcceiaaGreatDoor
