/-
  Of the proof of logsUpto_card.
-/
import Derived.Test.YthbdpfccfcceiaaGreatDoorDB7
namespace Go.Proofs.YthbdpfccfcceiaaGreatDoor
section
open Go.RowKit Go.Maps Go.Lib
structure zfq (t:TS)(bs:List UInt8)(a b:Nat)(body sm:List UInt8)(td:TS):Prop where
 two:2≤bs.length
 len:a+256*b=z0e bs
 all:2+z0e bs+4≤bs.length
 body_:body=(bs.take (2+z0e bs)).drop 2
 sum:sm=(bs.drop (2+z0e bs)).take 4
 ok:td.bad=false
 at_:td.at_=t.at_+(2+z0e bs)+4
 B:td.B=t.B
theorem za0 {t:TS}{bs:List UInt8}(h:Has t bs) :
  (((t.one.2.one.2.some (t.one.1+256*t.one.2.one.1)).2.some 4).2.bad=true∧∀k T ws m,¬zfc bs k T ws m)∨
  zfq t bs t.one.1 t.one.2.one.1 (t.one.2.one.2.some (t.one.1+256*t.one.2.one.1)).1 ((t.one.2.one.2.some (t.one.1+256*t.one.2.one.1)).2.some 4).1 ((t.one.2.one.2.some (t.one.1+256*t.one.2.one.1)).2.some 4).2:=by
 have no:∀{k T ws m},zfc bs k T ws m→2≤bs.length∧2+z0e bs+4≤bs.length:=λ⟨h1,c,h2,_⟩=>⟨h1,by have:=(zvk h2).1;omega⟩
 match bs,h with
 |[],h=>exact Or.inl ⟨zue (zue (zed h.one_nil) _) _,λk T ws m hc=>by have:=(no hc).1;simp at this⟩
 |[x],h=>exact Or.inl ⟨zue (zue h.one_cons.2.1.one_nil _) _,λk T ws m hc=>by have:=(no hc).1;simp at this⟩
 |x::y::r,h=>
  obtain⟨a1,a2,a3⟩:=h.one_cons
  obtain⟨b1,b2,b3⟩:=a2.one_cons
  have hn:t.one.1+256*t.one.2.one.1=z0e (x::y::r):=by rw[a1,b1];rfl
  rw[hn]
  by_cases q1:z0e (x::y::r)≤r.length
  ·obtain⟨c1,c2,c3⟩:=b2.some_ok q1
   by_cases q2:4≤(r.drop (z0e (x::y::r))).length
   ·obtain⟨d1,d2,d3⟩:=c2.some_ok q2
    rw[List.length_drop]at q2
    refine Or.inr ⟨by simp,hn,by simp;omega,?_,?_,d2.ok,?_,?_⟩
    ·rw[c1,Nat.add_comm 2]
     rfl
    ·rw[d1,Nat.add_comm 2]
     rfl
    ·rw[d3,c3,b3,a3];omega
    ·rw[TS.some_B,TS.some_B,TS.one_B,TS.one_B]
   ·rw[List.length_drop]at q2
    refine Or.inl ⟨by rw[c2.some_no (by rw[List.length_drop];omega)];rfl,λk T ws m hc=>?_⟩
    have:=(no hc).2
    simp at this
    omega
  ·refine Or.inl ⟨zue (by rw[b2.some_no (by omega)];rfl) _,λk T ws m hc=>?_⟩
   have:=(no hc).2
   simp at this
   omega
theorem z1o {x:Nat}(hx:x<4294967296){l:List UInt8}(hl:l.length=4):fourB x=l↔le4 l=x:=by
 match l,hl with
 |[a,b,c,d],_=>
  constructor
  ·intro e
   rw[← e,znh x hx]
  ·intro e
   rw[← e,z5r]
theorem zk0 (bs:List UInt8):z5c bs<4294967296:=zph bs
theorem zfq.cut {t td:TS}{bs body sm:List UInt8}{a b:Nat}(h:zfq t bs a b body sm td)(k T:Nat)(ws:List W3)(m:List UInt8):zfc bs k T ws m↔fourB (z5c (bs.take (2+z0e bs)))=sm∧z4d body k T ws∧m=bs.drop (2+z0e bs+4):=by
 have hall:=h.all
 have hl:sm.length=4:=by rw[h.sum,List.length_take,List.length_drop];omega
 rw[z1o (zk0 _) hl]
 unfold zfc zlc
 constructor
 ·rintro⟨_,c,h1,h2⟩
  split at h1
  ·cases h1
  ·rename_i q
   injection h1 with h1
   injection h1 with e1 e2
   subst e1
   refine⟨?_,by rw[h.body_];exact h2,e2.symm⟩
   rw[h.sum]
   exact Classical.byContradiction (λhn=>q (Or.inr hn))
 ·rintro⟨h1,h2,rfl⟩
  refine⟨h.two,bs.take (2+z0e bs),?_,by rw[← h.body_];exact h2⟩
  rw[if_neg]
  rintro (q|q)
  ·omega
  ·rw[h.sum]at h1;exact q h1
theorem zfq.has {t td:TS}{bs body sm:List UInt8}{a b:Nat}(h:zfq t bs a b body sm td)(hh:Has t bs):Has td (bs.drop (2+z0e bs+4)):=by
 have hall:=h.all
 have hl:=hh.len
 have:=hh.le
 refine⟨h.ok,?_,by rw[h.at_,h.B];omega⟩
 rw[h.at_,h.B,← hh.bs,List.drop_drop]
 congr 1
structure zah (w W:World)(r:Nat)(t:TS)(v:Value)(g:Nat):Prop where
 kp:Kp (λb=>b=r) w W
 a:W.heap[w.heap.size]?=some (.cells #[.bool false,.int .i64 0,.slice none 0 0,.slice none 0 0] 255 (0,0))
 tk:znb W r t v g
theorem zah.start {w:World}{r:Nat}{t:TS}{v:Value}{g:Nat}(h:znb w r t v g):zah w (w.alloc (.cells #[.bool false,.int .i64 0,.slice none 0 0,.slice none 0 0] 255)) r t v g:=
 ⟨Kp.alloc _ _ _,heap_alloc_new w _,h.kp (Kp.alloc (λ_=>False) w _) (λe=>e) (λe=>e)⟩
theorem zah.step {w W W':World}{r:Nat}{t t':TS}{v:Value}{g:Nat}(h:zah w W r t v g)(hr:r<w.heap.size)(k:Kp (λb=>b=r) W W')(ht:znb W' r t' v g):zah w W' r t' v g:=
 ⟨h.kp.trans k (λ_ _ e=>e),(k.block _ (zh h.a) (λe=>by omega)).trans h.a,ht⟩
theorem zah.kept {w W W':World}{r:Nat}{t:TS}{v:Value}{g:Nat}(h:zah w W r t v g)(k:Kp (λ_=>False) W W'):zah w W' r t v g:=
 ⟨h.kp.trans (k.mono (S':=λb=>b=r) (λ_ _ e=>e.elim)) (λ_ _ e=>e),(k.block _ (zh h.a) (λe=>e)).trans h.a,h.tk.kp k (λe=>e) (λe=>e)⟩
theorem zah.out {w W:World}{r:Nat}{t:TS}{v:Value}{g:Nat}(h:zah w W r t v g)(hr:r<w.heap.size)(hg:g<w.heap.size)(x y z u:Value):(zej W w.heap.size x y z u).heap[w.heap.size]?=some (.cells #[x,y,z,u] 255 (0,0))∧Kp (λb=>b=r) w (zej W w.heap.size x y z u)∧znb (zej W w.heap.size x y z u) r t v g:=
 ⟨zn (zn (zn (zn h.a _) _) _) _,h.kp.trans (z8f W w.heap.size _ _ _ _) (λb hb e=>by omega),h.tk.kp (z8f W w.heap.size x y z u) (by omega) (by omega)⟩
section
variable {R:Ending→World→Prop}
theorem z43 (v:Value)(body:List UInt8)(g:Nat)(w:World)(h:RdN w v body g)(hg:g<w.heap.size)(hl:body.length≤1100000)
  (hR:∀w' (b:Bool) T (L:List YV) vL ok,Kp (λ_=>False) w w'→w'.ownsRow w.heap.size 193 4 vL L.length (zo L)→L.length≤255→zoj body b T L ok→T<4294967296→R (.returned (.tuple #[.agg #[.bool b,.int .i64 (T:Nat),vL,v],.bool ok])) w') :
  Calls Tryz.prog 247 #[v] w R:=by
 by_cases hk:(TS.new body).one.1=67
 ·exact zm1 v body g w h hg hl hk (λw' T L vL ok k hr hL hs hT=>hR w' false T L vL ok k hr hL hs hT)
 ·exact zn1 v body g w h hg hl hk (λw' b T ok k hs hT=>hR w' b T [] _ ok k (World.ownsRow_nil _ _ _ _) (by simp) hs hT)
end
end
section
open Go.RowKit Go.Maps Go.Lib
section
variable {R:Ending→World→Prop}
theorem ztj (r:Nat)(t:TS)(l:List UInt8)(ta:TS)(n:Nat)(e:t.some n=(l,ta))(x:Int)(hx:x=n)(v:Value)(g:Nat)(w:World)(h:znb w r t v g)(hn:n≤1100000)(hl:t.B.length≤1100000)
  (hR:∀w' v',znb w' r ta v g→RdN w' v' l g→Kp (λb=>b=r) w w'→R (.returned v') w') :
  Calls Tryz.prog 245 #[.pointer (some ⟨r,0,none⟩),.int .i64 x] w R:=by
 subst hx
 exact z1u r t v g n w h hn hl (by rw[e];exact hR)
theorem zvl {a b:List UInt8}:((z7b a).toList == (z7b b).toList)=decide (a=b):=by
 have:∀l,(z7b l).toList=l:=λl=>by rw[Lib.toList_data];simp[z7b]
 rw[this,this]
 by_cases e:a=b
 ·simp[e]
 ·simp[e]
theorem zxm {w:World}{base base' e size n:Nat}{v:Value}{xs:List Value}(h:w.ownsRow base e size v n xs)(hb:base'≤base):w.ownsRow base' e size v n xs:=
 ⟨h.1,h.2.imp id (λ⟨g,cap,cur,e1,e2,e3⟩=>⟨g,cap,cur,e1,Nat.le_trans hb e2,e3⟩)⟩
theorem ztu {w:World}{base:Nat}{v:Value}{bs:List UInt8}(h:BR base w v bs):(convert 48 9 v).run Tryz.prog w = .ok (.string (z7b bs)) w:=by
 obtain⟨g,h,_⟩:=h.rdN
 exact zci h
set_option maxRecDepth 20000 in
set_option maxHeartbeats 4000000 in
theorem zao (r:Nat)(t:TS)(bs:List UInt8)(v:Value)(g:Nat)(w:World)(h:znb w r t v g)(hh:Has t bs)(hr:r<w.heap.size)(hg:g<w.heap.size)(hl:t.B.length≤1100000)
  (h1:(∀k T ws m,zfc bs k T ws m→k=67∧¬(1≤T∧T≤2000))→∀w' t' (b:Bool) (T:Int) p n c p' n' c',znb w' r t' v g→Kp (λb=>b=r) w w'→R (.returned (.tuple #[.agg #[.bool b,.int .i64 T,.slice p n c,.slice p' n' c'],.bool false])) w')
  (h2:∀(k T:Nat) ws m w' t' p c p' n' c',zfc bs k T ws m→(k=67→1≤T∧T≤2000)→T<4294967296→Has t' m→t'.B=t.B→znb w' r t' v g→Kp (λb=>b=r) w w'→w'.ownsRow w.heap.size 193 4 (.slice p ws.length c) ws.length (zo (ws.map (toY T)))→RdN w' (.slice p' n' c') (z9h k T ws) g→R (.returned (.tuple #[.agg #[.bool (decide (k=72)),.int .i64 (T:Nat),.slice p ws.length c,.slice p' n' c'],.bool true])) w') :
  Calls Tryz.prog 195 #[.pointer (some ⟨r,0,none⟩)] w R:=by
 have HP:=ze (za0 hh)
 have H0:=ze (zah.start h)
 have HH:=ze hh
 have HL:=ze hl
 have HRR:=ze hr
 have HG:=ze hg
 have H1:=ze h1
 have H2:=ze h2
 have l1:=t.one_lt
 have l2:=t.one.2.one_lt
 have HB1:Hid (t.one.2.B.length≤1100000):=by show _≤_;rw[TS.one_B];exact hl
 have HB2:Hid (t.one.2.one.2.B.length≤1100000):=by show _≤_;rw[TS.one_B,TS.one_B];exact hl
 have HB3:Hid ((t.one.2.one.2.some (t.one.1+256*t.one.2.one.1)).2.B.length≤1100000):=by show _≤_;rw[TS.some_B,TS.one_B,TS.one_B];exact hl
 have HAT:Hid ((t.at_:Int)≤1100000):=by show _≤_;have:=h.le;omega
 have hrd0:=h.rd
 clear h hh hl h1 h2 hg
 generalize e1:t.one=t1 at *
 obtain⟨a,ta⟩:=t1
 simp only at *
 generalize e2:ta.one=t2 at *
 obtain⟨b,tb⟩:=t2
 simp only at *
 have l1':(a:Int)<256:=by omega
 have l2':(b:Int)<256:=by omega
 have HN:Hid (a+256*b≤1100000):=by show _≤_;omega
 generalize e3:tb.some (a+256*b)=t3 at *
 obtain⟨body,tc⟩:=t3
 simp only at *
 generalize e4:tc.some 4=t4 at *
 obtain⟨sm,td⟩:=t4
 simp only at *
 have E1:=ze e1
 have E2:=ze e2
 have E3:=ze e3
 have E4:=ze e4
 clear e1 e2 e3 e4
 have q1:=zg H0.out.tk.blk 1
 simp at q1
 rcases HP.out with ⟨hbad,hno⟩|hq
 ·have HNO:=ze hno
  have HBD:Hid (td.bad=true):=hbad
  clear hbad hno HP
  go_enter Tryz.func195,Tryz.ntmps195
  go_wp2_with (first
   |(go_at_call 246;refine zgd r t a ta E1.out _ g _ H0.out.tk HL.out ?_;intro w1 hT1 hk1;have R1:=ze (H0.out.step HRR.out hk1 hT1);clear hT1 hk1)
   |(go_at_call 246;refine zgd r ta b tb E2.out _ g _ R1.out.tk HB1.out ?_;intro w2 hT2 hk2;have R2:=ze (R1.out.step HRR.out hk2 hT2);clear hT2 hk2)
   |(go_at_call 245;refine ztj r tb body tc (a+256*b) E3.out _ (by omega) _ g _ R2.out.tk HN.out HB2.out ?_;intro w3 v3 hT3 hr3 hk3;have R3:=ze (R2.out.step HRR.out hk3 hT3);have V3:=ze hr3;obtain⟨p3,c3,rfl,_,_⟩:=id hr3;clear hT3 hk3 hr3)
   |(go_at_call 245;refine ztj r tc sm td 4 E4.out _ rfl _ g _ R3.out.tk (by omega) HB3.out ?_;intro w4 v4 hT4 hr4 hk4;have R4:=ze (R3.out.step HRR.out hk4 hT4);have V4:=ze (V3.out.kp hk4 R3.out.tk.ne);have U4:=ze hr4;obtain⟨p4,c4,rfl,_,_⟩:=id hr4;clear hT4 hk4 hr4;have z0:=zg R4.out.tk.blk 0;have z1:=zg R4.out.tk.blk 1;have z2:=zg R4.out.tk.blk 2;have y0:=zg R4.out.a 0;have y1:=zg R4.out.a 1;have y2:=zg R4.out.a 2;have y3:=zg R4.out.a 3;have yf:=(λo=>zj R4.out.a o);simp at z0 z1 z2 y0 y1 y2 y3;try rw[HBD.out]at z2)
   |fail)
  refine bodyPost_ret (zcb rfl _ _ w.heap.size #[.bool false,.int .i64 0,.slice none 0 0,.slice none 0 0] rfl (z5b (fr:=(0,0)) (R4.out.out HRR.out HG.out _ _ _ _).1 rfl)) rfl ?_
  exact H1.out (λk T ws m hc=>absurd hc (HNO.out k T ws m)) _ td false 0 none 0 0 none 0 0 (R4.out.out HRR.out HG.out _ _ _ _).2.2 (R4.out.out HRR.out HG.out _ _ _ _).2.1
 ·obtain⟨pv,cv,rfl,hcv,hrd⟩:=hrd0
  have hlen:=HH.out.len
  have htwo:=hq.two
  have hall:=hq.all
  have hle:=HH.out.le
  have hbne:t.B≠[]:=λe=>by rw[e]at hlen;simp at hlen;omega
  obtain⟨hgl,o,rfl,hcc⟩:=hrd hbne
  have HQ:=ze hq
  have HBD:Hid (td.bad=false):=hq.ok
  have hat:=hq.at_
  have HLB:Hid (body.length≤1100000):=by
   show _≤_
   have h1:bs.length≤t.B.length:=by omega
   have h2:=HL.out
   rw[hq.body_,List.length_drop,List.length_take]
   omega
  obtain⟨M,hM⟩:∃M,M=2+z0e bs:=⟨_,rfl⟩
  rw[← hM]at hall hat
  have HM:=ze hM
  obtain⟨N,hN⟩:∃N,N=t.at_+M:=⟨_,rfl⟩
  rw[← hN]at hat
  have HNE:=ze hN
  have HAT2:=ze hat
  have m5:(t.B.length:Int)≤1100000:=by have:=HL.out;omega
  have m1:(N:Int)+4≤t.B.length:=by omega
  have m2:(N:Int)≤cv:=by omega
  have m3:(t.at_:Int)≤cv:=by omega
  have m6:(t.at_:Int)≤N:=by omega
  have m9:¬cv=t.at_:=by omega
  have m13:(4:Int)≤(N:Int)+4:=by omega
  have hw1:IntKind.i64.wrap ((N:Int)+4-4)=N:=by rw[Int.add_sub_cancel];exact IntWalk.i64_in _ (by omega)
  have hw2:IntKind.i64.wrap (N:Int)=N:=IntWalk.i64_in _ (by omega)
  have m14:(0:Int)≤t.at_:=by omega
  have m15:(0:Int)≤N:=by omega
  have HM4:Hid (M+4≤bs.length):=hall
  have HM2:Hid (2≤M):=by show _≤_;omega
  clear hat hM hN hall hq hrd hcc hbne hlen htwo hle HP hcv hgl
  go_enter Tryz.func195,Tryz.ntmps195
  go_wp2_with (first
   |(go_at_call 246;refine zgd r t a ta E1.out _ g _ H0.out.tk HL.out ?_;intro w1 hT1 hk1;have R1:=ze (H0.out.step HRR.out hk1 hT1);clear hT1 hk1)
   |(go_at_call 246;refine zgd r ta b tb E2.out _ g _ R1.out.tk HB1.out ?_;intro w2 hT2 hk2;have R2:=ze (R1.out.step HRR.out hk2 hT2);clear hT2 hk2)
   |(go_at_call 245;refine ztj r tb body tc (a+256*b) E3.out _ (by omega) _ g _ R2.out.tk HN.out HB2.out ?_;intro w3 v3 hT3 hr3 hk3;have R3:=ze (R2.out.step HRR.out hk3 hT3);have V3:=ze hr3;obtain⟨p3,c3,rfl,_,_⟩:=id hr3;clear hT3 hk3 hr3)
   |(go_at_call 245;refine ztj r tc sm td 4 E4.out _ rfl _ g _ R3.out.tk (by omega) HB3.out ?_;intro w4 v4 hT4 hr4 hk4;have R4:=ze (R3.out.step HRR.out hk4 hT4);have V4:=ze (V3.out.kp hk4 R3.out.tk.ne);have U4:=ze hr4;obtain⟨p4,c4,rfl,_,_⟩:=id hr4;clear hT4 hk4 hr4;have z0:=zg R4.out.tk.blk 0;have z1:=zg R4.out.tk.blk 1;have z2:=zg R4.out.tk.blk 2;have y0:=zg R4.out.a 0;have y1:=zg R4.out.a 1;have y2:=zg R4.out.a 2;have y3:=zg R4.out.a 3;have yf:=(λo=>zj R4.out.a o);simp at z1 z2 y0 y1 y2 y3;rw[HBD.out]at z2;rw[HAT2.out]at z1;simp only[Int.natCast_add]at z1)
   |fail)
  have HSUMC:Hid (∀W,Kp (λ_=>False) w4 W→Calls Tryz.prog 170 #[.slice (some ⟨g,o+t.at_,none⟩) (N-t.at_) (cv-t.at_)] W (λx w5=>∃p5 n5 c5,x = .returned (.slice p5 n5 c5)∧BR (w.heap.size+1) w5 (.slice p5 n5 c5) (fourB (z5c (bs.take M)))∧Kp (λ_=>False) w4 w5)):=λW hW=>by
   have htl:(bs.take M).length=M:=by rw[List.length_take];have:=HM4.out;omega
   refine z5y _ (bs.take M) W (by rw[htl];have:=HNE.out;omega) (λe=>by rw[e]at htl;have:=HM2.out;simp at htl;omega) ⟨_,_,by rw[htl,show N-t.at_=M by have:=HNE.out;omega],λ_=>⟨g,o+t.at_,rfl,λj hj=>?_⟩⟩ (λv5 w5 hb hk=>?_)
   ·rw[htl]at hj
    obtain⟨p0,c0,e0,_,h0⟩:=R4.out.tk.rd
    injection e0 with e0 _ _
    subst e0
    have hb:=HH.out.bs
    have hlen:=HH.out.len
    have h4:=HM4.out
    have hB:td.B=t.B:=HQ.out.B
    rw[hB]at h0
    obtain⟨_,o2,e2,h3⟩:=h0 (λe=>by rw[e]at hlen;simp at hlen;omega)
    injection e2 with e2
    injection e2 with _ e2 _
    subst e2
    have h5:=h3 (t.at_+j) (by omega)
    rw[← Nat.add_assoc]at h5
    rw[(hW.cell (a:=⟨g,o+t.at_+j,none⟩) (World.block_lt_of_cell? _ _ h5) (λe=>e)).trans h5,← hb]
    congr 2
    simp only[List.getD_eq_getElem?_getD,List.getElem?_take,List.getElem?_drop]
    rw[if_pos hj]
   ·obtain⟨p5,c5,e5⟩:=zp hb
    exact⟨p5,_,c5,by rw[e5],by rw[← e5];exact hb.mono (by have h1:=zh R4.out.a;have h2:=hW.size;omega),hW.trans hk (λ_ _ e=>e)⟩
  go_region_held3 (λw'=>w'.cell? ⟨r,0,none⟩=some (.slice (some ⟨g,o,none⟩) t.B.length cv)∧w'.cell? ⟨r,1,none⟩=some (.int .i64 ((N:Int)+4))) (go_keep) ((go_at_call 170;refine (HSUMC.out _ ?_).mono ?_;(first|exact Kp.drew _ _|exact Kp.drewN _ _ _|exact Kp.refl _ _);rintro x w5 ⟨p5,n5,c5,rfl,hb5,hk5⟩;have x0:=(hk5.cell (World.block_lt_of_cell? _ _ z0) (λh=>h)).trans z0;have x1:=(hk5.cell (World.block_lt_of_cell? _ _ z1) (λh=>h)).trans z1;have B5:=ze hb5;have K5:=ze hk5;clear hb5 hk5))
  all_goals
   have R5:=ze (R4.out.kept K5.out)
   have V5:=ze (V4.out.kp K5.out (λe=>e))
   have U5:=ze (U4.out.kp K5.out (λe=>e))
   go_wp2_with (first
    |(go_at_call 247;refine z43 _ body g _ V5.out (Nat.lt_of_lt_of_le HG.out R5.out.kp.size) HLB.out ?_;intro w6 hb6 T6 L6 vL6 ok6 hk6 hrow6 hL6 hs6 hT6;obtain⟨pL,cL,rfl⟩:=zp hrow6;have R6:=ze (λo=>(R5.out.kept hk6).kept (Kp.alloc (λ_=>False) _ o));have V6:=ze (λo=>(V5.out.kp hk6 (λe=>e)).kp (Kp.alloc (λ_=>False) _ o) (λe=>e));have U6:=ze (λo=>(U5.out.kp hk6 (λe=>e)).kp (Kp.alloc (λ_=>False) _ o) (λe=>e));have B6:=ze (λo=>(B5.out.kept hk6).kept (Kp.alloc (λ_=>False) _ o));have ROW6:=ze (λo=>zxm (base':=w.heap.size+1) (zi hrow6 (Kp.alloc (λ_=>False) _ o) (λ_ _ e=>e)) (zh R5.out.a));have HS6:=ze hs6;have HT6:=ze hT6;have HW6:Hid (w.heap.size<w6.heap.size):=zh (R5.out.kept hk6).a;clear hk6 hrow6 hL6 hs6 hT6 x0 x1 z0 z1 z2 y0 y1 y2 y3 yf;have y0:=(λo=>zg (R6.out o).a 0);have y1:=(λo=>zg (R6.out o).a 1);have y2:=(λo=>zg (R6.out o).a 2);have y3:=(λo=>zg (R6.out o).a 3);have yf:=(λo j=>zj (R6.out o).a j);simp at y0 y1 y2 y3)
    |fail)
  all_goals
   have hn1:w.heap.size≠w6.heap.size:=by have:=HW6.out;omega
   have hn2:w6.heap.size≠w.heap.size:=λe=>hn1 e.symm
   cases ok6 with
   |false=>
    go_region
    all_goals go_wp2_with fail
    all_goals refine bodyPost_ret (zcb rfl _ _ w.heap.size #[.bool hb6,.int .i64 (T6:Nat),.slice pL L6.length cL,.slice p3 body.length c3] rfl (z5b (fr:=(0,0)) ((R6.out _).out HRR.out HG.out _ _ _ _).1 rfl)) rfl ?_
    all_goals exact H1.out (λk T ws m hc=>HS6.out.2 rfl k T ws ((HQ.out.cut k T ws m).1 hc).2.1) _ td hb6 T6 pL _ cL p3 _ c3 (((R6.out _).out HRR.out HG.out _ _ _ _).2.2.kp (Kp.drew (λ_=>False) _) (λe=>e) (λe=>e)) (((R6.out _).out HRR.out HG.out _ _ _ _).2.1.trans (Kp.drew (λb=>b=r) _) (λ_ _ e=>e))
   |true=>
    have kc1:=λo=>ztu ((B6.out o).kept (Kp.drew (λ_=>False) _))
    have kc2:=λo=>zci ((U6.out o).kp (Kp.drew (λ_=>False) _) (λe=>e))
    have kc3:=λo x y z u=>ztu (((B6.out o).kp (z8f _ w.heap.size x y z u) (λb e (h:b=w.heap.size)=>by have:=((B6.out o).lt b e).1;omega)).kept (Kp.drew (λ_=>False) _))
    have kc4:=λo x y z u=>zci (((U6.out o).kp (z8f _ w.heap.size x y z u) (by have:=HG.out;omega)).kp (Kp.drew (λ_=>False) _) (λe=>e))
    unfold zej at kc3 kc4
    by_cases qs:fourB (z5c (bs.take M))=sm
    ·have he:((z7b (fourB (z5c (bs.take M)))).toList == (z7b sm).toList)=true:=by rw[zvl];simpa using qs
     have HQS:=ze qs
     clear qs
     go_region
     all_goals go_wp2_with fail
     all_goals refine bodyPost_ret (zcb rfl _ _ w.heap.size #[.bool hb6,.int .i64 (T6:Nat),.slice pL L6.length cL,.slice p3 body.length c3] rfl (z5b (fr:=(0,0)) ((R6.out _).out HRR.out HG.out _ _ _ _).1 rfl)) rfl ?_
     all_goals
      obtain⟨k,ws,hrec,rfl,hL,hT⟩:=HS6.out.1 rfl
      have hcut:=(HQ.out.cut k T6 ws _).2 ⟨by rw[← HM.out];exact HQS.out,hrec,rfl⟩
      have hlen:L6.length=ws.length:=by rw[hL,List.length_map]
      have hout:=(R6.out (.cells #[.bool (decide (k=72)),.int .i64 (T6:Nat),.slice pL L6.length cL,.slice p3 body.length c3] 255)).out HRR.out HG.out (.bool (decide (k=72))) (.int .i64 (T6:Nat)) (.slice pL L6.length cL) (.slice p3 body.length c3)
      have hrow:=zi (ROW6.out (.cells #[.bool (decide (k=72)),.int .i64 (T6:Nat),.slice pL L6.length cL,.slice p3 body.length c3] 255)) ((z8f _ w.heap.size (.bool (decide (k=72))) (.int .i64 (T6:Nat)) (.slice pL L6.length cL) (.slice p3 body.length c3)).trans (Kp.drew (λb=>b=w.heap.size) _) (λ_ _ e=>e)) (λb e (h:b=w.heap.size)=>by have:=((ROW6.out (.cells #[] 0)).lt b e).1;omega)
      have hbody:=((V6.out (.cells #[.bool (decide (k=72)),.int .i64 (T6:Nat),.slice pL L6.length cL,.slice p3 body.length c3] 255)).kp (z8f _ w.heap.size (.bool (decide (k=72))) (.int .i64 (T6:Nat)) (.slice pL L6.length cL) (.slice p3 body.length c3)) (by have:=HG.out;omega)).kp (Kp.drew (λ_=>False) _) (λe=>e)
      have hform:=hrec.form
      have key:∀W,znb W r td (.slice (some ⟨g,o,none⟩) t.B.length cv) g→Kp (λb=>b=r) w W→W.ownsRow w.heap.size 193 4 (.slice pL L6.length cL) L6.length (zo L6)→RdN W (.slice p3 body.length c3) body g→R (.returned (.tuple #[.agg #[.bool (decide (k=72)),.int .i64 (T6:Nat),.slice pL L6.length cL,.slice p3 body.length c3],.bool true])) W:=λW a b c d=>by
       rw[hlen]at c ⊢
       rw[hL]at c
       exact H2.out k T6 ws _ W td pL cL p3 _ c3 hcut hT HT6.out (HQ.out.has HH.out) HQ.out.B a b c (by rw[← hform];exact d)
      exact key _ (hout.2.2.kp (Kp.drew (λ_=>False) _) (λe=>e) (λe=>e)) (hout.2.1.trans (Kp.drew (λb=>b=r) _) (λ_ _ e=>e)) (zxm hrow (by omega)) hbody
    ·have he:((z7b (fourB (z5c (bs.take M)))).toList == (z7b sm).toList)=false:=by rw[zvl];simpa using qs
     have HQS:=ze qs
     clear qs
     go_region
     all_goals go_wp2_with fail
     all_goals refine bodyPost_ret (zcb rfl _ _ w.heap.size #[.bool hb6,.int .i64 (T6:Nat),.slice pL L6.length cL,.slice p3 body.length c3] rfl (z5b (fr:=(0,0)) ((R6.out _).out HRR.out HG.out _ _ _ _).1 rfl)) rfl ?_
     all_goals exact H1.out (λk T ws m hc=>absurd ((HQ.out.cut k T ws m).1 hc).1 (by rw[← HM.out];exact HQS.out)) _ td hb6 T6 pL _ cL p3 _ c3 (((R6.out _).out HRR.out HG.out _ _ _ _).2.2.kp (Kp.drew (λ_=>False) _) (λe=>e) (λe=>e)) (((R6.out _).out HRR.out HG.out _ _ _ _).2.1.trans (Kp.drew (λb=>b=r) _) (λ_ _ e=>e))
end
end
section
open Go.RowKit Go.Maps Go.Lib
theorem zjr {bs:List UInt8}{n:Nat}(hn:n<4294967296)(hl:11≤bs.length):bs.take 11=zoc n↔z6d bs=some n:=by
 have h7:(bs.take 7).length=7:=by rw[List.length_take];omega
 have h4:((bs.drop 7).take 4).length=4:=by rw[List.length_take,List.length_drop];omega
 have e11:bs.take 11=bs.take 7++(bs.drop 7).take 4:=by
  rw[show 11=7+4 from rfl,List.take_add]
 have o7:([80,76,49]++fourB n:List UInt8).length=7:=rfl
 unfold zoc z8c
 rw[e11]
 constructor
 ·intro e
  obtain⟨e1,e2⟩:=List.append_inj e (by rw[h7];rfl)
  unfold z6d zlc
  rw[if_neg,e1]
  ·simp only
   rw[if_pos (by rfl)]
   show some (le4 (fourB n))=some n
   rw[znh n hn]
  ·rintro (h|h)
   ·omega
   ·apply h
    rw[e2,← e1]
    exact znh _ (zph _)
 ·intro e
  unfold z6d zlc at e
  split at e
  ·cases e
  ·rename_i c r hu
   split at hu
   ·cases hu
   ·rename_i q
    injection hu with hu
    injection hu with hc _
    subst hc
    split at e
    ·rename_i hp
     injection e with e
     have hs:le4 ((bs.drop 7).take 4)=z5c (bs.take 7):=Classical.byContradiction (λhne=>q (Or.inr hne))
     have e2:=(z1o (zph (bs.take 7)) h4).2 hs
     match hb:bs.take 7,h7 with
     |[a,b,c,d,e5,f,g],_=>
      rw[hb]at hp e e2
      simp at hp
      obtain⟨rfl,rfl,rfl⟩:=hp
      have e3:le4 [d,e5,f,g]=n:=e
      rw[← e2,← e3]
      have e4:=z5r d e5 f g
      rw[e4]
      rfl
    ·cases e
section
variable {R:Ending→World→Prop}
set_option maxRecDepth 20000 in
set_option maxHeartbeats 2000000 in
theorem zkw (r:Nat)(B:List UInt8)(n:Nat)(v:Value)(g:Nat)(w:World)(h:znb w r (TS.new B) v g)(hn:n<4294967296)(hl:B.length≤1100000)
  (h1:z6d B≠some n→∀w' t',znb w' r t' v g→Kp (λb=>b=r) w w'→R (.returned (.bool false)) w')
  (h2:z6d B=some n→∀w' t',znb w' r t' v g→Has t' (B.drop 11)→t'.B=B→Kp (λb=>b=r) w w'→R (.returned (.bool true)) w') :
  Calls Tryz.prog 194 #[.pointer (some ⟨r,0,none⟩),.int .i64 (n:Nat)] w R:=by
 have H:=ze h
 have HL:Hid ((TS.new B).B.length≤1100000):=hl
 have H1:=ze h1
 have H2:=ze h2
 have HN:=ze hn
 have hh:Has (TS.new B) B:=⟨rfl,rfl,Nat.zero_le _⟩
 have HLT:=ze (zh h.blk)
 clear h h1 h2 hn
 by_cases q:11≤B.length
 ·obtain⟨a1,a2,a3⟩:=hh.some_ok q
  have HQ:=ze q
  have HTB:Hid (((TS.new B).some 11).2.B=B):=TS.some_B _ _
  generalize e1:(TS.new B).some 11=t1 at *
  obtain⟨l,ta⟩:=t1
  simp only at *
  subst a1
  have E1:=ze e1
  have A2:=ze a2
  clear e1 a2 a3 hh hl q
  go_enter Tryz.func194,Tryz.ntmps194
  go_wp2_with (first
   |(go_at_call 245;refine ztj r (TS.new B) (B.take 11) ta 11 E1.out _ rfl _ g _ H.out (by omega) HL.out ?_;intro w1 v1 hT1 hr1 hk1;have T1:=ze hT1;have V1:=ze hr1;have K1:=ze hk1;clear hT1 hr1 hk1)
   |(go_at_call 165;refine zmm n _ HN.out ?_;intro v2 w2 hb2 hk2;have T2:=ze (T1.out.kp hk2 (λe=>e) (λe=>e));have kc1:=zci (V1.out.kp hk2 (λe=>e));have kc2:=ztu hb2;have K2:=ze (K1.out.trans (hk2.mono (S':=λb=>b=r) (λ_ _ e=>e.elim)) (λ_ _ e=>e));have z2:=zg T2.out.blk 2;rw[A2.out.ok]at z2;clear hk2 hb2)
   |fail)
  by_cases qo:B.take 11=zoc n
  ·have he:((z7b (B.take 11)).toList == (z7b (zoc n)).toList)=true:=by rw[zvl];simpa using qo
   show R (.returned (.bool ((z7b (B.take 11)).toList == (z7b (zoc n)).toList))) w2
   rw[he]
   exact H2.out ((zjr HN.out HQ.out).1 qo) w2 ta T2.out A2.out HTB.out K2.out
  ·have he:((z7b (B.take 11)).toList == (z7b (zoc n)).toList)=false:=by rw[zvl];simpa using qo
   show R (.returned (.bool ((z7b (B.take 11)).toList == (z7b (zoc n)).toList))) w2
   rw[he]
   exact H1.out (λe=>qo ((zjr HN.out HQ.out).2 e)) w2 ta T2.out K2.out
 ·have e1:=hh.some_no (n:=11) (by omega)
  have HNO:Hid (z6d B≠some n):=λe=>by
   unfold z6d zlc at e
   rw[if_pos (Or.inl (by omega))]at e
   cases e
  have E1:=ze e1
  clear e1 hh hl q
  go_enter Tryz.func194,Tryz.ntmps194
  go_wp2_with (first
   |(go_at_call 245;refine ztj r (TS.new B) [] (TS.new B).wrong 11 E1.out _ rfl _ g _ H.out (by omega) HL.out ?_;intro w1 v1 hT1 hr1 hk1;have T1:=ze hT1;have K1:=ze hk1;clear hT1 hr1 hk1)
   |(go_at_call 165;refine zmm n _ HN.out ?_;intro v2 w2 hb2 hk2;have T2:=ze (T1.out.kp hk2 (λe=>e) (λe=>e));have K2:=ze (K1.out.trans (hk2.mono (S':=λb=>b=r) (λ_ _ e=>e.elim)) (λ_ _ e=>e));have z2:=zg T2.out.blk 2;simp[TS.wrong]at z2;clear hk2 hb2)
   |fail)
  exact H1.out HNO.out w2 _ T2.out K2.out
end
end
end Go.Proofs.YthbdpfccfcceiaaGreatDoor
