/-
  Of the proof of logsUpto_card.
-/
import Derived.Test.YthbdpfccfcceiaaGreatDoorDB3x
namespace Go.Proofs.YthbdpfccfcceiaaGreatDoor
open Go.RowKit Go.Maps Go.Lib
theorem z1v {ops:Array Oper}{rest:List Oper}{o:Oper}{a:Act}{Q:Exit→Act→World→Prop}(w:World)(hgd:o.guard=none)(s x:Operand)
  (ho:o.op = .call { callee:=.builtin .append,args:=#[s,x],argTypes:=#[74,74] })
  (base:Nat) (v:Value) (n:Nat) (xs:List Value) (hs:a.eval s=v) (hown:w.ownsRow base 193 4 v n xs) (g:Nat) (y:YV) (hx:a.eval x = .slice (some ⟨g,0,none⟩) 1 1)
  (hu:∀j q,[Value.string y.key,.int .i64 y.t,.bool y.gone,.string y.s][j]?=some q→w.cell? ((⟨g,0,none⟩:Addr).add j)=some q) (hl:n≤1100000) (hb:base≤w.heap.size)
  (h:∀v' w',w'.ownsRow base 193 4 v' (n+1) (xs++[.string y.key,.int .i64 y.t,.bool y.gone,.string y.s])→Kp (λb=>v.ownBlock=some b) w w'→(v'.ownBlock=v.ownBlock∨v'.ownBlock=some w.heap.size)→wpList Tryz.prog ops Q rest (a.put o.dst v') w') :
  wpList Tryz.prog ops Q (o::rest) a w:=by
 obtain⟨i0,hi,hz0,hz1,hz2⟩:=info_parts zvj
 exact wpList_append_own_at _ hgd s x 74 ho base 193 i0 (.agg #[.string ⟨#[]⟩,.int .i64 0,.bool false,.string ⟨#[]⟩]) 4 48 Tryz.underlying74 hi hz0 hz1 hz2 rfl (by decide) v n xs hs hown ⟨g,0,none⟩ 1 1 [.string y.key,.int .i64 y.t,.bool y.gone,.string y.s] hx rfl hu (by simp[Value.oneCell']) (by unfold maxLen;omega) (by omega) hb (λv' w' r1 r2 _ r4=>h v' w' r1 (Kp.of_grown r2 (λ_ e=>e)) r4)
theorem zyc.step {w W W':World}{D T:Nat}{hb:Bool}{t t':TS}{v vL:Value}{g:Nat}(h:zyc w W D T hb t v vL g)(k:Kp (λb=>b=w.heap.size+1) W W')(ht:znb W' (w.heap.size+1) t' v g):zyc w W' D T hb t' v vL g:=
 ⟨h.kp.trans k (λb hb e=>by omega),(k.block _ (zh h.a) (λe=>by omega)).trans h.a,(k.block _ (zh h.d) (λe=>by have:=h.lt;omega)).trans h.d,ht,h.lt⟩
theorem zyc.wrong {w W:World}{D T:Nat}{hb:Bool}{t:TS}{v vL:Value}{g:Nat}(h:zyc w W D T hb t v vL g):zyc w (W.setCell ⟨w.heap.size+1,2,none⟩ (.bool true)) D T hb t.wrong v vL g:=
 h.step (Kp.setCell (S:=λb=>b=w.heap.size+1) _ _ _ rfl) h.tk.wrong
theorem zyc.above {w W W':World}{D T:Nat}{hb:Bool}{t:TS}{v vL:Value}{g:Nat}{S:Nat→Prop}(h:zyc w W D T hb t v vL g)(hg:g<w.heap.size)(k:Kp S W W')(hs:∀b,S b→D<b):zyc w W' D T hb t v vL g:=
 ⟨h.kp.trans k (λb hb e=>by have:=hs b e;have:=h.lt;omega),(k.block _ (zh h.a) (λe=>by have:=hs _ e;have:=h.lt;omega)).trans h.a,(k.block _ (zh h.d) (λe=>by have:=hs _ e;omega)).trans h.d,h.tk.kp k (λe=>by have:=hs _ e;have:=h.lt;omega) (λe=>by have:=hs _ e;have:=h.lt;omega),h.lt⟩
theorem zyc.setL {w W:World}{D T:Nat}{hb:Bool}{t:TS}{v vL vL':Value}{g:Nat}(h:zyc w W D T hb t v vL g)(hg:g<w.heap.size):zyc w (W.setCell ⟨D,2,none⟩ vL') D T hb t v vL' g:=by
 have k:=Kp.setCell (S:=λb=>b=D) W ⟨D,2,none⟩ vL' rfl
 have hlt:=h.lt
 exact⟨h.kp.trans k (λb hb e=>by omega),(k.block _ (zh h.a) (λe=>by omega)).trans h.a,zn h.d _,h.tk.kp k (λe=>by omega) (λe=>by omega),h.lt⟩
theorem TS.ver0_B (t:TS):t.ver0.2.B=t.B:=by
 unfold TS.ver0
 split
 ·exact (TS.text_B _).trans t.one_B
 ·split<;>exact t.one_B
theorem TS.ver_B (t:TS)(k:ByteArray):(t.ver k).2.B=t.B:=by
 unfold TS.ver
 dsimp only
 split<;>exact t.ver0_B
theorem zms (L:List YV)(y:YV):zo (L++[y])=zo L++[.string y.key,.int .i64 y.t,.bool y.gone,.string y.s]:=by simp[zo]
theorem zru (L:List YV)(i:Nat)(y:YV)(h:L[i]?=some y):(zo L)[i*4]?=some (.string y.key):=by
 obtain⟨hi,rfl⟩:=List.getElem?_eq_some_iff.1 h
 exact (zyg L i hi).1
theorem zmk {ops:Array Oper}{rest:List Oper}{o:Oper}{a:Act}{Q:Exit→Act→World→Prop}{w:World}{D T:Nat}{tX:TS}{v vL:Value}{g:Nat}{L:List YV}(X:World)(hgd:o.guard=none)(s x:Operand)
  (ho:o.op = .call { callee:=.builtin .append,args:=#[s,x],argTypes:=#[74,74] })
  (hs:a.eval s=vL) (gx:Nat) (hgx:X.heap.size=gx) (hx:a.eval x = .slice (some ⟨gx,0,none⟩) 1 1) (y:YV)
  (hS:zyc w X D T false tX v vL g) (hg:g<w.heap.size) (hrow:X.ownsRow w.heap.size 193 4 vL L.length (zo L)) (hab:∀b,vL.ownBlock=some b→D<b) (hl:L.length≤1000)
  (h:∀p6 c6 w6,w6.cell? ⟨D,2,none⟩=some vL→w6.frozen? ⟨D,2,none⟩=false→Hid (zyc w (w6.setCell ⟨D,2,none⟩ (.slice p6 (L.length+1) c6)) D T false tX v (.slice p6 (L.length+1) c6) g∧(w6.setCell ⟨D,2,none⟩ (.slice p6 (L.length+1) c6)).ownsRow w.heap.size 193 4 (.slice p6 (L.length+1) c6) (L++[y]).length (zo (L++[y]))∧∀b,(Value.slice p6 (L.length+1) c6).ownBlock=some b→D<b)→wpList Tryz.prog ops Q rest (a.put o.dst (.slice p6 (L.length+1) c6)) w6) :
  wpList Tryz.prog ops Q (o::rest) a (X.alloc (.cells #[.string y.key,.int .i64 y.t,.bool y.gone,.string y.s] 193)):=by
 subst hgx
 have kA:=Kp.alloc (λ_=>False) X (.cells #[.string y.key,.int .i64 y.t,.bool y.gone,.string y.s] 193)
 have hD:=zh hS.d
 refine z1v _ hgd s x ho w.heap.size vL L.length (zo L) hs (zi hrow kA (λ_ _ e=>e)) X.heap.size y hx (zxe X _ _ _ _ _) (by omega) (Nat.le_trans hS.kp.size kA.size) ?_
 intro v6 w6 hrow6 hk6 hloc
 have HS6:=(hS.kept kA).above hg hk6 hab
 have hd6:∀b,v6.ownBlock=some b→D<b:=λb e=>by
  rcases hloc with h1|h1
  ·rw[h1]at e;exact hab b e
  ·rw[h1]at e;injection e with e;simp at e;omega
 obtain⟨p6,c6,rfl⟩:=zp hrow6
 refine h p6 c6 w6 (zg HS6.d 2) (zj HS6.d 2) ⟨HS6.setL hg,?_,hd6⟩
 refine zi ?_ (Kp.setCell (S:=λb=>b=D) w6 ⟨D,2,none⟩ _ rfl) (λb e (h:b=D)=>by have:=hd6 b e;omega)
 rw[List.length_append,zms]
 exact hrow6
theorem z0t {w W:World}{D T:Nat}{t:TS}{v vL:Value}{g:Nat}{L:List YV}(h:zyc w W D T false t v vL g)(hrow:W.ownsRow w.heap.size 193 4 vL L.length (zo L))(hab:∀b,vL.ownBlock=some b→D<b):(zej W w.heap.size (.bool false) (.int .i64 (T:Nat)) vL v).drew.ownsRow w.heap.size 193 4 vL L.length (zo L):=
 zi hrow ((z8f W w.heap.size (.bool false) (.int .i64 (T:Nat)) vL v).trans (Kp.drew (λb=>b=w.heap.size) _) (λ_ _ e=>e)) (λb e (h2:b=w.heap.size)=>by have:=hab b e;have:=h.lt;omega)
section
variable {R:Ending→World→Prop}
theorem zbo (r:Nat)(t:TS)(a:ByteArray)(ta:TS)(e:t.text=(a,ta))(v:Value)(g:Nat)(w:World)(h:znb w r t v g)(hl:t.B.length≤1100000)
  (hR:∀w',znb w' r ta v g→Kp (λb=>b=r) w w'→R (.returned (.string a)) w') :
  Calls Tryz.prog 198 #[.pointer (some ⟨r,0,none⟩)] w R:=
 zkn r t v g w h hl (by rw[e];exact hR)
theorem z0k (r:Nat)(t:TS)(key s:ByteArray)(gone:Bool)(ta:TS)(e:t.ver key=((s,gone),ta))(v:Value)(g:Nat)(w:World)(h:znb w r t v g)(hg:g<w.heap.size)(hl:t.B.length≤1100000)(hkey:key.size≤maxLen)
  (hR:∀w',znb w' r ta v g→Kp (λb=>b=r) w w'→R (.returned (.agg #[.string key,.int .i64 0,.bool gone,.string s])) w') :
  Calls Tryz.prog 199 #[.pointer (some ⟨r,0,none⟩),.string key] w R:=
 z8y r t v g key w h hg hl hkey (by rw[e];exact hR)
set_option maxRecDepth 20000 in
set_option maxHeartbeats 4000000 in
theorem zm1 (v:Value)(body:List UInt8)(g:Nat)(w:World)(h:RdN w v body g)(hg:g<w.heap.size)(hl:body.length≤1100000)(hk:(TS.new body).one.1=67)
  (hR:∀w' T (L:List YV) vL ok,Kp (λ_=>False) w w'→w'.ownsRow w.heap.size 193 4 vL L.length (zo L)→L.length≤255→zoj body false T L ok→T<4294967296→R (.returned (.tuple #[.agg #[.bool false,.int .i64 (T:Nat),vL,v],.bool ok])) w') :
  Calls Tryz.prog 247 #[v] w R:=by
 have H0:Hid (znb ((w.alloc (.cells #[.bool false,.int .i64 0,.slice none 0 0,.slice none 0 0] 255)).alloc (.cells #[v,.int .i64 0,.bool false] 307)) (w.heap.size+1) (TS.new body) v g):=by
  refine⟨?_,(h.kp (Kp.alloc (λ_=>False) w _) (λe=>e)).kp (Kp.alloc (λ_=>False) _ _) (λe=>e),by omega,Nat.zero_le _⟩
  have:=heap_alloc_new (w.alloc (.cells #[.bool false,.int .i64 0,.slice none 0 0,.slice none 0 0] 255)) (.cells #[v,.int .i64 0,.bool false] 307)
  rw[show (w.alloc (.cells #[.bool false,.int .i64 0,.slice none 0 0,.slice none 0 0] 255)).heap.size=w.heap.size+1 by simp]at this
  exact this
 have HL:Hid ((TS.new body).B.length≤1100000):=hl
 have HB:Hid ((TS.new body).one.2.B.length≤1100000):=by show _≤_;rw[TS.one_B];exact hl
 have HB2:Hid ((TS.new body).one.2.four.2.B.length≤1100000):=by show _≤_;rw[TS.four_B,TS.one_B];exact hl
 have HB3:Hid ((TS.new body).one.2.four.2.one.2.B=body):=by show _=_;rw[TS.one_B,TS.four_B,TS.one_B];rfl
 have HG:=ze hg
 have HLEN:=ze hl
 obtain⟨pv,cv,rfl,hcv,hrd⟩:=h
 have HR:=ze hR
 have HFL:=ze ((TS.new body).one.2.four_lt)
 have l2:=(TS.new body).one.2.four.2.one_lt
 have HS:=ze (ze0 body hk)
 have HST:Hid (z1e (zw body).2.2.one.2 (TS.new body).one.2.four.1 0 (TS.new body).one.2.four.2.one.2 []):=z1e.start (z3k body).1.one.1
 clear hR hl hcv hrd hg
 generalize (zw body).2.2.one.2=S at *
 generalize e1:(TS.new body).one=t1 at *
 obtain⟨k,ta⟩:=t1
 simp only at *
 subst hk
 generalize e2:ta.four=t2 at *
 obtain⟨T,tb⟩:=t2
 simp only at *
 generalize e3:tb.one=t3 at *
 obtain⟨n,tc⟩:=t3
 simp only at *
 have E1:=ze e1
 have E2:=ze e2
 have E3:=ze e3
 have l2':(n:Int)<256:=by omega
 have HN:=ze l2
 clear e1 e2 e3
 go_enter Tryz.func247,Tryz.ntmps247
 go_wp2_with (first
  |(go_at_call 197;refine zvq _ ta T tb E2.out _ g _ H1.out HB.out ?_;intro w2 hT2 hk2;have HSA:=ze (zyc.start (hb:=false) (T:=T) HK1.out hk2 hT2);clear hT2 hk2)
  |(go_at_call 246;refine zgd _ _ 67 ta E1.out _ g _ H0.out HL.out ?_;intro w1 hT1 hk1;have H1:=ze hT1;have HK1:=ze hk1;clear hT1 hk1)
  |(go_at_call 246;refine zgd _ tb n tc E3.out _ g _ HSA.out.tk HB2.out ?_;intro w3 hT3 hk3;have HSB:=ze (HSA.out.step hk3 hT3);clear hT3 hk3)
  |fail)
 generalize w2.heap.size=D at HSB ⊢
 clear HSA HK1 H1 H0
 go_loopw [8,9,10] (λv8 _ _ wr=>∃(i:Nat) (t:TS) (L:List YV) (vL:Value),i≤n∧v8 = .int .i64 i∧zyc w wr D T false t (.slice pv body.length cv) vL g∧t.B=body∧z1e S T i t L∧wr.ownsRow w.heap.size 193 4 vL L.length (zo L)∧(∀b,vL.ownBlock=some b→D<b)) (λv8 _ _ _=>n-(intOf v8).toNat)
 case atStart=>exact⟨0,tc,[],.slice none 0 0,Nat.zero_le _,rfl,HSB.out,HB3.out,HST.out,World.ownsRow_nil _ _ _ _,(λb e=>by cases e)⟩
 case round=>
  obtain⟨i,t,L,vL,hi,rfl,hsa,htB,hLY,hrow,hab⟩:=hrel
  have HSA:=ze hsa
  have HTB:=ze htB
  have HLY:=ze hLY
  have HROW:=ze hrow
  have HAB:=ze hab
  obtain⟨pl,cl,rfl⟩:=zp hrow
  have hLl:=hLY.len
  have hlt:=hsa.lt
  clear hsa htB hLY hrow hab
  have q00:=zg HSA.out.a 0
  have q01:=zg HSA.out.a 1
  have q02:=zg HSA.out.a 2
  have q03:=zg HSA.out.a 3
  have q0f:=λo=>zj HSA.out.a o
  have qd0:=zg HSA.out.d 0
  have qd1:=zg HSA.out.d 1
  have qd2:=zg HSA.out.d 2
  have qd3:=zg HSA.out.d 3
  have qdf:=λo=>zj HSA.out.d o
  have qt1:=zg HSA.out.tk.blk 1
  have qt2:=zg HSA.out.tk.blk 2
  have qtf:=λo=>zj HSA.out.tk.blk o
  simp at q00 q01 q02 q03 qd0 qd1 qd2 qd3 qt1 qt2
  have n1:w.heap.size≠D:=by omega
  have n2:D≠w.heap.size:=by omega
  have n3:w.heap.size+1≠D:=by omega
  have n4:D≠w.heap.size+1:=by omega
  by_cases qa:i<n∧t.bad=false
  ·obtain⟨qi,qb⟩:=qa
   have qi':(i:Int)<n:=by omega
   have HQI:=ze qi
   have HSTEP:=ze (HLY.out.step qb)
   have HOFF:=ze (HLY.out.off qb)
   have HKS:Hid (t.text.1.size≤maxLen):=by show _≤_;have:=t.text_size;unfold maxLen;omega
   have HTB1:Hid (t.B.length≤1100000):=by show _≤_;rw[HTB.out];exact HLEN.out
   have HTB2:Hid (t.text.2.B.length≤1100000):=by show _≤_;rw[TS.text_B,HTB.out];exact HLEN.out
   have HTB3:Hid ((t.text.2.ver t.text.1).2.B=body):=by show _=_;rw[TS.ver_B,TS.text_B];exact HTB.out
   rw[qb]at qt2
   generalize e4:t.text=t4 at *
   obtain⟨K,tt⟩:=t4
   simp only at *
   generalize e5:tt.ver K=t5 at *
   obtain⟨⟨vs,vg⟩,tw⟩:=t5
   simp only at *
   have E4:=ze e4
   have E5:=ze e5
   have HLL:=ze hLl
   clear e4 e5 qb q00 q01 q02 q03 q0f qtf qt1 hLl
   have HRW5:Hid (∀W,Kp (λb=>b=w.heap.size+1) wr W→W.ownsRow w.heap.size 193 4 (.slice pl L.length cl) L.length (zo L)):=λW hW=>zi HROW.out hW (λb e (h:b=w.heap.size+1)=>by have:=HAB.out b e;have:=HSA.out.lt;omega)
   by_cases q0:i=0
   ·subst q0
    have hL0:L=[]:=List.eq_nil_of_length_eq_zero HLL.out
    subst hL0
    go_wp2_with (first
     |(go_at_call 198;refine zbo _ t K tt E4.out _ g _ HSA.out.tk HTB1.out ?_;intro w4 hT4 hk4;have HS4:=ze (HSA.out.step hk4 hT4);have HK4:=ze hk4;clear hT4 hk4)
     |(go_at_call 199;refine z0k _ tt K vs vg tw E5.out _ g _ HS4.out.tk (Nat.lt_of_lt_of_le HG.out HS4.out.kp.size) HTB2.out HKS.out ?_;intro w5 hT5 hk5;have HS5:=ze (HS4.out.step hk5 hT5);have HK5:=ze (HK4.out.trans hk5 (λ_ _ e=>e));have HSX:Hid (∀o,zyc w (w5.alloc o) D T false tw (.slice pv body.length cv) (.slice pl _ cl) g):=(λo=>HS5.out.kept (Kp.alloc _ _ _));have za1:=(λo=>zg (HSX.out o).d 1);have za2:=(λo=>zg (HSX.out o).d 2);have zat:=(λo=>zg (HSX.out o).tk.blk 2);have zatf:=(λo j=>zj (HSX.out o).tk.blk j);simp at za1 za2 zat;clear hT5 hk5 qdf qd0 qd1 qd2 qd3 qt2)
     |(at_builtin;refine zmk (vL:=.slice pl ([]:List YV).length cl) (L:=[]) (w5.alloc (.cells #[.string K,.int .i64 (T:Nat),.bool vg,.string vs] 193)) rfl _ _ rfl rfl _ (by simp) rfl ⟨K,T,vg,vs⟩ (HS5.out.kept (Kp.alloc _ _ _)) HG.out (HRW5.out _ (HK5.out.trans (Kp.alloc _ _ _) (λ_ _ e=>e))) HAB.out (by have:=HLL.out;have:=HN.out;have:=HQI.out;omega) ?_;intro p6 c6 w6 z6 z6f HEND;simp at z6)
     |fail)
    go_roundw
    case rel=>exact⟨0+1,tw,[]++[⟨K,T,vg,vs⟩],_,by have:=HQI.out;omega,by go_num,HEND.out.1,HTB3.out,HSTEP.out (λx hx=>by simp at hx),HEND.out.2.1,HEND.out.2.2⟩
    case measure=>have:=HQI.out;simp[intOf];omega
   ·obtain⟨m,rfl⟩:∃m,i=m+1:=⟨i-1,by omega⟩
    have hLn:L≠[]:=λe=>by have:=HLL.out;rw[e]at this;simp at this
    obtain⟨L0,y,rfl⟩:∃L0 y,L=L0++[y]:=⟨_,_,(List.dropLast_concat_getLast hLn).symm⟩
    have hL0:L0.length=m:=by have:=HLL.out;simpa using this
    subst hL0
    obtain⟨gl,cl2,cul,epl,_,_⟩:=zib HROW.out (by simp)
    injection epl with epl _ ecl
    subst ecl
    subst epl
    have HRC:Hid (∀W,Kp (λb=>b=w.heap.size+1) wr W→W.cell? ⟨gl,L0.length*4,none⟩=some (.string y.key)):=λW hW=>by
     have hc:=World.ownsRow.cells (HRW5.out W hW) (g:=gl) rfl (L0.length*4) (.string y.key) (zru _ _ _ (by simp))
     rw[zub,Nat.zero_add]at hc
     exact hc
    have HLE:Hid ((L0++[y]).length=L0.length+1):=HLL.out
    have hm0:(0:Int)<(L0.length:Int)+1:=by omega
    have hmL:(L0.length:Int)<(L0.length:Int)+1:=by omega
    have hm1:(L0.length:Int)≤300:=by have:=HQI.out;have:=HN.out;omega
    clear hLn q0
    simp only[List.length_append,List.length_cons,List.length_nil,Nat.zero_add]at HSA HAB HRW5 qd2
    by_cases qk:ltB y.key K=true
    ·have qk':Op.bytesLess y.key.toList K.toList=true:=qk
     have HBL:Hid (blt y.key K):=(z4g _ _).1 qk
     clear qk
     go_wp2_with (first
     |(go_at_call 198;refine zbo _ t K tt E4.out _ g _ HSA.out.tk HTB1.out ?_;intro w4 hT4 hk4;have HS4:=ze (HSA.out.step hk4 hT4);have HK4:=ze hk4;clear hT4 hk4)
     |(go_at_call 199;refine z0k _ tt K vs vg tw E5.out _ g _ HS4.out.tk (Nat.lt_of_lt_of_le HG.out HS4.out.kp.size) HTB2.out HKS.out ?_;intro w5 hT5 hk5;have HS5:=ze (HS4.out.step hk5 hT5);have HK5:=ze (HK4.out.trans hk5 (λ_ _ e=>e));have HSX:Hid (∀o,zyc w (w5.alloc o) D T false tw (.slice pv body.length cv) (.slice (some ⟨gl,0,none⟩) _ cl) g):=(λo=>HS5.out.kept (Kp.alloc _ _ _));have za1:=(λo=>zg (HSX.out o).d 1);have za2:=(λo=>zg (HSX.out o).d 2);have zat:=(λo=>zg (HSX.out o).tk.blk 2);have zatf:=(λo j=>zj (HSX.out o).tk.blk j);simp at za1 za2 zat;have zk:=(λo=>HRC.out (w5.alloc o) (HK5.out.trans (Kp.alloc _ _ _) (λ_ _ e=>e)));clear hT5 hk5 qdf qd0 qd1 qd2 qd3 qt2)
     |(at_builtin;refine zmk (vL:=.slice (some ⟨gl,0,none⟩) (L0.length+1) cl) (L:=L0++[y]) (w5.alloc (.cells #[.string K,.int .i64 (T:Nat),.bool vg,.string vs] 193)) rfl _ _ rfl rfl _ (by simp) rfl ⟨K,T,vg,vs⟩ (HS5.out.kept (Kp.alloc _ _ _)) HG.out (by have:=HRW5.out _ (HK5.out.trans (Kp.alloc _ _ (.cells #[.string K,.int .i64 (T:Nat),.bool vg,.string vs] 193)) (λ_ _ e=>e));simpa using this) HAB.out (by have:=HLL.out;have:=HN.out;have:=HQI.out;omega) ?_;intro p6 c6 w6 z6 z6f HEND)
     |fail)
     go_roundw
     case rel=>exact⟨L0.length+1+1,tw,L0++[y]++[⟨K,T,vg,vs⟩],.slice p6 (L0.length+1+1) c6,by have:=HQI.out;omega,by go_num,by have h:=HEND.out.1;simpa using h,HTB3.out,HSTEP.out (λx hx=>by simp at hx;rw[← hx];exact HBL.out),by have h:=HEND.out.2.1;simpa using h,by have h:=HEND.out.2.2;simpa using h⟩
     case measure=>have:=HQI.out;simp[intOf];omega
    ·have qk':Op.bytesLess y.key.toList K.toList=false:=by simpa [ltB] using qk
     have HBL:Hid (¬blt y.key K):=λh=>qk ((z4g _ _).2 h)
     clear qk
     go_wp2_with (first
     |(go_at_call 198;refine zbo _ t K tt E4.out _ g _ HSA.out.tk HTB1.out ?_;intro w4 hT4 hk4;have HS4:=ze (HSA.out.step hk4 hT4);have HK4:=ze hk4;clear hT4 hk4)
     |(go_at_call 199;refine z0k _ tt K vs vg tw E5.out _ g _ HS4.out.tk (Nat.lt_of_lt_of_le HG.out HS4.out.kp.size) HTB2.out HKS.out ?_;intro w5 hT5 hk5;have HS5:=ze (HS4.out.step hk5 hT5);have nz1:w5.heap.size≠w.heap.size+1:=(by have:=zh HS5.out.tk.blk;omega);have nz2:w.heap.size+1≠w5.heap.size:=(by omega);have HK5:=ze (HK4.out.trans hk5 (λ_ _ e=>e));have HSX:Hid (∀o,zyc w (w5.alloc o) D T false tw (.slice pv body.length cv) (.slice (some ⟨gl,0,none⟩) _ cl) g):=(λo=>HS5.out.kept (Kp.alloc _ _ _));have za1:=(λo=>zg (HSX.out o).d 1);have za2:=(λo=>zg (HSX.out o).d 2);have zat:=(λo=>zg (HSX.out o).tk.blk 2);have zatf:=(λo j=>zj (HSX.out o).tk.blk j);simp at za1 za2 zat;have zk:=(λo=>HRC.out (w5.alloc o) (HK5.out.trans (Kp.alloc _ _ _) (λ_ _ e=>e)));clear hT5 hk5 qdf qd0 qd1 qd2 qd3 qt2)
     |(at_builtin;refine zmk (vL:=.slice (some ⟨gl,0,none⟩) (L0.length+1) cl) (L:=L0++[y]) ((w5.alloc (.cells #[.string K,.int .i64 (T:Nat),.bool vg,.string vs] 193)).setCell ⟨w.heap.size+1,2,none⟩ (.bool true)) rfl _ _ rfl rfl _ (by simp) rfl ⟨K,T,vg,vs⟩ ((HS5.out.kept (Kp.alloc _ _ _)).wrong) HG.out (by have:=HRW5.out _ ((HK5.out.trans (Kp.alloc _ _ (.cells #[.string K,.int .i64 (T:Nat),.bool vg,.string vs] 193)) (λ_ _ e=>e)).trans (Kp.setCell (S:=λb=>b=w.heap.size+1) _ ⟨w.heap.size+1,2,none⟩ (.bool true) rfl) (λ_ _ e=>e));simpa using this) HAB.out (by have:=HLL.out;have:=HN.out;have:=HQI.out;omega) ?_;intro p6 c6 w6 z6 z6f HEND)
     |fail)
     go_roundw
     case rel=>exact⟨L0.length+1+1,tw.wrong,L0++[y]++[⟨K,T,vg,vs⟩],.slice p6 (L0.length+1+1) c6,by have:=HQI.out;omega,by go_num,by have h:=HEND.out.1;simpa using h,HTB3.out,HOFF.out y.key (by simp) HBL.out,by have h:=HEND.out.2.1;simpa using h,by have h:=HEND.out.2.2;simpa using h⟩
     case measure=>have:=HQI.out;simp[intOf];omega
  ·have HEX:Hid (i=n∨t.bad=true):=by
    show _∨_
    by_cases e:t.bad=true
    ·exact Or.inr e
    ·exact Or.inl (by have:¬i<n:=λh=>qa ⟨h,by simpa using e⟩;omega)
   have HIL:=ze hi
   have HFIN:Hid (∀ok:Bool,(ok=true↔((1≤n∧n≤10)∧(1≤T∧T≤2000)∧t.bad=false∧t.at_=body.length))→zoj body false T L ok):=λok he=>HS.out i t L HIL.out HEX.out HLY.out HTB.out ok (λe=>he.1 e) (λe h=>by rw[he.2 h]at e;cases e)
   have HLL:Hid (L.length≤255):=by show _≤_;have:=HN.out;omega
   have HRW1:=ze (z0t HSA.out HROW.out HAB.out)
   have HRW2:=ze (z0t HSA.out.wrong (zi HROW.out (Kp.setCell (S:=λb=>b=w.heap.size+1) wr ⟨w.heap.size+1,2,none⟩ (.bool true) rfl) (λb e (h:b=w.heap.size+1)=>by have:=HAB.out b e;have:=HSA.out.lt;omega)) HAB.out)
   have n5:w.heap.size≠w.heap.size+1:=by omega
   have n6:w.heap.size+1≠w.heap.size:=by omega
   clear hi hLl
   by_cases qi:i<n
   ·have qb:t.bad=true:=HEX.out.resolve_left (by omega)
    have qi':(i:Int)<n:=by omega
    rw[qb]at qt2
    by_cases c1:n<1
    ·omega
    ·have c1':¬(n:Int)<(1:Int):=by omega
     by_cases c2:10<n
     ·have c2':(10:Int)<(n:Int):=by omega
      go_wp2_with fail
      go_region
      all_goals go_wp2_with fail
      all_goals refine bodyPost_ret (zcb rfl _ _ w.heap.size #[.bool false,.int .i64 (T:Nat),.slice pl L.length cl,.slice pv body.length cv] rfl (z5b (fr:=(0,0)) HSA.out.wrong.out.1 rfl)) rfl ?_
      all_goals exact HR.out _ T L _ false (HSA.out.wrong.out.2.trans (Kp.drew (λ_=>False) _) (λ_ _ e=>e)) HRW2.out HLL.out (HFIN.out false (by simp;omega)) HFL.out
     ·have c2':¬(10:Int)<(n:Int):=by omega
      by_cases c3:T<1
      ·have c3':(T:Int)<(1:Int):=by omega
       go_wp2_with fail
       go_region
       all_goals go_wp2_with fail
       all_goals refine bodyPost_ret (zcb rfl _ _ w.heap.size #[.bool false,.int .i64 (T:Nat),.slice pl L.length cl,.slice pv body.length cv] rfl (z5b (fr:=(0,0)) HSA.out.wrong.out.1 rfl)) rfl ?_
       all_goals exact HR.out _ T L _ false (HSA.out.wrong.out.2.trans (Kp.drew (λ_=>False) _) (λ_ _ e=>e)) HRW2.out HLL.out (HFIN.out false (by simp;omega)) HFL.out
      ·have c3':¬(T:Int)<(1:Int):=by omega
       by_cases c4:2000<T
       ·have c4':(2000:Int)<(T:Int):=by omega
        go_wp2_with fail
        go_region
        all_goals go_wp2_with fail
        all_goals refine bodyPost_ret (zcb rfl _ _ w.heap.size #[.bool false,.int .i64 (T:Nat),.slice pl L.length cl,.slice pv body.length cv] rfl (z5b (fr:=(0,0)) HSA.out.wrong.out.1 rfl)) rfl ?_
        all_goals exact HR.out _ T L _ false (HSA.out.wrong.out.2.trans (Kp.drew (λ_=>False) _) (λ_ _ e=>e)) HRW2.out HLL.out (HFIN.out false (by simp;omega)) HFL.out
       ·have c4':¬(2000:Int)<(T:Int):=by omega
        go_wp2_with fail
        go_region
        all_goals go_wp2_with fail
        all_goals refine bodyPost_ret (zcb rfl _ _ w.heap.size #[.bool false,.int .i64 (T:Nat),.slice pl L.length cl,.slice pv body.length cv] rfl (z5b (fr:=(0,0)) HSA.out.out.1 rfl)) rfl ?_
        all_goals exact HR.out _ T L _ false (HSA.out.out.2.trans (Kp.drew (λ_=>False) _) (λ_ _ e=>e)) HRW1.out HLL.out (HFIN.out false (by simp[qb])) HFL.out
   ·have qi':¬(i:Int)<n:=by omega
    by_cases c1:n<1
    ·have c1':(n:Int)<(1:Int):=by omega
     go_wp2_with fail
     go_region
     all_goals go_wp2_with fail
     all_goals refine bodyPost_ret (zcb rfl _ _ w.heap.size #[.bool false,.int .i64 (T:Nat),.slice pl L.length cl,.slice pv body.length cv] rfl (z5b (fr:=(0,0)) HSA.out.wrong.out.1 rfl)) rfl ?_
     all_goals exact HR.out _ T L _ false (HSA.out.wrong.out.2.trans (Kp.drew (λ_=>False) _) (λ_ _ e=>e)) HRW2.out HLL.out (HFIN.out false (by simp;omega)) HFL.out
    ·have c1':¬(n:Int)<(1:Int):=by omega
     by_cases c2:10<n
     ·have c2':(10:Int)<(n:Int):=by omega
      go_wp2_with fail
      go_region
      all_goals go_wp2_with fail
      all_goals refine bodyPost_ret (zcb rfl _ _ w.heap.size #[.bool false,.int .i64 (T:Nat),.slice pl L.length cl,.slice pv body.length cv] rfl (z5b (fr:=(0,0)) HSA.out.wrong.out.1 rfl)) rfl ?_
      all_goals exact HR.out _ T L _ false (HSA.out.wrong.out.2.trans (Kp.drew (λ_=>False) _) (λ_ _ e=>e)) HRW2.out HLL.out (HFIN.out false (by simp;omega)) HFL.out
     ·have c2':¬(10:Int)<(n:Int):=by omega
      by_cases c3:T<1
      ·have c3':(T:Int)<(1:Int):=by omega
       go_wp2_with fail
       go_region
       all_goals go_wp2_with fail
       all_goals refine bodyPost_ret (zcb rfl _ _ w.heap.size #[.bool false,.int .i64 (T:Nat),.slice pl L.length cl,.slice pv body.length cv] rfl (z5b (fr:=(0,0)) HSA.out.wrong.out.1 rfl)) rfl ?_
       all_goals exact HR.out _ T L _ false (HSA.out.wrong.out.2.trans (Kp.drew (λ_=>False) _) (λ_ _ e=>e)) HRW2.out HLL.out (HFIN.out false (by simp;omega)) HFL.out
      ·have c3':¬(T:Int)<(1:Int):=by omega
       by_cases c4:2000<T
       ·have c4':(2000:Int)<(T:Int):=by omega
        go_wp2_with fail
        go_region
        all_goals go_wp2_with fail
        all_goals refine bodyPost_ret (zcb rfl _ _ w.heap.size #[.bool false,.int .i64 (T:Nat),.slice pl L.length cl,.slice pv body.length cv] rfl (z5b (fr:=(0,0)) HSA.out.wrong.out.1 rfl)) rfl ?_
        all_goals exact HR.out _ T L _ false (HSA.out.wrong.out.2.trans (Kp.drew (λ_=>False) _) (λ_ _ e=>e)) HRW2.out HLL.out (HFIN.out false (by simp;omega)) HFL.out
       ·have c4':¬(2000:Int)<(T:Int):=by omega
        by_cases qb:t.bad=true
        ·rw[qb]at qt2
         go_wp2_with fail
         go_region
         all_goals go_wp2_with fail
         all_goals refine bodyPost_ret (zcb rfl _ _ w.heap.size #[.bool false,.int .i64 (T:Nat),.slice pl L.length cl,.slice pv body.length cv] rfl (z5b (fr:=(0,0)) HSA.out.out.1 rfl)) rfl ?_
         all_goals exact HR.out _ T L _ false (HSA.out.out.2.trans (Kp.drew (λ_=>False) _) (λ_ _ e=>e)) HRW1.out HLL.out (HFIN.out false (by simp[qb])) HFL.out
        ·have qb':t.bad=false:=by simpa using qb
         rw[qb']at qt2
         by_cases qe:t.at_=body.length
         ·have qe':((t.at_:Int) == body.length)=true:=by simp[qe]
          go_wp2_with fail
          go_region
          all_goals go_wp2_with fail
          all_goals refine bodyPost_ret (zcb rfl _ _ w.heap.size #[.bool false,.int .i64 (T:Nat),.slice pl L.length cl,.slice pv body.length cv] rfl (z5b (fr:=(0,0)) HSA.out.out.1 rfl)) rfl ?_
          all_goals exact HR.out _ T L _ true (HSA.out.out.2.trans (Kp.drew (λ_=>False) _) (λ_ _ e=>e)) HRW1.out HLL.out (HFIN.out true (by simp[qb',qe];omega)) HFL.out
         ·have qe':((t.at_:Int) == body.length)=false:=by simp;omega
          go_wp2_with fail
          go_region
          all_goals go_wp2_with fail
          all_goals refine bodyPost_ret (zcb rfl _ _ w.heap.size #[.bool false,.int .i64 (T:Nat),.slice pl L.length cl,.slice pv body.length cv] rfl (z5b (fr:=(0,0)) HSA.out.out.1 rfl)) rfl ?_
          all_goals exact HR.out _ T L _ false (HSA.out.out.2.trans (Kp.drew (λ_=>False) _) (λ_ _ e=>e)) HRW1.out HLL.out (HFIN.out false (by simp[qe])) HFL.out
end
end Go.Proofs.YthbdpfccfcceiaaGreatDoor
