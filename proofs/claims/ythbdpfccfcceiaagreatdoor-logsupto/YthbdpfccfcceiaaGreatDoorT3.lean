/-
  Of the proof of logsUpto_card.
-/
import Derived.Test.YthbdpfccfcceiaaGreatDoorT2x
namespace Go.Proofs.YthbdpfccfcceiaaGreatDoor
open Go.RowKit
def zt:Lab:=⟨0,9,0,eb⟩
def z9g (own:Nat→Lab)(w:World)(lg:List Value)(bs:List (List UInt8)):Prop:=lg.length=bs.length∧∀(i:Nat) x b,lg[i]?=some x→bs[i]?=some b→BR 0 w x b∧∀g,x.ownBlock=some g→own g=zt
theorem z9g.frame {own own':Nat→Lab}{w w':World}{lg:List Value}{bs:List (List UInt8)}(h:z9g own w lg bs)(hb:∀b,b<w.heap.size→own b=zt→w'.heap[b]?=w.heap[b]?)(ho:∀b,b<w.heap.size→own b=zt→own' b=own b):z9g own' w' lg bs:=by
 refine⟨h.1,λi x b hx hbs=>?_⟩
 obtain⟨h1,h2⟩:=h.2 i x b hx hbs
 exact⟨zl h1 (λg e=>hb g (h1.lt g e).2 (h2 g e)),λg e=>(ho g (h1.lt g e).2 (h2 g e)).trans (h2 g e)⟩
theorem z9g.past {own own':Nat→Lab}{c:Nat}{w w':World}{lg:List Value}{bs:List (List UInt8)}(h:z9g own w lg bs)(k:Kp (λb=>(own b).c=c) w w')(a:∀b,b<w.heap.size→own' b=own b)(hc:c≠0):z9g own' w' lg bs:=
 h.frame (λb hb e=>k.block b hb (λe2=>by rw[e]at e2;exact hc e2.symm)) (λb hb _=>a b hb)
theorem z9g.snoc {own:Nat→Lab}{w:World}{lg:List Value}{bs:List (List UInt8)}(h:z9g own w lg bs){x:Value}{b:List UInt8}(hx:BR 0 w x b)(ho:∀g,x.ownBlock=some g→own g=zt):z9g own w (lg++[x]) (bs++[b]):=by
 refine⟨by rw[List.length_append,List.length_append,h.1];rfl,λi x' b' h1 h2=>?_⟩
 by_cases hi:i<lg.length
 ·rw[List.getElem?_append_left hi]at h1
  rw[List.getElem?_append_left (by rw[← h.1];exact hi)]at h2
  exact h.2 i x' b' h1 h2
 ·have hi2:i=lg.length:=by
   have:=(List.getElem?_eq_some_iff.1 h1).1
   simp at this
   omega
  subst hi2
  rw[List.getElem?_append_right (Nat.le_refl _)]at h1
  rw[List.getElem?_append_right (by rw[h.1];exact Nat.le_refl _),h.1]at h2
  simp at h1 h2
  subst h1 h2
  exact⟨hx,ho⟩
def YE (own:Nat→Lab)(c:Nat)(w:World)(p:Nat)(y:YS):Prop:=∃vL vT vG sv lg,YR own c w p y vL vT vG sv lg∧(lg.length:Int)≤y.now+y.hor∧z9g own w lg y.lg
def Cap (own:Nat→Lab)(i:Nat)(b:Nat):Prop:=(own b).c=2*i+2∨(own b).c=2*i+3
def Duo (own:Nat→Lab)(i:Nat)(w:World)(px py nt:Nat):Prop:=
 ∃s y,XE own (2*i+2) w px s∧YE own (2*i+3) w py y∧ztb s y∧YI y∧y.txs.length≤nt
section
variable {own own1 own2 own3:Nat→Lab}{c i:Nat}{w w1 w2 w3 w':World}{p px py nt:Nat}{s s':XS}{y y':YS}
theorem YE.frame {own':Nat→Lab}(h:YE own c w p y)(hb:∀b,b<w.heap.size→(own b).c=c∨own b=zt→w'.heap[b]?=w.heap[b]?)(ho:∀b,b<w.heap.size→(own b).c=c∨own b=zt→own' b=own b):YE own' c w' p y:=by
 obtain⟨vL,vT,vG,sv,lg,h,hl,hg⟩:=h
 exact⟨vL,vT,vG,sv,lg,h.frame (λb h1 h2=>hb b h1 (Or.inl h2)) (λb h1 h2=>ho b h1 (Or.inl h2)),hl,hg.frame (λb h1 h2=>hb b h1 (Or.inr h2)) (λb h1 h2=>ho b h1 (Or.inr h2))⟩
theorem Duo.frame {own':Nat→Lab}(h:Duo own i w px py nt)(hb:∀b,b<w.heap.size→Cap own i b∨own b=zt→w'.heap[b]?=w.heap[b]?)(ho:∀b,b<w.heap.size→Cap own i b∨own b=zt→own' b=own b):Duo own' i w' px py nt:=by
 obtain⟨s,y,hx,hy,h⟩:=h
 exact⟨s,y,hx.frame (λb hl e=>hb b hl (Or.inl (Or.inl e))) (λb hl e=>ho b hl (Or.inl (Or.inl e))),hy.frame (λb hl e=>hb b hl (e.imp Or.inr id)) (λb hl e=>ho b hl (e.imp Or.inr id)),h⟩
theorem Duo.mono {nt':Nat}(h:Duo own i w px py nt)(hn:nt≤nt'):Duo own i w px py nt':=by
 obtain⟨s,y,hx,hy,ht,hi,h⟩:=h
 exact⟨s,y,hx,hy,ht,hi,Nat.le_trans h hn⟩
def zmc (own:Nat→Lab)(n:Nat)(b:Nat):Lab:=if b<n then own b else ⟨0,9,0,eb⟩
theorem zrb {n b:Nat}(h:b<n):zmc own n b=own b:=by simp[zmc,h]
theorem zef {n b:Nat}(h:¬b<n):zmc own n b=⟨0,9,0,eb⟩:=by simp[zmc,h]
theorem XE.box (h:XE own c w p s)(hk:Kp (λ_=>False) w w1):XE (zmc own w.heap.size) c w1 p s:=h.frame (λb hl _=>hk.block b hl (λe=>e)) (λ_ hl _=>zrb hl)
theorem YE.box (h:YE own c w p y)(hk:Kp (λ_=>False) w w1):YE (zmc own w.heap.size) c w1 p y:=h.frame (λb hl _=>hk.block b hl (λe=>e)) (λ_ hl _=>zrb hl)
theorem YE.past (h:YE own1 (2*i+3) w1 p y)(k:Kp (λb=>(own1 b).c=2*i+2) w1 w2)(a:∀b,b<w1.heap.size→own2 b=own1 b):YE own2 (2*i+3) w2 p y:=
 h.frame (λb hl e=>k.block b hl (λe2=>by
  rcases e with e|e
  ·omega
  ·rw[e]at e2;simp[zt]at e2)) (λb hl _=>a b hl)
theorem XE.past (h:XE own1 (2*i+2) w1 p s)(k:Kp (λb=>(own1 b).c=2*i+3) w1 w2)(a:∀b,b<w1.heap.size→own2 b=own1 b):XE own2 (2*i+2) w2 p s:=
 h.frame (λb hl e=>k.block b hl (λe2=>by omega)) (λb hl _=>a b hl)
theorem low {n m:Nat}(k:Kp (λb=>(zmc own n b).c=2*m+2) w1 w2):Kp (λb=>b<n) w1 w2:=k.mono (λb _ e=>by
 show b<n
 by_cases h:b<n
 ·exact h
 ·rw[zef h]at e;simp at e)
theorem fin {Q:World→Prop}{nt':Nat}(hw:Kp (λ_=>False) w w1)(k2:Kp (λb=>(zmc own w.heap.size b).c=2*i+2) w1 w2)(a2:∀b,b<w1.heap.size→own2 b=zmc own w.heap.size b)(x2:XE own2 (2*i+2) w2 px s')
  (k3:Kp (λb=>(own2 b).c=2*i+3) w2 w3) (a3:∀b,b<w2.heap.size→own3 b=own2 b) (y3:YE own3 (2*i+3) w3 py y') (ht:ztb s' y') (hy:YI y') (hn:y'.txs.length≤nt')
  (hK:∀w3 own3,Kp (Cap own i) w w3→(∀b,b<w.heap.size→own3 b=own b)→Duo own3 i w3 px py nt'→Q w3):Q w3:=by
 refine hK w3 own3 ?_ ?_ ⟨s',y',x2.past k3 a3,y3,ht,hy,hn⟩
 ·refine (hw.mono (S':=Cap own i) (λ_ _ h=>h.elim)).trans (S':=Cap (zmc own w.heap.size) i) ((k2.mono (S':=Cap (zmc own w.heap.size) i) (λ_ _ h=>Or.inl h)).trans k3 (λb hb e=>?_)) (λb hb e=>?_)
  ·rw[a2 b hb]at e;exact Or.inr e
  ·unfold Cap at e;rw[zrb hb]at e;exact e
 ·intro b hb
  have h1:=hw.size
  have h2:=k2.size
  rw[a3 b (by omega),a2 b (by omega),zrb hb]
theorem wf_i64 {a:Int}(h:-9223372036854775808≤a∧a≤9223372036854775807):(Lit.int .i64 a).wf=true:=by
 have e0:IntKind.i64.min = -9223372036854775808:=rfl
 simp[Lit.wf]
 omega
theorem YI.yb (h:YI y)(hn:y.txs.length<1000000000):YB y:=by
 have h1:=h.len
 have h2:=h.now
 exact⟨by omega,by omega,λi hi=>(h.txs _ (List.getElem_mem hi)).len⟩
theorem ztb.none_iff (h:ztb s y){a:Int}:s.txs a=none↔zab y a=false:=by
 rw[h.txs]
 constructor
 ·intro e
  rw[Bool.eq_false_iff]
  intro ht
  obtain⟨j,rfl,hj,ho⟩:=z9d.1 ht
  rw[z1j hj ho]at e;cases e
 ·exact zof
theorem ztb.some_at (h:ztb s y){a:Int}{t:XT}(e:s.txs a=some t):zab y a=true∧∃j:Nat,a=(j:Int)+1∧∃hj:j<y.txs.length,(y.txs[j]).over=false∧t=zec y.txs[j]:=by
 rw[h.txs]at e
 obtain⟨j,rfl,hj,ho,rfl⟩:=zgl e
 exact⟨z9d.2 ⟨j,rfl,hj,ho⟩,j,rfl,hj,ho,rfl⟩
theorem ztb.nw (h:ztb s y)(hy:YI y):∀n t,s.txs n=some t→t.nw≤10:=λn t e=>by
 obtain⟨_,j,_,hj,_,rfl⟩:=h.some_at e
 exact (hy.txs _ (List.getElem_mem hj)).len
theorem ztb.keysW (h:ztb s y)(hy:YI y):∀n t,s.txs n=some t→∀k,(t.wr k).isSome=true→k.size≤8:=λn t e k hk=>by
 obtain⟨_,j,_,hj,_,rfl⟩:=h.some_at e
 obtain⟨v,hv,rfl⟩:=zsh.1 hk
 exact zgi ((hy.txs _ (List.getElem_mem hj)).ok v hv).1
theorem ztb.keysM (h:ztb s y)(hy:YI y):∀k,s.mom k≠[]→k.size≤8:=λk hk=>by
 rw[h.mom]at hk
 obtain⟨v,hv,rfl⟩:=zxj.1 hk
 exact zgi (hy.ver v hv).2.2
variable {R:Ending→World→Prop}
theorem zl1 (hD:Duo own i w px py nt)(hnt:nt<100000000)(e a b:Int)(st tt:ByteArray)(vl vm:Value)
  (hK:∀w3 own3,Kp (Cap own i) w w3→(∀b,b<w.heap.size→own3 b=own b)→Duo own3 i w3 px py (nt+1)→R (.returned (.bool true)) w3) :
  Calls Tryz.prog 61 #[.pointer (some ⟨p,0,none⟩),zjb px py,zkb 2 e a b st tt vl vm] w R:=by
 obtain⟨s,y,hx,hy,ht,hi,hn⟩:=hD
 refine z6x w p px py e a b st tt vl vm ?_
 have hw:=zfd w px py 2 e a b st tt vl vm
 generalize zeb w px py 2 e a b st tt vl vm=w1 at hw ⊢
 have x1:=hx.box hw
 have y1:=hy.box hw
 obtain⟨mo,ph,mv,mm,pt,mw,sl,X⟩:=x1
 have hb:=ht.begun
 refine zu2 X (by omega) (by omega) ht.newTx_none (λh8=>?_) (λh8 w2 own2 k2 a2 n2 X2=>?_)
 ·refine⟨_,_,rfl,Kp.refl _ _,?_⟩
  obtain⟨vL,vT,vG,sv,lg,Y,hl,hg⟩:=y1
  have h8':=ht.nopen
  refine z8t Y (by omega) (λh=>⟨rfl,?_⟩) (λh w3 own3 v' k3 a3 Y3=>?_)
  ·exact fin hw (Kp.refl _ _) (λ_ _=>rfl) ⟨mo,ph,mv,mm,pt,mw,sl,X⟩ (Kp.refl _ _) (λ_ _=>rfl) ⟨vL,vT,vG,sv,lg,Y,hl,hg⟩ ht hi (by omega) hK
  ·have h9:=hi.opn
   omega
 ·refine⟨_,_,rfl,low k2,?_⟩
  obtain⟨vL,vT,vG,sv,lg,Y,hl,hg⟩:=y1.past k2 a2
  refine z8t Y (by omega) (λh=>?_) (λh w3 own3 v' k3 a3 Y3=>⟨?_,?_⟩)
  ·have h8':=ht.nopen
   omega
  ·rw[hb];rfl
  ·exact fin hw k2 a2 ⟨_,_,_,_,_,_,_,X2⟩ k3 a3 ⟨_,_,_,_,_,Y3,hl,hg.past k3 a3 (by omega)⟩ ht.opened (hi.opened h) (by simp;omega) hK
theorem zkg {Q:World→Prop}(hw:Kp (λ_=>False) w w1)(k2:Kp (λ_=>False) w1 w2)(k3:Kp (λ_=>False) w2 w3)(x1:XE (zmc own w.heap.size) (2*i+2) w1 px s)(y1:YE (zmc own w.heap.size) (2*i+3) w1 py y)(ht:ztb s y)(hy:YI y)(hn:y.txs.length≤nt)
  (hK:∀w3 own3,Kp (Cap own i) w w3→(∀b,b<w.heap.size→own3 b=own b)→Duo own3 i w3 px py (nt+1)→Q w3):Q w3:=
 fin hw (k2.mono (λ_ _ h=>h.elim)) (λ_ _=>rfl) (x1.frame (λb hb _=>k2.block b hb (λh=>h)) (λ_ _ _=>rfl)) (k3.mono (λ_ _ h=>h.elim)) (λ_ _=>rfl)
  ((y1.frame (λb hb _=>k2.block b hb (λh=>h)) (λ_ _ _=>rfl)).frame (λb hb _=>k3.block b hb (λh=>h)) (λ_ _ _=>rfl)) ht hy (by omega) hK
theorem kpF {S:Nat→Prop}(k:Kp (λ_=>False) w1 w2):Kp S w1 w2:=k.mono (λ_ _ h=>h.elim)
theorem zy3 (hD:Duo own i w px py nt)(hnt:nt<100000000)(e a b:Int)(ha:-9223372036854775808≤a∧a≤9223372036854775807)(st tt:ByteArray)(hst:st.size≤maxLen)(_htt:tt.size≤maxLen)(vl vm:Value)
  (hK:∀w3 own3,Kp (Cap own i) w w3→(∀b,b<w.heap.size→own3 b=own b)→Duo own3 i w3 px py (nt+1)→R (.returned (.bool true)) w3) :
  Calls Tryz.prog 61 #[.pointer (some ⟨p,0,none⟩),zjb px py,zkb 3 e a b st tt vl vm] w R:=by
 obtain⟨s,y,hx,hy,ht,hi,hn⟩:=hD
 refine zk2 w p px py e a b st tt vl vm ?_
 have hw:=zfd w px py 3 e a b st tt vl vm
 generalize zeb w px py 3 e a b st tt vl vm=w1 at hw ⊢
 have x1:=hx.box hw
 have y1:=hy.box hw
 have HB:=hi.yb (by omega)
 have X0:=x1
 have Y0:=y1
 obtain⟨mo,ph,mv,mm,pt,mw,sl,X⟩:=x1
 obtain⟨vL,vT,vG,sv,lg,Y,hl,hg⟩:=y1
 refine zb4 X a (wf_i64 ha) st hst (ht.momOk hi) (λe0=>⟨_,_,rfl,Kp.refl _ _,?_⟩) (λt e1 hk=>⟨_,_,rfl,Kp.refl _ _,?_⟩) (λt e1 hk hs w2 k2=>⟨_,_,rfl,kpF k2,?_⟩) (λt e1 hk hs w2 k2=>⟨_,_,rfl,kpF k2,?_⟩)
 ·have th:=ht.none_iff.1 e0
  refine zcq Y HB a st hst (λ_=>⟨rfl,zkg hw (Kp.refl _ _) (Kp.refl _ _) X0 Y0 ht hi hn hK⟩) (λh=>?_) (λj hj r _ h=>?_) (λj hj r _ h=>?_)<;>(rw[th]at h;cases h)
 ·have th:=(ht.some_at e1).1
  refine zcq Y HB a st hst (λh=>?_) (λ_ _=>⟨rfl,zkg hw (Kp.refl _ _) (Kp.refl _ _) X0 Y0 ht hi hn hK⟩) (λj hj r _ _ h=>?_) (λj hj r _ _ h=>?_)
  ·rw[th]at h;cases h
  ·rw[hk]at h;cases h
  ·rw[hk]at h;cases h
 ·obtain⟨th,j,rfl,hj,ho,rfl⟩:=ht.some_at e1
  refine zcq (Y.kept k2) HB _ st hst (λh=>?_) (λ_ h=>?_) (λj' hj' r hj2 _ _ hr h w3 k3=>⟨rfl,zkg hw k2 k3 X0 Y0 ht hi hn hK⟩) (λj' hj' r hj2 _ _ hr h=>?_)
  ·rw[th]at h;cases h
  ·rw[hk]at h;cases h
  ·have:j'=j:=by omega
   subst this
   have:=(ht.seen hi _ st r hr).1
   rw[h,hs]at this;cases this
 ·obtain⟨th,j,rfl,hj,ho,rfl⟩:=ht.some_at e1
  refine zcq (Y.kept k2) HB _ st hst (λh=>?_) (λ_ h=>?_) (λj' hj' r hj2 _ _ hr h=>?_) (λj' hj' r hj2 _ _ hr h w3 k3=>⟨?_,zkg hw k2 k3 X0 Y0 ht hi hn hK⟩)
  ·rw[th]at h;cases h
  ·rw[hk]at h;cases h
  ·have:j'=j:=by omega
   subst this
   have:=(ht.seen hi _ st r hr).1
   rw[h,hs]at this;cases this
  ·have:j'=j:=by omega
   subst this
   rw[(ht.seen hi _ st r hr).2 h]
theorem zdq {vL vT vG:Value}{sv lg:List Value}{Q:Ending→World→Prop}(Y:YR own2 c w2 py y vL vT vG sv lg)(hl:(lg.length:Int)≤y.now+y.hor)(hg:z9g own2 w2 lg y.lg)(hc:c≠0)(hB:YB y)(hi:YI y)(j:Nat)(hj:j<y.txs.length)(ho:(y.txs[j]).over=false)(key val:ByteArray)(gone:Bool)(hk:zu key=true)(hv:val.size≤20)
  (hF:zyd (zec y.txs[j]) key (val,gone)=none→∀w',Kp (λ_=>False) w2 w'→Q (.returned (.int .i64 3)) w')
  (hS:∀l',zyd (zec y.txs[j]) key (val,gone)=some (zec { y.txs[j] with l:=l' })→TI y.now { y.txs[j] with l:=l' }→∀w' own',Kp (λb=>(own2 b).c=c) w2 w'→(∀b,b<w2.heap.size→own' b=own2 b)→YE own' c w' py (z0c y j { y.txs[j] with l:=l' })→Q (.returned (.int .i64 0)) w') :
  Calls Tryz.prog 106 #[.pointer (some ⟨py,0,none⟩),.int .i64 ((j:Int)+1),.agg #[.string key,.int .i64 0,.bool gone,.string val]] w2 Q:=by
 have th:zab y ((j:Int)+1)=true:=z9d.2 ⟨j,rfl,hj,ho⟩
 have hti:=hi.txs _ (List.getElem_mem hj)
 cases hx:zyb (y.txs[j]).l key with
 |some ix=>exact z9p Y hB j hj th key val gone hk hv ix hx (λw' k Y'=>hS _ (zot hx gone val) (hti.again hx hk gone hv) w' own2 k (λ_ _=>rfl) ⟨_,_,_,_,_,Y',hl,hg.past k (λ_ _=>rfl) hc⟩)
 |none=>
  by_cases h10:(y.txs[j]).l.length<10
  ·exact zrt Y hB j hj th key val gone hk hv hx h10 (λw' own' sv' k a Y'=>hS _ (zey hx h10 gone val) (hti.more hx h10 hk gone hv) w' own' k a ⟨_,_,_,_,_,Y',hl,hg.past k a hc⟩)
  ·have h10':(y.txs[j]).l.length=10:=by have:=hti.len;omega
   exact zes Y hB j hj th key val gone hk hv hx h10' (λw' k=>hF (z4v hx h10' gone val) w' k)
theorem z03 (hD:Duo own i w px py nt)(hnt:nt<100000000)(e a b:Int)(ha:-9223372036854775808≤a∧a≤9223372036854775807)(st tt:ByteArray)(hst:st.size≤maxLen)(htt:tt.size≤maxLen)(vl vm:Value)
  (hK:∀w3 own3,Kp (Cap own i) w w3→(∀b,b<w.heap.size→own3 b=own b)→Duo own3 i w3 px py (nt+1)→R (.returned (.bool true)) w3) :
  Calls Tryz.prog 61 #[.pointer (some ⟨p,0,none⟩),zjb px py,zkb 5 e a b st tt vl vm] w R:=by
 obtain⟨s,y,hx,hy,ht,hi,hn⟩:=hD
 refine zn2 w p px py e a b st tt vl vm ?_
 have hw:=zfd w px py 5 e a b st tt vl vm
 generalize zeb w px py 5 e a b st tt vl vm=w1 at hw ⊢
 have x1:=hx.box hw
 have y1:=hy.box hw
 have HB:=hi.yb (by omega)
 have X0:=x1
 have Y0:=y1
 obtain⟨mo,ph,mv,mm,pt,mw,sl,X⟩:=x1
 obtain⟨vL,vT,vG,sv,lg,Y,hl,hg⟩:=y1
 refine zd4 X a (wf_i64 ha) st tt hst htt (ht.nw hi) (λe0=>⟨_,rfl,Kp.refl _ _,?_⟩) (λt e1 hb=>⟨_,rfl,Kp.refl _ _,?_⟩) (λt e1 hg hn0 w2 k2 X2=>⟨_,rfl,low k2,?_⟩) (λt t' e1 hg hn0 w2 k2 X2=>⟨_,rfl,low k2,?_⟩)
 ·have th:=ht.none_iff.1 e0
  exact zzh Y HB a st tt false hst htt (λ_ w3 k3=>⟨rfl,zkg hw (Kp.refl _ _) k3 X0 Y0 ht hi hn hK⟩) (λh=>by rw[th]at h;cases h) (Or.inl th)
 ·have th:=(ht.some_at e1).1
  exact zzh Y HB a st tt false hst htt (λh=>by rw[th]at h;cases h) (λ_ _ w3 k3=>⟨rfl,zkg hw (Kp.refl _ _) k3 X0 Y0 ht hi hn hK⟩) (Or.inr hb)
 ·obtain⟨th,j,rfl,hj,ho,rfl⟩:=ht.some_at e1
  obtain⟨hk,hv⟩:=(by simpa using hg:zu st=true∧tt.size≤20)
  obtain⟨vL,vT,vG,sv,lg,Y,hl,hg⟩:=Y0.past k2 (λ_ _=>rfl)
  refine zdq Y hl hg (by omega) HB hi j hj ho st tt false hk hv (λ_ w3 k3=>⟨rfl,?_⟩) (λl' hs=>by rw[hn0]at hs;cases hs)
  exact fin hw k2 (λ_ _=>rfl) ⟨_,_,_,_,_,_,_,X2⟩ (kpF k3) (λ_ _=>rfl) ((YE.frame ⟨vL,vT,vG,sv,lg,Y,hl,hg⟩) (λb hb _=>k3.block b hb (λh=>h)) (λ_ _ _=>rfl)) ht hi (by omega) hK
 ·obtain⟨th,j,rfl,hj,ho,rfl⟩:=ht.some_at e1
  obtain⟨hk,hv⟩:=(by simpa using hg:zu st=true∧tt.size≤20)
  obtain⟨vL,vT,vG,sv,lg,Y,hl,hg⟩:=Y0.past k2 (λ_ _=>rfl)
  refine zdq Y hl hg (by omega) HB hi j hj ho st tt false hk hv (λhs=>by rw[hn0]at hs;cases hs) (λl' hs hti w3 own3 k3 a3 Y3=>⟨rfl,?_⟩)
  rw[hn0]at hs
  injection hs with hs
  subst hs
  exact fin hw k2 (λ_ _=>rfl) ⟨_,_,_,_,_,_,_,X2⟩ k3 a3 Y3 (ht.written hj ho l') (hi.written hj ho _ hti ho (show y.hor≤(y.txs[j]).sees from hi.pin y.txs[j] (List.getElem_mem hj) ho)) (by simp[z0c];omega) hK
theorem zxy (hD:Duo own i w px py nt)(hnt:nt<100000000)(e a b:Int)(ha:-9223372036854775808≤a∧a≤9223372036854775807)(st tt:ByteArray)(hst:st.size≤maxLen)(_htt:tt.size≤maxLen)(vl vm:Value)
  (hK:∀w3 own3,Kp (Cap own i) w w3→(∀b,b<w.heap.size→own3 b=own b)→Duo own3 i w3 px py (nt+1)→R (.returned (.bool true)) w3) :
  Calls Tryz.prog 61 #[.pointer (some ⟨p,0,none⟩),zjb px py,zkb 6 e a b st tt vl vm] w R:=by
 obtain⟨s,y,hx,hy,ht,hi,hn⟩:=hD
 refine zuv w p px py e a b st tt vl vm ?_
 have hw:=zfd w px py 6 e a b st tt vl vm
 generalize zeb w px py 6 e a b st tt vl vm=w1 at hw ⊢
 have x1:=hx.box hw
 have y1:=hy.box hw
 have HB:=hi.yb (by omega)
 have X0:=x1
 have Y0:=y1
 obtain⟨mo,ph,mv,mm,pt,mw,sl,X⟩:=x1
 obtain⟨vL,vT,vG,sv,lg,Y,hl,hg⟩:=y1
 refine zv0 X a (wf_i64 ha) st hst (ht.nw hi) (λe0=>⟨_,rfl,Kp.refl _ _,?_⟩) (λt e1 hb=>⟨_,rfl,Kp.refl _ _,?_⟩) (λt e1 hg hn0 w2 k2 X2=>⟨_,rfl,low k2,?_⟩) (λt t' e1 hg hn0 w2 k2 X2=>⟨_,rfl,low k2,?_⟩)
 ·have th:=ht.none_iff.1 e0
  exact zzh Y HB a st eb true hst (by decide) (λ_ w3 k3=>⟨rfl,zkg hw (Kp.refl _ _) k3 X0 Y0 ht hi hn hK⟩) (λh=>by rw[th]at h;cases h) (Or.inl th)
 ·have th:=(ht.some_at e1).1
  exact zzh Y HB a st eb true hst (by decide) (λh=>by rw[th]at h;cases h) (λ_ _ w3 k3=>⟨rfl,zkg hw (Kp.refl _ _) k3 X0 Y0 ht hi hn hK⟩) (Or.inr (by rw[hb];rfl))
 ·obtain⟨th,j,rfl,hj,ho,rfl⟩:=ht.some_at e1
  obtain⟨hk,hv⟩:=(⟨hg,by decide⟩:zu st=true∧eb.size≤20)
  obtain⟨vL,vT,vG,sv,lg,Y,hl,hg⟩:=Y0.past k2 (λ_ _=>rfl)
  refine zdq Y hl hg (by omega) HB hi j hj ho st eb true hk hv (λ_ w3 k3=>⟨rfl,?_⟩) (λl' hs=>by rw[hn0]at hs;cases hs)
  exact fin hw k2 (λ_ _=>rfl) ⟨_,_,_,_,_,_,_,X2⟩ (kpF k3) (λ_ _=>rfl) ((YE.frame ⟨vL,vT,vG,sv,lg,Y,hl,hg⟩) (λb hb _=>k3.block b hb (λh=>h)) (λ_ _ _=>rfl)) ht hi (by omega) hK
 ·obtain⟨th,j,rfl,hj,ho,rfl⟩:=ht.some_at e1
  obtain⟨hk,hv⟩:=(⟨hg,by decide⟩:zu st=true∧eb.size≤20)
  obtain⟨vL,vT,vG,sv,lg,Y,hl,hg⟩:=Y0.past k2 (λ_ _=>rfl)
  refine zdq Y hl hg (by omega) HB hi j hj ho st eb true hk hv (λhs=>by rw[hn0]at hs;cases hs) (λl' hs hti w3 own3 k3 a3 Y3=>⟨rfl,?_⟩)
  rw[hn0]at hs
  injection hs with hs
  subst hs
  exact fin hw k2 (λ_ _=>rfl) ⟨_,_,_,_,_,_,_,X2⟩ k3 a3 Y3 (ht.written hj ho l') (hi.written hj ho _ hti ho (show y.hor≤(y.txs[j]).sees from hi.pin y.txs[j] (List.getElem_mem hj) ho)) (by simp[z0c];omega) hK
theorem zk1 (hD:Duo own i w px py nt)(hnt:nt<100000000)(e a b:Int)(ha:-9223372036854775808≤a∧a≤9223372036854775807)(st tt:ByteArray)(_hst:st.size≤maxLen)(_htt:tt.size≤maxLen)(vl vm:Value)
  (hK:∀w3 own3,Kp (Cap own i) w w3→(∀b,b<w.heap.size→own3 b=own b)→Duo own3 i w3 px py (nt+1)→R (.returned (.bool true)) w3) :
  Calls Tryz.prog 61 #[.pointer (some ⟨p,0,none⟩),zjb px py,zkb 8 e a b st tt vl vm] w R:=by
 obtain⟨s,y,hx,hy,ht,hi,hn⟩:=hD
 refine z5x w p px py e a b st tt vl vm ?_
 have hw:=zfd w px py 8 e a b st tt vl vm
 generalize zeb w px py 8 e a b st tt vl vm=w1 at hw ⊢
 have x1:=hx.box hw
 have y1:=hy.box hw
 have HB:=hi.yb (by omega)
 have X0:=x1
 have Y0:=y1
 obtain⟨mo,ph,mv,mm,pt,mw,sl,X⟩:=x1
 obtain⟨vL,vT,vG,sv,lg,Y,hl,hg⟩:=y1
 refine zs2 X a (wf_i64 ha) (λe0=>⟨_,rfl,Kp.refl _ _,?_⟩) (λt e1 w2 k2 X2=>⟨_,rfl,low k2,?_⟩)
 ·have th:=ht.none_iff.1 e0
  exact z7t Y (by omega) a (λ_=>⟨rfl,zkg hw (Kp.refl _ _) (Kp.refl _ _) X0 Y0 ht hi hn hK⟩) (λj hj _ h=>by rw[th]at h;cases h)
 ·obtain⟨th,j,rfl,hj,ho,rfl⟩:=ht.some_at e1
  obtain⟨vL,vT,vG,sv,lg,Y,hl,hg⟩:=Y0.past k2 (λ_ _=>rfl)
  refine z7t Y (by omega) _ (λh=>by rw[th]at h;cases h) (λj' hj' hj2 _ w3 k3 Y3=>⟨rfl,?_⟩)
  have:j'=j:=by omega
  subst this
  exact fin hw k2 (λ_ _=>rfl) ⟨_,_,_,_,_,_,_,X2⟩ k3 (λ_ _=>rfl) ⟨_,_,_,_,_,Y3,hl,hg.past k3 (λ_ _=>rfl) (by omega)⟩ (ht.closed hj ho) (hi.closed hj ho) (by simp[zqc];omega) hK
theorem zz3 (hD:Duo own i w px py nt)(hnt:nt<100000000)(e a b:Int)(_ha:-9223372036854775808≤a∧a≤9223372036854775807)(st tt:ByteArray)(_hst:st.size≤maxLen)(_htt:tt.size≤maxLen)(vl vm:Value)
  (hK:∀w3 own3,Kp (Cap own i) w w3→(∀b,b<w.heap.size→own3 b=own b)→Duo own3 i w3 px py (nt+1)→R (.returned (.bool true)) w3) :
  Calls Tryz.prog 61 #[.pointer (some ⟨p,0,none⟩),zjb px py,zkb 9 e a b st tt vl vm] w R:=by
 obtain⟨s,y,hx,hy,ht,hi,hn⟩:=hD
 refine zl2 w p px py e a b st tt vl vm ?_
 have hw:=zfd w px py 9 e a b st tt vl vm
 generalize zeb w px py 9 e a b st tt vl vm=w1 at hw ⊢
 have x1:=hx.box hw
 have y1:=hy.box hw
 have HB:=hi.yb (by omega)
 have X0:=x1
 have Y0:=y1
 obtain⟨mo,ph,mv,mm,pt,mw,sl,X⟩:=x1
 obtain⟨vL,vT,vG,sv,lg,Y,hl,hg⟩:=y1
 refine zc4 X ⟨_,rfl,Kp.refl _ _,?_,zkg hw (Kp.refl _ _) (Kp.refl _ _) X0 Y0 ht hi hn hK⟩
 rw[zg Y.store 2,ht.now]
 rfl
theorem zwy (hD:Duo own i w px py nt)(hT:Tab w)(hN:zid own (2*i+2))(hnt:nt<100000000)(e a b:Int)(ha:-9223372036854775808≤a∧a≤9223372036854775807)(st tt:ByteArray)(_hst:st.size≤maxLen)(_htt:tt.size≤maxLen)(vl vm:Value)
  (hK:∀w3 own3,Kp (Cap own i) w w3→(∀b,b<w.heap.size→own3 b=own b)→Duo own3 i w3 px py (nt+1)→R (.returned (.bool true)) w3) :
  Calls Tryz.prog 61 #[.pointer (some ⟨p,0,none⟩),zjb px py,zkb 7 e a b st tt vl vm] w R:=by
 obtain⟨s,y,hx,hy,ht,hi,hn⟩:=hD
 have hor0:=hi.hor
 have now0:=hi.now
 refine ztv w p px py e a b st tt vl vm ?_
 have hw:=zfd w px py 7 e a b st tt vl vm
 generalize zeb w px py 7 e a b st tt vl vm=w1 at hw ⊢
 have x1:=hx.box hw
 have y1:=hy.box hw
 have HB:=hi.yb (by omega)
 have X0:=x1
 have Y0:=y1
 obtain⟨mo,ph,mv,mm,pt,mw,sl,X⟩:=x1
 obtain⟨vL,vT,vG,sv,lg,Y,hl,hg⟩:=y1
 have hnow:=ht.now
 cases e1:s.txs a with
 |none=>
  have th:=ht.none_iff.1 e1
  refine zps px mo s.nopen _ a w1 (zg X.store 7) X.opn (wf_i64 ha) (by rw[zrc,e1];rfl) ⟨_,_,rfl,Kp.refl _ _,?_⟩
  exact z8p Y HB a th ⟨rfl,zkg hw (Kp.refl _ _) (Kp.refl _ _) X0 Y0 ht hi hn hK⟩
 |some t=>
  obtain⟨th,j,rfl,hj,ho,rfl⟩:=ht.some_at e1
  have hti:=hi.txs _ (List.getElem_mem hj)
  have hlen:(zec y.txs[j]).nw=(y.txs[j]).l.length:=rfl
  have hkeys:∀k,((zec y.txs[j]).wr k).isSome=true→k.size≤8:=ht.keysW hi _ _ e1
  have hmom:∀k,(s.mom k).length<1000000:=λk=>(ht.momOk hi k).len
  have hY:YI y:=hi
  have hnow2:=hi.now
  by_cases h0:(y.txs[j]).l.length=0
  ·refine zno X _ (wf_i64 ha) _ e1 (hlen.trans h0) (λw2 k2 X2=>⟨_,_,rfl,low k2,?_⟩)
   obtain⟨vL,vT,vG,sv,lg,Y,hl,hg⟩:=Y0.past k2 (λ_ _=>rfl)
   refine zoo Y HB j hj th h0 (λw3 k3 Y3=>⟨rfl,?_⟩)
   exact fin hw k2 (λ_ _=>rfl) ⟨_,_,_,_,_,_,_,X2⟩ k3 (λ_ _=>rfl) ⟨_,_,_,_,_,Y3,hl,hg.past k3 (λ_ _=>rfl) (by omega)⟩ (ht.closed hj ho) (hi.closed hj ho) (by simp[zqc];omega) hK
  ·have hks:∀v∈(y.txs[j]).l,v.key.size≤8∧v.s.size≤20∧inR eb zbq v.key=true:=λv hv=>⟨zgi (hti.ok v hv).1,(hti.ok v hv).2,zhz (hti.ok v hv).1⟩
   by_cases hov:zkl y (y.txs[j])
   ·refine z7p X _ (wf_i64 ha) _ e1 (by omega) hkeys hmom ((zlr ht hi _).2 hov) (λw2 k2 X2=>⟨_,_,rfl,low k2,?_⟩)
    obtain⟨vL,vT,vG,sv,lg,Y,hl,hg⟩:=Y0.past k2 (λ_ _=>rfl)
    refine z7h Y HB j hj th h0 hnow2 (λ_ w3 k3 Y3=>⟨rfl,?_⟩) (λh=>absurd hov h) (by omega) hks (λh=>absurd hov h)
    exact fin hw k2 (λ_ _=>rfl) ⟨_,_,_,_,_,_,_,X2⟩ k3 (λ_ _=>rfl) ⟨_,_,_,_,_,Y3,hl,hg.past k3 (λ_ _=>rfl) (by omega)⟩ (ht.closed hj ho) (hi.closed hj ho) (by simp[zqc];omega) hK
   ·have hov':¬zjk s (zec y.txs[j]):=λh=>hov ((zlr ht hi _).1 h)
    by_cases h2000:y.now=2000
    ·refine z5p X _ (wf_i64 ha) _ e1 (by omega) hkeys hmom hov' (by omega) (λw2 k2=>⟨_,_,rfl,kpF k2,?_⟩)
     refine z7h (Y.kept k2) HB j hj th h0 hnow2 (λh=>absurd h hov) (λ_ _ w3 k3=>⟨rfl,zkg hw k2 k3 X0 Y0 ht hi hn hK⟩) (by omega) hks (λ_ h=>absurd h2000 h)
    ·have hnv:=ht.nv
     have hnm:=ht.nm
     have hl10:=hti.len
     have hlg1:=ht.lgl
     have hN1:zid (zmc own w.heap.size) (2*i+2):=by
      unfold zid
      rw[zrb hT.lt.1,zrb hT.lt.2];exact hN
     refine z6p X (hT.kept hw) hN1 _ (wf_i64 ha) _ e1 (by omega) (by omega) hkeys (λk v hk=>?_) hmom hov' (by omega) (by omega) (by omega) (by omega) ht.lgb (λw2 own2 sl2 nv2 nm2 l2 ws2 k2 a2 hv2 hm2 hws2 hwl2 hlg2 hsy2 X2=>⟨_,_,rfl,low k2,?_⟩)
     ·obtain⟨u,hu,_,rfl⟩:=z4m hk
      exact (hti.ok u hu).2
     have k2s:=k2.size
     have A2:∀b,b<w1.heap.size→zmc own2 w2.heap.size b=zmc own w.heap.size b:=λb hb=>(zrb (by omega)).trans (a2 b hb)
     have X2':=XE.frame (own':=zmc own2 w2.heap.size) (w':=w2) ⟨_,_,_,_,_,_,_,X2⟩ (λ_ _ _=>rfl) (λb hb _=>zrb hb)
     have nine:∀g,w2.heap.size≤g→zmc own2 w2.heap.size g=zt:=λg hg=>zef (by omega)
     obtain⟨vL,vT,vG,sv,lg,Y,hl,hg⟩:=Y0.past k2 A2
     refine z7h Y HB j hj th h0 hnow2 (λh=>absurd h hov) (λ_ h=>absurd h h2000) (by omega) hks (λ_ _ w3 own3 vL' vG' lg' ks k3 a3 hsort hmem hlg Y3=>⟨?_,?_⟩)
     ·rw[hnow]
     ·exact fin hw k2 A2 X2' k3 a3 ⟨_,_,_,_,_,Y3,by obtain⟨x,rfl,_⟩:=hlg;show ((lg++[x]).length:Int)≤y.now+1+y.hor;rw[List.length_append];simp;omega,by
      obtain⟨x,rfl,hb3,ho3⟩:=hlg
      refine (hg.past k3 a3 (by omega)).snoc (hb3.mono (Nat.zero_le _)) (λg e=>?_)
      rw[ho3 g e]
      have h2:=(hb3.lt g e).1
      exact nine g h2⟩ (ht.committed hi hj ho hsort hmem hv2 hm2 ⟨ws2,hws2,by omega,hlg2,hsy2⟩) (hi.committed hj ho h0 h2000 hsort hmem) (by simp[zhn,zqc];omega) hK
end
end Go.Proofs.YthbdpfccfcceiaaGreatDoor
