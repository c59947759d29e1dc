/-
  Of the proof of logsUpto_card.
-/
import Derived.Test.YthbdpfccfcceiaaGreatDoorR10
import Derived.Deep.DeepCutAuto
namespace Go.Proofs.YthbdpfccfcceiaaGreatDoor
section
open Go.RowKit
section
variable {own own':Nat→Lab}{c:Nat}{w w':World}{p:Nat}{s:YS}{vL vT vG:Value}{sv lg:List Value}
variable {R:Ending→World→Prop}
set_option maxRecDepth 20000 in
set_option maxHeartbeats 1000000 in
theorem zqt (h:YR own c w p s vL vT vG sv lg)(hB:YB s)(tx:Int)(f t:ByteArray)(ht:zab s tx=false)
  (h0:R (.returned (.tuple #[.slice none 0 0,.int .i64 2])) w) :
  Calls Tryz.prog 105 #[.pointer (some ⟨p,0,none⟩),.int .i64 tx,.string f,.string t] w R:=by
 have H:Hid (YR own c w p s vL vT vG sv lg):=h
 have HN:Hid (s.txs.length<4611686018427387904):=by have:=hB.txs;show _<_;omega
 have HR:=h0
 clear h h0 hB
 go_enter Tryz.func105,Tryz.ntmps105
 go_wp2_with (first
  |(go_at_call 156;refine zwc H.out HN.out tx ?_)
  |go_in)
 exact HR
def z8v (s:YS)(t:YT)(g:ByteArray→ByteArray × Bool):Prop:=∀k r,z7m s t k r→r.2=(g k).2∧(r.2=true→r.1=(g k).1)
set_option maxRecDepth 20000 in
set_option maxHeartbeats 4000000 in
theorem zu3 (h:YR own c w p s vL vT vG sv lg)(hB:YB s)(j:Nat)(hj:j<s.txs.length)(ht:zab s ((j:Int)+1)=true)(f t:ByteArray)(g:ByteArray→ByteArray × Bool)(hg:z8v s (s.txs[j]) g)
  (h1:∀w' v (ks:List ByteArray),Kp (λ_=>False) w w'→ks.Pairwise blt→(∀k,k∈ks↔(∃y∈s.l++(s.txs[j]).l,y.key=k)∧inR f t k=true)→ks.length≤s.l.length+(s.txs[j]).l.length→
   w'.ownsRow w.heap.size 105 2 v (ks.filterMap (zdb g)).length (z9 (ks.filterMap (zdb g)))→R (.returned (.tuple #[v,.int .i64 0])) w') :
  Calls Tryz.prog 105 #[.pointer (some ⟨p,0,none⟩),.int .i64 ((j:Int)+1),.string f,.string t] w R:=by
 have hsv:j<sv.length:=h.len ▸ hj
 obtain⟨gT,cap,hv,k0,k1,k2,kf,hgT⟩:=h.txAt j hj
 have HV:Hid _:=hv
 have c3:w.cell? ⟨p,3,none⟩=some vT:=zg h.store 3
 have c0:w.cell? ⟨p,0,none⟩=some vL:=zg h.store 0
 rw[hv]at c3
 have hj1:(j:Int)<s.txs.length:=by omega
 have hj2:(j:Int)≤1000000000000:=by have:=hB.txs;omega
 have HT:Hid _:=ht
 have H:Hid (YR own c w p s vL vT vG sv lg):=h
 have HN:Hid (s.txs.length<4611686018427387904):=by have:=hB.txs;show _<_;omega
 have HB:Hid _:=hB
 have HR:Hid _:=h1
 have HG:Hid _:=hg
 obtain⟨al,cl,hvl⟩:=zqi h.rowL
 obtain⟨am,cm,hvm⟩:=zqi (h.rowX j hj hsv)
 have HVL:Hid (zig w.drew vL s.l al cl):=⟨hvl.val,hvl.cell⟩
 have HVM:Hid (zig w.drew sv[j] (s.txs[j]).l am cm):=⟨hvm.val,hvm.cell⟩
 have HXL:Hid ((s.txs[j]).l.length<1000000):=by have:=hB.x j hj;show _<_;omega
 have HX:Hid ((s.txs[j]).l.length≤10):=hB.x j hj
 generalize hu:sv[j]=u at *
 obtain⟨i0,hi,hz0,hz1,hz2⟩:=info_parts zvi
 clear h h1 hB hv k0 k1 kf hgT hvl hvm hg
 go_enter Tryz.func105,Tryz.ntmps105
 go_wp2_with (first
  |(go_at_call 156;refine zwc H.out HN.out _ ?_)
  |go_in)
 go_region_with (go_at_call 153;refine zpm s.l (s.txs[j]).l vL u al am cl cm f t _ HB.out.l HXL.out HVL.out HVM.out ?_;intro w1 v1 ks hk1 hrow hsort hmem hlen)
 all_goals
  have HK1:Hid (Kp (λ_=>False) w w1):=(Kp.drew (λ_=>False) w).trans hk1 (λ_ _ h=>h)
  have H1:Hid (YR own c w1 p s vL vT vG sv lg):=H.out.kept HK1.out
  have hrow':w1.ownsRow w.heap.size 9 1 v1 ks.length (ks.map Value.string):=hrow
  obtain⟨a1,cap1,rfl,hcell⟩:=zoh hrow'
  have HC:Hid _:=hcell
  have HSO:Hid _:=hsort
  have HME:Hid _:=hmem
  have HLE:Hid _:=hlen
  have HS1:Hid (w.heap.size≤w1.heap.size):=HK1.out.size
  clear hcell hrow hsort hmem hlen hrow' c0 c3 k2 hk1
  go_wp2_with fail
  go_loopw [13,14] (λv13 v14 wr=>∃i:Nat,i≤ks.length∧v14 = .int .i64 i∧Kp (λ_=>False) w1 wr∧wr.ownsRow w1.heap.size 105 2 v13 ((ks.take i).filterMap (zdb g)).length (z9 ((ks.take i).filterMap (zdb g))))
   (λ_ v14 _=>ks.length-(intOf v14).toNat)
  case atStart=>exact⟨0,Nat.zero_le _,rfl,Kp.refl _ _,World.ownsRow_nil _ _ _ _⟩
  case round=>
   obtain⟨i,hile,rfl,hkp,hown⟩:=hrel
   by_cases hlt:i<ks.length
   ·obtain⟨gk,rfl,hg1,hg2,hcell⟩:=HC.out (λh=>by rw[h]at hlt;simp at hlt)
    have hck:wr.cell? ⟨gk,i,none⟩=some (.string ks[i]):=(hkp.cell (a:=⟨gk,i,none⟩) hg2 (λh=>h)).trans (hcell i hlt)
    have htk:ks.take (i+1)=ks.take i++[ks[i]]:=List.take_succ_eq_append_getElem hlt
    have HT2:Hid _:=htk
    have hlt':(i:Int)<ks.length:=by omega
    have hi1:(i:Int)≤2000000:=by have:=HLE.out;have:=HB.out.l;have:=HXL.out;omega
    have hlenps:Hid (((ks.take i).filterMap (zdb g)).length≤2000000):=by
     show _≤_
     have h1:=List.length_filterMap_le (zdb g) (ks.take i)
     have h2:(ks.take i).length≤i:=by simp[List.length_take];omega
     omega
    have hyr:Hid (YR own c wr p s vL vT vG sv lg):=H1.out.kept hkp
    have HKP:Hid (Kp (λ_=>False) w1 wr):=hkp
    generalize hkeq:ks[i]=k at *
    clear htk hkp hcell
    cases hs:(g k).2
    ·go_wp2_with (first
      |(go_at_call 157;refine zds hyr.out HB.out.l j hj HXL.out gT cap HV.out k (λr w2 hr hk2=>?_);have HK2:Hid (Kp (λ_=>False) wr w2):=hk2;have hgk:=HG.out k r hr;rw[hs]at hgk;obtain⟨r1,r2⟩:=r;obtain⟨hgk1,hgk2⟩:=hgk;clear hk2 hr;dsimp only at hgk1 hgk2;subst hgk1)
      |go_in)
     go_roundw
     case rel=>
      refine⟨i+1,by omega,by go_num,HKP.out.trans HK2.out (λ_ _ h=>h),?_⟩
      have hp0:(ks.take (i+1)).filterMap (zdb g)=(ks.take i).filterMap (zdb g):=by rw[HT2.out,List.filterMap_append];simp[zdb,hs]
      rw[hp0]
      exact zi hown HK2.out (λ_ _ h=>h)
     case measure=>simp[intOf];omega
    ·go_wp2_with (first
      |(go_at_call 157;refine zds hyr.out HB.out.l j hj HXL.out gT cap HV.out k (λr w2 hr hk2=>?_);have HK2:Hid (Kp (λ_=>False) wr w2):=hk2;have hgk:=HG.out k r hr;rw[hs]at hgk;obtain⟨r1,r2⟩:=r;obtain⟨hgk1,hgk2⟩:=hgk;have hown2:=zi hown hk2 (λ_ _ h=>h);have hck2:=(hk2.cell (a:=⟨gk,i,none⟩) (World.block_lt_of_cell? wr _ hck) (λh=>h)).trans hck;clear hk2 hr;dsimp only at hgk1 hgk2;subst hgk1;have hgk3:=hgk2 rfl;clear hgk2;subst hgk3)
      |(at_builtin;refine wpList_append_own_at _ rfl _ _ 43 rfl w1.heap.size 105 i0 (.agg #[.string ⟨#[]⟩,.string ⟨#[]⟩]) 2 32 Tryz.underlying43 hi hz0 hz1 hz2 rfl (by decide) _ _ _ rfl (hown2.alloc _) ⟨w2.heap.size,0,none⟩ 1 1 [.string k,.string (g k).1] rfl rfl (zqh _ _ _ _) (by simp[Value.oneCell']) (by have:=hlenps.out;unfold maxLen;omega) (by have:=hlenps.out;omega) (by have:=HKP.out.size;have:=HK2.out.size;simp;omega) ?_;intro v' w3 hown' hgrow hnil hloc)
      |go_in)
     have hb1:∀b,Value.ownBlock u13=some b→w1.heap.size≤b:=λb hb=>(hown2.lt b hb).1
     go_roundw
     case rel=>
      refine⟨i+1,by omega,by go_num,((HKP.out.trans HK2.out (λ_ _ h=>h)).trans ((Kp.alloc (λb=>Value.ownBlock u13=some b) w2 _).trans (Kp.of_grown (S:=λb=>Value.ownBlock u13=some b) hgrow (λ_ h=>h)) (λ_ _ h=>h)) (λb hb h=>by have:=hb1 b h;omega)),?_⟩
      have hp0:(ks.take (i+1)).filterMap (zdb g)=(ks.take i).filterMap (zdb g)++[(k,(g k).1)]:=by rw[HT2.out,List.filterMap_append];simp[zdb,hs]
      rw[hp0,List.length_append,← zth]
      exact hown'
     case measure=>simp[intOf];omega
   ·have hie:i=ks.length:=by omega
    subst hie
    rw[List.take_length]at hown
    go_wp2_with fail
    refine HR.out wr u13 ks (HK1.out.trans hkp (λ_ _ h=>h)) HSO.out HME.out HLE.out ⟨hown.1,hown.2.imp id (λ⟨g,cap,cur,e1,e2,e3⟩=>⟨g,cap,cur,e1,Nat.le_trans HS1.out e2,e3⟩)⟩
end
end
section
open Go.RowKit
def zkl (s:YS)(t:YT):Prop:=∃i,∃hi:i<s.l.length,(zyb t.l s.l[i].key).isSome=true∧t.sees<s.l[i].t
section
variable {own own':Nat→Lab}{c:Nat}{w w':World}{p:Nat}{s:YS}{vL vT vG:Value}{sv lg:List Value}
variable {R:Ending→World→Prop}
set_option maxRecDepth 20000 in
set_option maxHeartbeats 1000000 in
theorem z8p (h:YR own c w p s vL vT vG sv lg)(hB:YB s)(tx:Int)(ht:zab s tx=false)
  (h0:R (.returned (.tuple #[.int .i64 0,.int .i64 2])) w) :
  Calls Tryz.prog 107 #[.pointer (some ⟨p,0,none⟩),.int .i64 tx] w R:=by
 have H:Hid (YR own c w p s vL vT vG sv lg):=h
 have HN:Hid (s.txs.length<4611686018427387904):=by have:=hB.txs;show _<_;omega
 have HR:=h0
 clear h h0 hB
 go_enter Tryz.func107,Tryz.ntmps107
 go_wp2_with (first
  |(go_at_call 156;refine zwc H.out HN.out tx ?_)
  |go_in)
 exact HR
set_option maxRecDepth 20000 in
set_option maxHeartbeats 1000000 in
theorem zoo (h:YR own c w p s vL vT vG sv lg)(hB:YB s)(j:Nat)(hj:j<s.txs.length)(ht:zab s ((j:Int)+1)=true)(h0:(s.txs[j]).l.length=0)
  (h1:∀w',Kp (λb=>(own b).c=c) w w'→YR own c w' p (zqc s j hj) vL vT vG sv lg→R (.returned (.tuple #[.int .i64 (s.txs[j]).sees,.int .i64 0])) w') :
  Calls Tryz.prog 107 #[.pointer (some ⟨p,0,none⟩),.int .i64 ((j:Int)+1)] w R:=by
 have hsv:j<sv.length:=h.len ▸ hj
 obtain⟨gT,cap,hv,k0,k1,k2,kf,hgT⟩:=h.txAt j hj
 obtain⟨am,cm,hvm⟩:=zqi (h.rowX j hj hsv)
 have hval:=hvm.val
 rw[h0]at hval
 rw[hval]at k2
 have HR:=h1 _ (Kp.setCell w ⟨gT,j*3,none⟩ (.bool true) (S:=λb=>(own b).c=c) (by show (own gT).c=c;rw[h.ownT gT (by rw[hv];rfl)])) (h.setOver j hj gT cap hv)
 have c3:w.cell? ⟨p,3,none⟩=some vT:=zg h.store 3
 rw[hv]at c3
 have hj1:(j:Int)<s.txs.length:=by omega
 have hj2:(j:Int)≤1000000000000:=by have:=hB.txs;omega
 have H:Hid (YR own c w p s vL vT vG sv lg):=h
 have HN:Hid (s.txs.length<4611686018427387904):=by have:=hB.txs;show _<_;omega
 have HT:Hid _:=ht
 clear h h1 hB hv hgT hvm hval h0
 go_enter Tryz.func107,Tryz.ntmps107
 go_wp2_with (first
  |(go_at_call 156;refine zwc H.out HN.out _ ?_)
  |go_in)
 exact HR
end
end
section
open Go.RowKit
section
variable {own own':Nat→Lab}{c:Nat}{w w':World}{p:Nat}{s:YS}{vL vT vG:Value}{sv lg:List Value}
theorem YR.addVers (h:YR own c w p s vL vT vG sv lg){w3:World}{v':Value}(hk:Kp (λb=>vL.ownBlock=some b) w w3)(news:List YV)(hrow:w3.ownsRow 0 193 4 v' (s.l.length+news.length) (zo s.l++zo news))
  (hloc:v'.ownBlock=vL.ownBlock∨∃b,v'.ownBlock=some b∧w.heap.size≤b) :
  YR (λb=>if v'.ownBlock=some b then ⟨c,1,0,eb⟩ else own b) c (w3.setCell ⟨p,0,none⟩ v') p { s with l:=s.l++news } v' vT vG sv lg∧
  (∀b,b<w.heap.size→(λb=>if v'.ownBlock=some b then (⟨c,1,0,eb⟩:Lab) else own b) b=own b):=by
 have hout:∀b,b<w.heap.size→(λb=>if v'.ownBlock=some b then (⟨c,1,0,eb⟩:Lab) else own b) b=own b:=λb hb=>by
  by_cases e:v'.ownBlock=some b
  ·simp only[e,if_true]
   rcases hloc with hl|⟨b',hb',hge⟩
   ·exact (h.ownL b (hl ▸ e)).symm
   ·rw[hb']at e;cases e;omega
  ·simp[e]
 refine⟨?_,hout⟩
 have lp:=zh h.store
 have hpT:∀b,vL.ownBlock=some b→own b=⟨c,1,0,eb⟩:=h.ownL
 have old:∀b,b<w.heap.size→own b≠⟨c,1,0,eb⟩→b≠p→(w3.setCell ⟨p,0,none⟩ v').heap[b]?=w.heap[b]?:=λb hb h1 h2=>by
  rw[Below.heap_setCell w3 _ _ b h2];exact hk.block b hb (λe=>h1 (hpT b e))
 have hp3:w3.heap[p]?=some (.cells #[vL,.int .i64 s.hor,.int .i64 s.now,vT,vG,.int .i64 s.syn,s.bku] 78 (0,0)):=(hk.block p lp (λe=>by have:=hpT p e;rw[h.ownP]at this;simp at this)).trans h.store
 have hvp:v'.ownBlock≠some p:=λe=>by
  rcases hloc with hl|⟨b,hb,hge⟩
  ·have:=hpT p (hl ▸ e);rw[h.ownP]at this;simp at this
  ·rw[hb]at e;cases e;omega
 have rT:=zl (w':=w3.setCell ⟨p,0,none⟩ v') h.rowT (λb e=>old b (h.rowT.lt b e).2 (by rw[h.ownT b e];simp) (zpb (own:=own) (by rw[h.ownT b e,h.ownP];simp)))
 have oT:∀b,vT.ownBlock=some b→(λb=>if v'.ownBlock=some b then (⟨c,1,0,eb⟩:Lab) else own b) b=⟨c,2,0,eb⟩:=λb e=>(hout b (h.rowT.lt b e).2).trans (h.ownT b e)
 refine⟨(hout p lp).trans h.ownP,?_,?_,λb e=>by simp[e],h.len,rT,oT,λi hi hj=>zl (h.rowX i hi hj) (λb e=>old b ((h.rowX i hi hj).lt b e).2 (by rw[h.ownX i hj b e];simp) (zpb (own:=own) (by rw[h.ownX i hj b e,h.ownP];simp))),λi hj b e=>(hout b ((h.rowX i (h.len ▸ hj) hj).lt b e).2).trans (h.ownX i hj b e),zl h.rowG (λb e=>old b (h.rowG.lt b e).2 (by rw[h.ownG b e];simp) (zpb (own:=own) (by rw[h.ownG b e,h.ownP];simp))),λb e=>(hout b (h.rowG.lt b e).2).trans (h.ownG b e)⟩
 ·rw[zq hp3];rfl
 ·have e1:zo (s.l++news)=zo s.l++zo news:=by simp[zo]
  show World.ownsRow _ 0 _ 4 v' (s.l++news).length (zo (s.l++news))
  rw[e1,List.length_append]
  exact zl hrow (λb e=>Below.heap_setCell w3 _ _ b (λe'=>hvp (by rw[e,e'])))
theorem YR.addLog (h:YR own c w p s vL vT vG sv lg){w3:World}{v':Value}(hk:Kp (λb=>vG.ownBlock=some b) w w3)(x:Value)(hrow:w3.ownsRow 0 48 1 v' (lg.length+1) (lg++[x]))
  (hloc:v'.ownBlock=vG.ownBlock∨∃b,v'.ownBlock=some b∧w.heap.size≤b) :
  YR (λb=>if v'.ownBlock=some b then ⟨c,3,0,eb⟩ else own b) c (w3.setCell ⟨p,4,none⟩ v') p s vL vT v' sv (lg++[x])∧
  (∀b,b<w.heap.size→(λb=>if v'.ownBlock=some b then (⟨c,3,0,eb⟩:Lab) else own b) b=own b):=by
 have hout:∀b,b<w.heap.size→(λb=>if v'.ownBlock=some b then (⟨c,3,0,eb⟩:Lab) else own b) b=own b:=λb hb=>by
  by_cases e:v'.ownBlock=some b
  ·simp only[e,if_true]
   rcases hloc with hl|⟨b',hb',hge⟩
   ·exact (h.ownG b (hl ▸ e)).symm
   ·rw[hb']at e;cases e;omega
  ·simp[e]
 refine⟨?_,hout⟩
 have lp:=zh h.store
 have hpT:∀b,vG.ownBlock=some b→own b=⟨c,3,0,eb⟩:=h.ownG
 have old:∀b,b<w.heap.size→own b≠⟨c,3,0,eb⟩→b≠p→(w3.setCell ⟨p,4,none⟩ v').heap[b]?=w.heap[b]?:=λb hb h1 h2=>by
  rw[Below.heap_setCell w3 _ _ b h2];exact hk.block b hb (λe=>h1 (hpT b e))
 have hp3:w3.heap[p]?=some (.cells #[vL,.int .i64 s.hor,.int .i64 s.now,vT,vG,.int .i64 s.syn,s.bku] 78 (0,0)):=(hk.block p lp (λe=>by have:=hpT p e;rw[h.ownP]at this;simp at this)).trans h.store
 have hvp:v'.ownBlock≠some p:=λe=>by
  rcases hloc with hl|⟨b,hb,hge⟩
  ·have:=hpT p (hl ▸ e);rw[h.ownP]at this;simp at this
  ·rw[hb]at e;cases e;omega
 have rT:=zl (w':=w3.setCell ⟨p,4,none⟩ v') h.rowT (λb e=>old b (h.rowT.lt b e).2 (by rw[h.ownT b e];simp) (zpb (own:=own) (by rw[h.ownT b e,h.ownP];simp)))
 have oT:∀b,vT.ownBlock=some b→(λb=>if v'.ownBlock=some b then (⟨c,3,0,eb⟩:Lab) else own b) b=⟨c,2,0,eb⟩:=λb e=>(hout b (h.rowT.lt b e).2).trans (h.ownT b e)
 refine⟨(hout p lp).trans h.ownP,?_,zl h.rowL (λb e=>old b (h.rowL.lt b e).2 (by rw[h.ownL b e];simp) (zpb (own:=own) (by rw[h.ownL b e,h.ownP];simp))),λb e=>(hout b (h.rowL.lt b e).2).trans (h.ownL b e),h.len,rT,oT,λi hi hj=>zl (h.rowX i hi hj) (λb e=>old b ((h.rowX i hi hj).lt b e).2 (by rw[h.ownX i hj b e];simp) (zpb (own:=own) (by rw[h.ownX i hj b e,h.ownP];simp))),λi hj b e=>(hout b ((h.rowX i (h.len ▸ hj) hj).lt b e).2).trans (h.ownX i hj b e),?_,λb e=>by simp[e]⟩
 ·rw[zq hp3];rfl
 ·rw[List.length_append]
  exact zl hrow (λb e=>Below.heap_setCell w3 _ _ b (λe'=>hvp (by rw[e,e'])))
end
end
section
open Go.RowKit Go.Lib
theorem zp {w:World}{base e size n:Nat}{v:Value}{xs:List Value}(h:w.ownsRow base e size v n xs):∃pf cap,v = .slice pf n cap:=by
 rcases h.2 with ⟨rfl,rfl⟩|⟨g,cap,cur,rfl,_⟩
 ·exact⟨none,0,rfl⟩
 ·exact⟨_,cap,rfl⟩
theorem zib {w:World}{base e size n:Nat}{v:Value}{xs:List Value}(h:w.ownsRow base e size v n xs)(hn:0<n):∃g cap cur,v = .slice (some ⟨g,0,none⟩) n cap∧w.heap[g]?=some (.cells cur e (0,0))∧cur.toList.take (n*size)=xs:=by
 rcases h.2 with ⟨rfl,rfl⟩|⟨g,cap,cur,rfl,_,hg,_,_,_,ht⟩
 ·omega
 ·exact⟨g,cap,cur,rfl,hg,ht⟩
theorem zn {w:World}{b i:Nat}{cs:Array Value}{e:TypeId}{fz:Nat × Nat}(h:w.heap[b]?=some (.cells cs e fz))(v:Value):(w.setCell ⟨b,i,none⟩ v).heap[b]?=some (.cells (cs.setIfInBounds i v) e fz):=by
 simp[World.setCell,Array.getElem?_modify,h]
theorem zj {w:World}{b:Nat}{cs:Array Value}{e:TypeId}(h:w.heap[b]?=some (.cells cs e (0,0)))(i:Nat):w.frozen? ⟨b,i,none⟩=false:=by simp[World.frozen?,h]
theorem zwr {ops:Array Oper}{o:Oper}{a:Act}{w:World}{K:Act→World→Prop}{Q:Exit→Act→World→Prop}{E:Prop}(hg:o.guard=none)(s x:Operand)
  (hop:o.op = .call { callee:=.builtin .append,args:=#[s,x],argTypes:=#[37,37] })
  (v:Value) (n:Nat) (xs:List Value) (hs:a.eval s=v) (hown:w.ownsRow 0 48 1 v n xs) (g:Nat) (u:Value) (hx:a.eval x = .slice (some ⟨g,0,none⟩) 1 1) (hu:w.cell? ⟨g,0,none⟩=some u) (h1:u.oneCell'=true) (hl:n≤1000000)
  (hK:∀v' w',w'.ownsRow 0 48 1 v' (n+1) (xs++[u])→Kp (λb=>v.ownBlock=some b) w w'→(v'.ownBlock=v.ownBlock∨v'.ownBlock=some w.heap.size)→K (a.put o.dst v') w') :
  if Region.wanted o (yielded ops a.tmps)=true then Oper.wp Tryz.prog o a w K Q else E:=by
 obtain⟨i0,hi,hz0,hz1,hz2⟩:=info_parts zyt
 refine zmd hg s x 37 hop 0 48 i0 (.slice none 0 0) 1 24 Tryz.underlying37 hi hz0 hz1 hz2 rfl (by decide) v n xs hs hown ⟨g,0,none⟩ 1 1 [u] hx rfl (λj y hj=>?_) (by simpa using h1) (by unfold maxLen;omega) (by omega) (Nat.zero_le _) (λv' w' r1 r2 r3=>hK v' w' r1 (Kp.of_grown r2 (λ_ e=>e)) r3)
 match j,hj with
 |0,hj=>simp at hj;subst hj;rw[zub];exact hu
theorem zne {w:World}{a b:Nat}{ca cb:Array Value}{ta tb:TypeId}{fa fb:Nat × Nat}(ha:w.heap[a]?=some (.cells ca ta fa))(hb:w.heap[b]?=some (.cells cb tb fb))(h:ta≠tb):a≠b:=λe=>by
 subst e;rw[ha]at hb;cases hb;exact h rfl
theorem BR.block {base:Nat}{w:World}{v:Value}{bs:List UInt8}(h:BR base w v bs){b:Nat}(e:v.ownBlock=some b):∃cur,w.heap[b]?=some (.cells cur 5 (0,0)):=by
 rcases h.2 with ⟨rfl,_⟩|⟨g,cap,cur,rfl,_,hg,_⟩
 ·simp[Value.ownBlock]at e
 ·simp[Value.ownBlock]at e;subst e;exact⟨cur,hg⟩
theorem zrd {w:World}{base e size n:Nat}{v:Value}{xs:List Value}(h:w.ownsRow base e size v n xs){b:Nat}(hb:v.ownBlock=some b):∃cur,w.heap[b]?=some (.cells cur e (0,0)):=by
 rcases h.2 with ⟨rfl,_⟩|⟨g,cap,cur,rfl,_,hg,_⟩
 ·simp[Value.ownBlock]at hb
 ·simp[Value.ownBlock]at hb;subst hb;exact⟨cur,hg⟩
theorem zfe {w:World}{base e n:Nat}{g cap:Nat}{xs:List Value}(h:w.ownsRow base e 1 (.slice (some ⟨g,0,none⟩) n cap) n xs)(i:Nat)(u:Value)(hu:xs[i]?=some u):w.cell? ⟨g,i,none⟩=some u:=by
 have:=h.cells (g:=g) rfl i u hu
 rw[zub]at this
 simpa using this
structure zf4 (p o:Nat)(T:TypeId)(box:Nat)(k t:Int)(rv:Value)(body:List UInt8)(R:Ending→World→Prop)(wx:World)(cs2:Array Value)(g2 cap2 m:Nat)(lv2:List Value)(v:Value)(f:List UInt8)(il2:Nat):Prop where
 hp:wx.heap[p]?=some (.cells cs2 T (0,0))
 c0:cs2[o]?=some (.slice (some ⟨g2,0,none⟩) (m+1) cap2)
 c1:cs2[o+1]?=some (.int .i64 (il2:Nat))
 row:wx.ownsRow 0 48 1 (.slice (some ⟨g2,0,none⟩) (m+1) cap2) (m+1) (lv2++[v])
 br:BR 0 wx v f
 fl:f.length≤100000000
 fne:f≠[]
 m1:m≤1000001
 i1:il2≤100
 tab:Tab wx
 rc:zbh wx (.agg #[.int .u8 k,.int .i64 t,rv]) body
 b0:wx.cell? ⟨box,0,none⟩=some (.int .u8 k)
 b1:wx.cell? ⟨box,1,none⟩=some (.int .i64 t)
 b2:wx.cell? ⟨box,2,none⟩=some rv
 go:∀v' w',w'.heap[p]?=some (.cells (cs2.setIfInBounds (o+1) (.int .i64 ((il2+1:Nat):Int))) T (0,0))→w'.ownsRow 0 48 1 (.slice (some ⟨g2,0,none⟩) (m+1) cap2) (m+1) (lv2++[v'])→BR 0 w' v' (f++zqb body)→
  (v'.ownBlock=v.ownBlock∨∃b,v'.ownBlock=some b∧wx.heap.size≤b)→Kp (λb=>b=p∨b=g2∨v.ownBlock=some b) wx w'→R (.returned (.tuple #[])) w'
def zmy (p o:Nat)(T:TypeId)(box:Nat)(k t:Int)(rv:Value)(body:List UInt8)(R:Ending→World→Prop)(wx:World):Prop:=∃(cs2:Array Value) (g2 cap2 m:Nat) (lv2:List Value) (v:Value) (f:List UInt8) (il2:Nat),zf4 p o T box k t rv body R wx cs2 g2 cap2 m lv2 v f il2
section
variable {R:Ending→World→Prop}
theorem z01 {p o nf cap il:Nat}{T:TypeId}{cs:Array Value}{pf:Option Addr}{k t:Int}{rv:Value}{body:List UInt8}{w A w1 w2:World}{lv:List Value}{g1 cap1 g2 cap2:Nat}{cur2:Array Value}(hTu:T≠5)(hTf:T≠48)(hplt:p<w.heap.size)(hq:nf=0∨il=4)
  (kA:Kp (λ_=>False) w A) (a0:A.cell? ⟨w.heap.size,0,none⟩=some (.int .u8 k)) (a1:A.cell? ⟨w.heap.size,1,none⟩=some (.int .i64 t)) (a2:A.cell? ⟨w.heap.size,2,none⟩=some rv) (rowA:A.ownsRow 0 48 1 (.slice pf nf cap) nf lv) (tA:Tab A) (rA:zbh A (.agg #[.int .u8 k,.int .i64 t,rv]) body) (sA:A.heap.size=w.heap.size+1)
  (_hnp:(Value.slice pf nf cap).ownBlock≠some p) (hlt:∀b,(Value.slice pf nf cap).ownBlock=some b→b<w.heap.size) (c0:cs[o]?=some (.slice pf nf cap)) (c1:cs[o+1]?=some (.int .i64 (il:Nat))) (hnf:nf≤1000000) (hrv:∀b,rv.ownBlock=some b→b≠p∧(Value.slice pf nf cap).ownBlock≠some b) (htb:∀b,(b=p∨(Value.slice pf nf cap).ownBlock=some b)→b≠0∧b≠1)
  (hnew:nf=0∨il=4→∀lf' v' w',w'.heap[p]?=some (.cells ((cs.setIfInBounds o lf').setIfInBounds (o+1) (.int .i64 1)) T (0,0))→w'.ownsRow 0 48 1 lf' (nf+1) (lv++[v'])→BR 0 w' v' (zoc nf++zqb body)→
   (∃b,v'.ownBlock=some b∧w.heap.size≤b)→(lf'.ownBlock=(Value.slice pf nf cap).ownBlock∨∃b,lf'.ownBlock=some b∧w.heap.size≤b)→Kp (λb=>b=p∨(Value.slice pf nf cap).ownBlock=some b) w w'→R (.returned (.tuple #[])) w')
  (v1:BR A.drew.heap.size w1 (.slice (some ⟨g1,0,none⟩) (zoc nf).length cap1) (zoc nf)) (k1:Kp (λ_=>False) A w1)
  (r2:w2.ownsRow 0 48 1 (.slice (some ⟨g2,0,none⟩) (nf+1) cap2) (nf+1) (lv++[.slice (some ⟨g1,0,none⟩) (zoc nf).length cap1])) {ob:Obj} (k2:Kp (λb=>(Value.slice pf nf cap).ownBlock=some b) (w1.alloc ob) w2) (l2:(Value.slice (some ⟨g2,0,none⟩) (nf+1) cap2).ownBlock=(Value.slice pf nf cap).ownBlock∨(Value.slice (some ⟨g2,0,none⟩) (nf+1) cap2).ownBlock=some (w1.alloc ob).heap.size)
  (p2:w2.heap[p]?=some (.cells cs T (0,0))) (hg2:w2.heap[g2]?=some (.cells cur2 48 (0,0))) :
  zmy p o T w.heap.size k t rv body R ((w2.setCell ⟨p,o,none⟩ (.slice (some ⟨g2,0,none⟩) (nf+1) cap2)).setCell ⟨p,o+1,none⟩ (.int .i64 0)):=by
 have ho0:=(Array.getElem?_eq_some_iff.1 c0).1
 have ho1:=(Array.getElem?_eq_some_iff.1 c1).1
 have kk:Kp (λb=>b=p) w2 ((w2.setCell ⟨p,o,none⟩ (.slice (some ⟨g2,0,none⟩) (nf+1) cap2)).setCell ⟨p,o+1,none⟩ (.int .i64 0)):=(Kp.setCell (S:=λb=>b=p) _ _ _ rfl).trans (Kp.setCell (S:=λb=>b=p) _ _ _ rfl) (λ_ _ h=>h)
 have hgp:g2≠p:=zne hg2 p2 (Ne.symm hTf)
 have k12:Kp (λb=>(Value.slice pf nf cap).ownBlock=some b) A w2:=(k1.mono (λ_ _ h=>h.elim)).trans ((Kp.alloc (λb=>(Value.slice pf nf cap).ownBlock=some b) w1 ob).trans k2 (λ_ _ h=>h)) (λ_ _ h=>h)
 have k1a:Kp (λb=>(Value.slice pf nf cap).ownBlock=some b) w1 w2:=(Kp.alloc (λb=>(Value.slice pf nf cap).ownBlock=some b) w1 ob).trans k2 (λ_ _ h=>h)
 obtain⟨cur1,hcur1⟩:=v1.block (b:=g1) rfl
 have hg1:∀b,(Value.slice pf nf cap).ownBlock=some b→g1≠b:=λb e=>by
  obtain⟨c,hc⟩:=zrd (zi rowA k1 (λ_ _ h=>h)) e
  exact zne hcur1 hc (by decide)
 have v2:BR A.drew.heap.size w2 (.slice (some ⟨g1,0,none⟩) (zoc nf).length cap1) (zoc nf):=v1.kp k1a (λb e=>by
  simp only[Value.ownBlock,Option.some.injEq]at e
  subst e
  exact λh=>hg1 _ h rfl)
 obtain⟨cur1',hcur1'⟩:=v2.block (b:=g1) rfl
 have hg1p:g1≠p:=zne hcur1' p2 (Ne.symm hTu)
 have hg1l:w.heap.size≤g1:=by
  have:=(v1.lt g1 rfl).1
  have h2:A.drew.heap.size=A.heap.size:=rfl
  omega
 have box:∀i x,A.cell? ⟨w.heap.size,i,none⟩=some x→((w2.setCell ⟨p,o,none⟩ (.slice (some ⟨g2,0,none⟩) (nf+1) cap2)).setCell ⟨p,o+1,none⟩ (.int .i64 0)).cell? ⟨w.heap.size,i,none⟩=some x:=λi x hx=>by
  have h2:w2.cell? ⟨w.heap.size,i,none⟩=some x:=(k12.cell (World.block_lt_of_cell? _ _ hx) (λe=>by have:=hlt _ e;simp at this)).trans hx
  exact (kk.cell (World.block_lt_of_cell? _ _ h2) (λe=>by simp only at e;omega)).trans h2
 refine⟨_,g2,cap2,nf,lv,.slice (some ⟨g1,0,none⟩) (zoc nf).length cap1,zoc nf,0,⟨zn (zn p2 _) _,?_,?_,?_,?_,?_,?_,by omega,by omega,?_,?_,box 0 _ a0,box 1 _ a1,box 2 _ a2,λv' w' h1 h2 h3 h4 h5=>?_⟩⟩
 ·rw[Array.getElem?_setIfInBounds_ne (by omega),Array.getElem?_setIfInBounds_self_of_lt ho0]
 ·rw[Array.getElem?_setIfInBounds_self_of_lt (by simpa using ho1)];rfl
 ·exact zi r2 kk (λb e h=>by simp only[Value.ownBlock,Option.some.injEq]at e;omega)
 ·exact BR.mono (v2.kp kk (λb e h=>by simp only[Value.ownBlock,Option.some.injEq]at e;omega)) (Nat.zero_le _)
 ·rw[ztd];omega
 ·simp[zoc,z8c]
 ·exact (tA.kp k12 (λh=>(htb 0 (Or.inr h)).1 rfl) (λh=>(htb 1 (Or.inr h)).2 rfl)).kp kk (λh=>(htb 0 (Or.inl h)).1 rfl) (λh=>(htb 1 (Or.inl h)).2 rfl)
 ·exact (rA.kp k12 (λb e h=>(hrv b e).2 h)).kp kk (λb e h=>(hrv b e).1 h)
 ·have hsz:(w1.alloc ob).heap.size=w1.heap.size+1:=by simp
  have hs1:=k1.size
  have hs2:=k12.size
  refine hnew hq (.slice (some ⟨g2,0,none⟩) (nf+1) cap2) v' w' ?_ h2 h3 ?_ ?_ ?_
  ·rw[Array.setIfInBounds_setIfInBounds]at h1;exact h1
  ·rcases h4 with h4|⟨b,e,hb⟩
   ·exact⟨g1,h4,hg1l⟩
   ·refine⟨b,e,?_⟩
    have:=kk.size
    omega
  ·rcases l2 with l2|l2
   ·exact Or.inl l2
   ·exact Or.inr ⟨_,l2,by omega⟩
  ·refine (((kA.mono (λ_ _ h=>h.elim)).trans k12 (λb _ h=>Or.inr h)).trans kk (λb _ h=>Or.inl h)).trans h5 (λb hb h=>?_)
   rcases h with h|h|h
   ·exact Or.inl h
   ·rcases l2 with l2|l2
    ·exact Or.inr (by rw[← l2,h];rfl)
    ·simp only[Value.ownBlock,Option.some.injEq]at l2
     omega
   ·simp only[Value.ownBlock,Option.some.injEq]at h
    omega
theorem zg0 {α:Type}(l:List α)(x y:α)(n:Nat)(hn:l.length=n):(l++[x]).set n y=l++[y]:=by
 subst hn;simp
set_option maxRecDepth 20000 in
set_option maxHeartbeats 4000000 in
theorem ziz (p o:Nat)(cs:Array Value)(T:TypeId)(pf:Option Addr)(nf cap:Nat)(il:Nat)(k t:Int)(rv:Value)(body:List UInt8)(w:World)(hTu:T≠5)(hTf:T≠48)(h1c:rv.oneCell'=true)(hb:body.length≤60000)(hp:w.heap[p]?=some (.cells cs T (0,0)))(hc0:cs[o]?=some (.slice pf nf cap))(hc1:cs[o+1]?=some (.int .i64 (il:Nat)))
  (lv:List Value) (fs:List (List UInt8)) (hT:Tab w) (hrow:w.ownsRow 0 48 1 (.slice pf nf cap) nf lv) (hfl:fs.length=nf) (hfs:∀f∈fs,f≠[]∧f.length≤100000000) (hbr:∀(i:Nat) v f,lv[i]?=some v→fs[i]?=some f→BR 0 w v f) (hnf:nf≤1000000) (hil:il≤99)
  (hr:zbh w (.agg #[.int .u8 k,.int .i64 t,rv]) body) (hrv:∀b,rv.ownBlock=some b→b≠p∧(Value.slice pf nf cap).ownBlock≠some b) (htb:∀b,(b=p∨(Value.slice pf nf cap).ownBlock=some b)→b≠0∧b≠1)
  (hnew:nf=0∨il=4→∀lf' v' w',w'.heap[p]?=some (.cells ((cs.setIfInBounds o lf').setIfInBounds (o+1) (.int .i64 1)) T (0,0))→w'.ownsRow 0 48 1 lf' (nf+1) (lv++[v'])→BR 0 w' v' (zoc nf++zqb body)→
   (∃b,v'.ownBlock=some b∧w.heap.size≤b)→(lf'.ownBlock=(Value.slice pf nf cap).ownBlock∨∃b,lf'.ownBlock=some b∧w.heap.size≤b)→Kp (λb=>b=p∨(Value.slice pf nf cap).ownBlock=some b) w w'→R (.returned (.tuple #[])) w')
  (hold:¬(nf=0∨il=4)→∀lv2 v f v' w',lv=lv2++[v]→fs[lv2.length]?=some f→w'.heap[p]?=some (.cells (cs.setIfInBounds (o+1) (.int .i64 ((il+1:Nat):Int))) T (0,0))→w'.ownsRow 0 48 1 (.slice pf nf cap) nf (lv2++[v'])→BR 0 w' v' (f++zqb body)→
   (v'.ownBlock=v.ownBlock∨∃b,v'.ownBlock=some b∧w.heap.size≤b)→Kp (λb=>b=p∨(Value.slice pf nf cap).ownBlock=some b∨v.ownBlock=some b) w w'→R (.returned (.tuple #[])) w') :
  Calls Tryz.prog 78 #[.pointer (some ⟨p,o,none⟩),.agg #[.int .u8 k,.int .i64 t,rv]] w R:=by
 have HB:=ze hb
 have HTU:=ze hTu
 have HTF:=ze hTf
 have hplt:=(Array.getElem?_eq_some_iff.1 hp).1
 have hpA:(w.alloc (.cells #[.int .u8 k,.int .i64 t,rv] 110)).heap[p]?=some (.cells cs T (0,0)):=((Kp.alloc (λ_=>False) w _).block p hplt (λe=>e)).trans hp
 have c0:(w.alloc (.cells #[.int .u8 k,.int .i64 t,rv] 110)).cell? ⟨p,o,none⟩=some (.slice pf nf cap):=by rw[zg hpA];exact hc0
 have c1:(w.alloc (.cells #[.int .u8 k,.int .i64 t,rv] 110)).cell? ⟨p,o+1,none⟩=some (.int .i64 il):=by rw[zg hpA];exact hc1
 have HKA:Hid (Kp (λ_=>False) w (w.alloc (.cells #[.int .u8 k,.int .i64 t,rv] 110))):=Kp.alloc _ _ _
 have HCB0:Hid ((w.alloc (.cells #[.int .u8 k,.int .i64 t,rv] 110)).cell? ⟨w.heap.size,0,none⟩=some (.int .u8 k)):=zg (heap_alloc_new w _) 0
 have HCB1:Hid ((w.alloc (.cells #[.int .u8 k,.int .i64 t,rv] 110)).cell? ⟨w.heap.size,1,none⟩=some (.int .i64 t)):=zg (heap_alloc_new w _) 1
 have HCB2:Hid ((w.alloc (.cells #[.int .u8 k,.int .i64 t,rv] 110)).cell? ⟨w.heap.size,2,none⟩=some rv):=zg (heap_alloc_new w _) 2
 have HROWA:Hid ((w.alloc (.cells #[.int .u8 k,.int .i64 t,rv] 110)).ownsRow 0 48 1 (.slice pf nf cap) nf lv):=hrow.alloc _
 have HTA:=ze (hT.kept HKA.out)
 have HRCA:=ze (hr.kept HKA.out)
 have HSZ:Hid ((w.alloc (.cells #[.int .u8 k,.int .i64 t,rv] 110)).heap.size=w.heap.size+1):=by show _=_;simp
 have HNP:Hid ((Value.slice pf nf cap).ownBlock≠some p):=λe=>by
  obtain⟨cur,hcur⟩:=zrd hrow e
  exact zne hcur hp (Ne.symm hTf) rfl
 have HLT:Hid (∀b,(Value.slice pf nf cap).ownBlock=some b→b<w.heap.size):=λb e=>(hrow.lt b e).2
 have HPA:=ze hpA
 have HC0:=ze hc0
 have HC1:=ze hc1
 have HNF:=ze hnf
 have HRV:=ze hrv
 have HTB:=ze htb
 have hnf':(nf:Int)≤1000000:=by omega
 have HIL:=ze hil
 have HN:=ze hnew
 have HO:=ze hold
 have HOM:Hid (¬(nf=0∨il=4)→zmy p o T w.heap.size k t rv body R (w.alloc (.cells #[.int .u8 k,.int .i64 t,rv] 110))):=λhq=>by
  obtain⟨m,hm⟩:∃m,nf=m+1:=⟨nf-1,by omega⟩
  subst hm
  have hlv:lv.length=m+1:=by simpa using hrow.1
  have hne:lv≠[]:=λe=>by rw[e]at hlv;simp at hlv
  obtain⟨lv2,v,rfl⟩:∃lv2 v,lv=lv2++[v]:=⟨lv.dropLast,lv.getLast hne,(List.dropLast_concat_getLast hne).symm⟩
  have hl2:lv2.length=m:=by simpa using hlv
  obtain⟨f,hf⟩:∃f,fs[m]?=some f:=⟨fs[m],List.getElem?_eq_getElem (by omega)⟩
  obtain⟨g2,cap2,cur2,e2,hg2,_⟩:=zib hrow (by omega)
  injection e2 with e2 _ e3
  subst e2;subst e3
  have hff:=hfs f (List.mem_of_getElem? hf)
  refine⟨cs,g2,cap,m,lv2,v,f,il,⟨HPA.out,HC0.out,HC1.out,HROWA.out,(hbr m v f (by rw[← hl2];simp) hf).kept HKA.out,hff.2,hff.1,by have:=HNF.out;omega,by have:=HIL.out;omega,HTA.out,HRCA.out,HCB0.out,HCB1.out,HCB2.out,λv' w' h1 h2 h3 h4 h5=>?_⟩⟩
  refine HO.out hq lv2 v f v' w' rfl (by rw[hl2];exact hf) h1 h2 h3 (h4.imp id (λ⟨b,e,hb⟩=>⟨b,e,by have:=HSZ.out;omega⟩)) ((HKA.out.mono (λ_ _ h=>h.elim)).trans h5 (λb _ h=>?_))
  rcases h with h|h|h
  ·exact Or.inl h
  ·exact Or.inr (Or.inl (by rw[h];rfl))
  ·exact Or.inr (Or.inr h)
 clear hnew hold hp hpA hc0 hc1 hb hTu hTf hT hrow hfs hbr hr hrv hnf hil hfl HO htb
 go_enter Tryz.func78,Tryz.ntmps78
 go_upto_region 1 with fail
 go_cut [17] (λs17 wx=>s17 = .bool (decide (nf=0∨il=4))∧wx=w.alloc (.cells #[.int .u8 k,.int .i64 t,rv] 110))
 case first=>
  by_cases q1:nf=0
  ·have hq:((nf:Int) == 0)=true:=by simp;omega
   go_wp2_with fail
   go_meet
   case rel=>exact⟨by simp[q1],rfl⟩
  ·have hq:((nf:Int) == 0)=false:=by simp;omega
   by_cases q2:il=4
   ·have hq2:((il:Int) == 4)=true:=by simp;omega
    go_wp2_with fail
    go_meet
    case rel=>exact⟨by simp[q2],rfl⟩
   ·have hq2:((il:Int) == 4)=false:=by simp;omega
    go_wp2_with fail
    go_meet
    case rel=>exact⟨by simp[q1,q2],rfl⟩
 case rest=>
 obtain⟨rfl,rfl⟩:=hcut
 go_upto_if 17 with fail
 go_cut [] (λwx=>zmy p o T w.heap.size k t rv body R wx)
 case first=>
  by_cases hq:nf=0∨il=4
  ·have hqb:decide (nf=0∨il=4)=true:=by simpa using hq
   have HQ:=ze hq
   clear hq
   go_wp2_with fail
   clear HOM
   generalize w.alloc (.cells #[.int .u8 k,.int .i64 t,rv] 110)=A at HKA c0 c1 HCB0 HCB1 HCB2 HPA HTA HROWA HRCA HSZ ⊢
   go_region_law (first
    |(refine zpd rfl 131 _ _ _ rfl Tryz.func131 (by kernel_rfl) (by kernel_rfl) _ (by simp[Act.eval];rfl) ?_;refine z5s nf _ (HTA.out.kept (Kp.drew _ _)) (by have:=HNF.out;omega) ?_;intro v1 w1 hv1 hk1;have HV1:=ze hv1;have HK1:Hid (Kp (λ_=>False) A w1):=(Kp.drew (λ_=>False) A).trans hk1 (λ_ _ h=>h);have d0:w1.cell? ⟨p,o,none⟩=some (.slice pf nf cap):=(HK1.out.cell (a:=⟨p,o,none⟩) (World.block_lt_of_cell? _ _ c0) (λe=>e)).trans c0;have d0a:∀ob,(w1.alloc ob).cell? ⟨p,o,none⟩=some (.slice pf nf cap):=λob=>zeh d0 ob;obtain⟨g1,cap1,rfl⟩:=hv1.form (by simp[zoc,z8c]);clear hv1 hk1;refine⟨_,rfl,?_⟩)
    |(refine zwr rfl _ _ rfl (.slice pf nf cap) nf lv (by simp[Act.eval]) ((zi HROWA.out HK1.out (λ_ _ e=>e)).alloc _) w1.heap.size (.slice (some ⟨g1,0,none⟩) (zoc nf).length cap1) (by simp[Act.eval]) (by go_simp) rfl HNF.out ?_;intro lf2 w2 hr2 hk2 hl2;have HR2:=ze hr2;have HK2:=ze hk2;have HL2:=ze hl2;have hp2:w2.heap[p]?=some (.cells cs T (0,0)):=(hk2.block p (World.block_lt_of_cell? _ _ (zeh d0 _)) HNP.out).trans (((Kp.alloc (λ_=>False) _ _).block p (World.block_lt_of_cell? _ _ d0) (λe=>e)).trans ((HK1.out.block p (World.block_lt_of_cell? _ _ c0) (λe=>e)).trans HPA.out));have HP2:=ze hp2;have d2:w2.cell? ⟨p,o,none⟩=some (.slice pf nf cap):=(zg hp2 _).trans HC0.out;have d3:w2.cell? ⟨p,o+1,none⟩=some (.int .i64 il):=(zg hp2 _).trans HC1.out;have e2:w2.frozen? ⟨p,o,none⟩=false:=zj hp2 _;have e3:w2.frozen? ⟨p,o+1,none⟩=false:=zj hp2 _;obtain⟨g2,cap2,cur2,rfl,hg2,ht2⟩:=zib hr2 (by omega);have HG2:=ze hg2;clear hp2 hg2 ht2 hr2 hk2 hl2))
   all_goals
    clear d0 c0 c1 d0a
    go_wp2_with fail
    go_meet
    case rel=>
     clear d2 d3 e2 e3
     exact z01 HTU.out HTF.out hplt HQ.out HKA.out HCB0.out HCB1.out HCB2.out HROWA.out HTA.out HRCA.out HSZ.out HNP.out HLT.out HC0.out HC1.out HNF.out HRV.out HTB.out HN.out HV1.out HK1.out HR2.out HK2.out HL2.out HP2.out HG2.out
  ·have hqb:decide (nf=0∨il=4)=false:=by simpa using hq
   have HQ:=ze hq
   clear hq
   go_wp2_with fail
   go_meet
   case rel=>exact HOM.out HQ.out
 case rest=>
  clear HOM
  obtain⟨cs2,g2,cap2,m,lv2,v,f,il2,hM⟩:=hcut
  have HM:=ze hM
  have d0:wc.cell? ⟨p,o,none⟩=some (.slice (some ⟨g2,0,none⟩) (m+1) cap2):=(zg hM.hp _).trans hM.c0
  have d1:wc.cell? ⟨p,o+1,none⟩=some (.int .i64 il2):=(zg hM.hp _).trans hM.c1
  have hlen:lv2.length=m:=by have:=hM.row.1;simp at this;omega
  have HLEN:=ze hlen
  have e0:wc.cell? ⟨g2,m,none⟩=some v:=zfe hM.row m v (by rw[← hlen];simp)
  obtain⟨cur2,hg2⟩:=zrd hM.row (b:=g2) rfl
  obtain⟨gv,capv,rfl⟩:=hM.br.form hM.fne
  obtain⟨curv,hgv⟩:=hM.br.block (b:=gv) rfl
  have HNV:=ze (zne hgv hM.hp (Ne.symm HTU.out))
  have HNG:=ze (zne hg2 hM.hp (Ne.symm HTF.out))
  have HNGV:=ze (zne hgv hg2 (by decide))
  have HG2:=ze hg2
  have a0:=hM.b0
  have a1:=hM.b1
  have a2:=hM.b2
  have hm1:(m:Int)≤1000001:=by have:=hM.m1;omega
  have hmm:(m:Int)<(m:Int)+1:=by omega
  have hi1:(il2:Int)≤100:=by have:=hM.i1;omega
  clear hM hlen hg2 hgv c0 c1
  go_wp2_with fail
  go_region_law (refine zpd rfl 132 _ _ _ rfl Tryz.func132 (by kernel_rfl) (by kernel_rfl) _ (by simp[Act.eval];rfl) ?_;refine zhm (.slice (some ⟨gv,0,none⟩) f.length capv) f k t rv body _ (HM.out.tab.kept (Kp.drew _ _)) h1c (HM.out.rc.kept (Kp.drew _ _)) HB.out (HM.out.br.kept (Kp.drew _ _)) HM.out.fl ?_;intro v5 w5 hv5 hk5 hl5;have HV5:=ze hv5;have HK5:=ze hk5;have HL5:=ze hl5;have hp5:w5.heap[p]?=some (.cells cs2 T (0,0)):=(hk5.block p (Array.getElem?_eq_some_iff.1 HM.out.hp).1 (λe=>HNV.out (by simpa [Value.ownBlock] using e))).trans HM.out.hp;have hg5:w5.heap[g2]?=some (.cells cur2 48 (0,0)):=(hk5.block g2 (Array.getElem?_eq_some_iff.1 HG2.out).1 (λe=>HNGV.out (by simpa [Value.ownBlock] using e))).trans HG2.out;have HP5:=ze hp5;have HG5:=ze hg5;have x0:w5.cell? ⟨g2,m,none⟩=some (.slice (some ⟨gv,0,none⟩) f.length capv):=((zg hg5 m).trans ((zg HG2.out m).symm)).trans e0;have x1:w5.frozen? ⟨g2,m,none⟩=false:=zj hg5 _;have x2:w5.cell? ⟨p,o+1,none⟩=some (.int .i64 il2):=(zg hp5 _).trans HM.out.c1;have x3:w5.frozen? ⟨p,o+1,none⟩=false:=zj hp5 _;have x4:w5.cell? ⟨p,o,none⟩=some (.slice (some ⟨g2,0,none⟩) (m+1) cap2):=(zg hp5 _).trans HM.out.c0;have hne:g2≠p:=HNG.out;obtain⟨g5,cap5,rfl⟩:=hv5.form (by simp[zqb,z8c]);clear hv5 hk5 hl5 hp5 hg5;refine⟨_,rfl,?_⟩)
  all_goals
   clear d0 d1 e0 a0 a1 a2
   go_wp2_with fail
   go_end0
   rw[← List.length_append]
   refine HM.out.go (.slice (some ⟨g5,0,none⟩) (f++zqb body).length cap5) _ ?_ ?_ ?_ HL5.out ?_
   ·rw[zn (i:=o+1) (cs:=cs2) ((Below.heap_setCell w5 _ _ p (Ne.symm hne)).trans HP5.out)];rfl
   ·have h1:w5.ownsRow 0 48 1 (.slice (some ⟨g2,0,none⟩) (m+1) cap2) (m+1) (lv2++[.slice (some ⟨gv,0,none⟩) f.length capv]):=zi HM.out.row ((Kp.drew (λb=>gv=b) _).trans HK5.out (λb _ e=>by simpa [Value.ownBlock] using e)) (λb e=>by simp[Value.ownBlock]at e;subst e;exact HNGV.out)
    have h2:=z6s h1 m (.slice (some ⟨g5,0,none⟩) (f++zqb body).length cap5)
    rw[zg0 _ _ _ _ HLEN.out]at h2
    exact zi h2 (S:=λb=>b=p) (Kp.setCell _ _ _ rfl) (λb e=>by simp[Value.ownBlock]at e;subst e;exact hne)
   ·have hb5:∃cur5,w5.heap[g5]?=some (.cells cur5 5 (0,0)):=HV5.out.block rfl
    obtain⟨cur5,hcur5⟩:=hb5
    refine BR.kp (S:=λb=>b=g2∨b=p) HV5.out ((Kp.setCell (S:=λb=>b=g2∨b=p) w5 _ _ (Or.inl rfl)).trans (Kp.setCell (S:=λb=>b=g2∨b=p) _ _ _ (Or.inr rfl)) (λ_ _ h=>h)) (λb e=>?_)
    simp[Value.ownBlock]at e
    subst e
    rintro (e|e)
    ·exact zne hcur5 HG5.out (by decide) e
    ·exact zne hcur5 HP5.out (Ne.symm HTU.out) e
   ·refine (((Kp.drew (λb=>b=p∨b=g2∨(Value.slice (some ⟨gv,0,none⟩) f.length capv).ownBlock=some b) _).trans HK5.out (λb _ e=>Or.inr (Or.inr e))).trans (Kp.setCell (S:=λb=>b=p∨b=g2∨(Value.slice (some ⟨gv,0,none⟩) f.length capv).ownBlock=some b) w5 _ _ (Or.inr (Or.inl rfl))) (λ_ _ h=>h)).trans (Kp.setCell (S:=λb=>b=p∨b=g2∨(Value.slice (some ⟨gv,0,none⟩) f.length capv).ownBlock=some b) _ _ _ (Or.inl rfl)) (λ_ _ h=>h)
end
end
end Go.Proofs.YthbdpfccfcceiaaGreatDoor
