/-
  Of the proof of logsUpto_card.
-/
import Derived.Test.YthbdpfccfcceiaaGreatDoorD5x
namespace Go.Proofs.YthbdpfccfcceiaaGreatDoor
section
open Go.RowKit
structure YT where
 over:Bool
 sees:Int
 l:List YV
structure YS where
 l:List YV
 now:Int
 txs:List YT
 hor:Int
 syn:Int
 bku:Value
 lg:List (List UInt8)
def zob (l:List (YT × Value)):List Value:=l.flatMap λq=>[.bool q.1.over,.int .i64 q.1.sees,q.2]
theorem zvo:∀(l:List (YT × Value)) (j:Nat) (hj:j<l.length),(zob l)[j*3]?=some (.bool l[j].1.over)∧(zob l)[j*3+1]?=some (.int .i64 l[j].1.sees)∧(zob l)[j*3+2]?=some l[j].2
 |a::r,0,_=>by simp[zob]
 |a::r,j+1,hj=>by
  have ih:=zvo r j (by simpa using hj)
  have e:zob (a::r)=[.bool a.1.over,.int .i64 a.1.sees,a.2]++zob r:=by simp[zob]
  have f:∀o,(zob (a::r))[(j+1)*3+o]?=(zob r)[j*3+o]?:=λo=>by
   rw[e,List.getElem?_append_right (by simp;omega)]
   congr 1
   simp;omega
  have f0:=f 0
  simp only[Nat.add_zero]at f0
  rw[f0,f 1,f 2]
  simpa using ih
structure YR (own:Nat→Lab)(c:Nat)(w:World)(p:Nat)(s:YS)(vL vT vG:Value)(sv:List Value)(lg:List Value):Prop where
 ownP:own p=⟨c,0,0,eb⟩
 store:w.heap[p]?=some (.cells #[vL,.int .i64 s.hor,.int .i64 s.now,vT,vG,.int .i64 s.syn,s.bku] 78 (0,0))
 rowL:w.ownsRow 0 193 4 vL s.l.length (zo s.l)
 ownL:∀b,vL.ownBlock=some b→own b=⟨c,1,0,eb⟩
 len:sv.length=s.txs.length
 rowT:w.ownsRow 0 260 3 vT s.txs.length (zob (s.txs.zip sv))
 ownT:∀b,vT.ownBlock=some b→own b=⟨c,2,0,eb⟩
 rowX:∀i (hi:i<s.txs.length) (hj:i<sv.length),w.ownsRow 0 193 4 sv[i] (s.txs[i]).l.length (zo (s.txs[i]).l)
 ownX:∀i (hj:i<sv.length) b,sv[i].ownBlock=some b→own b=⟨c,4,i,eb⟩
 rowG:w.ownsRow 0 48 1 vG lg.length lg
 ownG:∀b,vG.ownBlock=some b→own b=⟨c,3,0,eb⟩
section
variable {own own':Nat→Lab}{c:Nat}{w w':World}{p:Nat}{s:YS}{vL vT vG:Value}{sv lg:List Value}
theorem zl {base e size n:Nat}{v:Value}{xs:List Value}(h:w.ownsRow base e size v n xs)(hb:∀b,v.ownBlock=some b→w'.heap[b]?=w.heap[b]?):w'.ownsRow base e size v n xs:=by
 refine⟨h.1,?_⟩
 rcases h.2 with h1|⟨g,cap,cur,rfl,hg0,hg,r⟩
 ·exact Or.inl h1
 ·exact Or.inr ⟨g,cap,cur,rfl,hg0,(hb g rfl).trans hg,r⟩
theorem YR.frame (h:YR own c w p s vL vT vG sv lg)(hb:∀b,b<w.heap.size→(own b).c=c→w'.heap[b]?=w.heap[b]?)(ho:∀b,b<w.heap.size→(own b).c=c→own' b=own b):YR own' c w' p s vL vT vG sv lg:=by
 have lp:=zh h.store
 refine⟨(ho p lp (by rw[h.ownP])).trans h.ownP,(hb p lp (by rw[h.ownP])).trans h.store,?_,?_,h.len,?_,?_,?_,?_,?_,?_⟩
 ·exact zl h.rowL (λb e=>hb b (h.rowL.lt b e).2 (by rw[h.ownL b e]))
 ·exact λb e=>(ho b (h.rowL.lt b e).2 (by rw[h.ownL b e])).trans (h.ownL b e)
 ·exact zl h.rowT (λb e=>hb b (h.rowT.lt b e).2 (by rw[h.ownT b e]))
 ·exact λb e=>(ho b (h.rowT.lt b e).2 (by rw[h.ownT b e])).trans (h.ownT b e)
 ·exact λi hi hj=>zl (h.rowX i hi hj) (λb e=>hb b ((h.rowX i hi hj).lt b e).2 (by rw[h.ownX i hj b e]))
 ·exact λi hj b e=>(ho b ((h.rowX i (h.len ▸ hj) hj).lt b e).2 (by rw[h.ownX i hj b e])).trans (h.ownX i hj b e)
 ·exact zl h.rowG (λb e=>hb b (h.rowG.lt b e).2 (by rw[h.ownG b e]))
 ·exact λb e=>(ho b (h.rowG.lt b e).2 (by rw[h.ownG b e])).trans (h.ownG b e)
theorem YR.withLg (h:YR own c w p s vL vT vG sv lg)(x:List (List UInt8)):YR own c w p { s with lg:=x } vL vT vG sv lg:=⟨h.ownP,h.store,h.rowL,h.ownL,h.len,h.rowT,h.ownT,h.rowX,h.ownX,h.rowG,h.ownG⟩
theorem YR.kept (h:YR own c w p s vL vT vG sv lg)(hk:Kp (λ_=>False) w w'):YR own c w' p s vL vT vG sv lg:=h.frame (λb hb _=>hk.block b hb (λe=>e)) (λ_ _ _=>rfl)
theorem YR.txAt (h:YR own c w p s vL vT vG sv lg)(j:Nat)(hj:j<s.txs.length):∃g cap,vT = .slice (some ⟨g,0,none⟩) s.txs.length cap∧w.cell? ⟨g,j*3,none⟩=some (.bool (s.txs[j]).over)∧w.cell? ⟨g,j*3+1,none⟩=some (.int .i64 (s.txs[j]).sees)∧
  w.cell? ⟨g,j*3+2,none⟩=some (sv[j]'(h.len ▸ hj))∧(∀i,w.frozen? ⟨g,i,none⟩=false)∧own g=⟨c,2,0,eb⟩:=by
 have hsv:j<sv.length:=h.len ▸ hj
 have hz:j<(s.txs.zip sv).length:=by simp;omega
 rcases h.rowT.2 with ⟨_,h0⟩|⟨g,cap,cur,hv,hb,hg,hn,_,hcs,ht⟩
 ·omega
 ·have key:∀i u,(zob (s.txs.zip sv))[i]?=some u→w.cell? ⟨g,i,none⟩=some u:=λi u hu=>by
   have:w.cell? ⟨g,i,none⟩=cur[i]?:=by simp[World.cell?,hg]
   rw[this,← Array.getElem?_toList]
   rw[← ht,List.getElem?_take]at hu
   split at hu
   ·exact hu
   ·cases hu
  obtain⟨a1,a2,a3⟩:=zvo (s.txs.zip sv) j hz
  simp only[List.getElem_zip]at a1 a2 a3
  exact⟨g,cap,hv,key _ _ a1,key _ _ a2,key _ _ a3,λi=>by simp[World.frozen?,hg],h.ownT g (by rw[hv];rfl)⟩
def zab (s:YS)(tx:Int):Bool:=match s.txs[(tx-1).toNat]? with|some t=>decide (1≤tx) && !t.over|none=>false
variable {R:Ending→World→Prop}
theorem zr {base e size n:Nat}{v:Value}{xs:List Value}(h:w.ownsRow base e size v n xs):∃a cap,v = .slice a n cap∧n≤cap:=by
 rcases h.2 with ⟨rfl,rfl⟩|⟨g,cap,cur,rfl,_,_,hn,_⟩
 ·exact⟨none,0,rfl,Nat.le_refl _⟩
 ·exact⟨_,cap,rfl,hn⟩
set_option maxRecDepth 20000 in
set_option maxHeartbeats 400000 in
theorem zwc (h:YR own c w p s vL vT vG sv lg)(hn:s.txs.length<4611686018427387904)(tx:Int)(hR:R (.returned (.bool (zab s tx))) w) :
  Calls Tryz.prog 156 #[.pointer (some ⟨p,0,none⟩),.int .i64 tx] w R:=by
 have c3:w.cell? ⟨p,3,none⟩=some vT:=zg h.store 3
 by_cases h1:tx<1
 ·have e:zab s tx=false:=by
   unfold zab;split
   ·simp;omega
   ·rfl
  rw[e]at hR
  have h1':decide (1≤tx)=false:=by simp;omega
  clear h e
  go_enter Tryz.func156,Tryz.ntmps156
  go_wp2
  exact hR
 ·obtain⟨j,rfl⟩:∃j:Nat,tx=(j:Int)+1:=⟨(tx-1).toNat,by omega⟩
  have hj0:(1:Int)≤(j:Int)+1:=by omega
  by_cases h2:j<s.txs.length
  ·obtain⟨g,cap,hv,k0,q1,q2,q3,q4⟩:=h.txAt j h2
   clear q1 q2 q3 q4
   have e:zab s ((j:Int)+1)=!(s.txs[j]).over:=by
    unfold zab
    simp[List.getElem?_eq_getElem h2];omega
   rw[e]at hR
   rw[hv]at c3
   have h2':(j:Int)+1≤s.txs.length:=by omega
   have h3':(j:Int)<s.txs.length:=by omega
   have hj1:(j:Int)≤4611686018427387904:=by omega
   clear hn
   generalize (s.txs[j]).over=ov at k0 hR
   clear h e hv h1 h2
   generalize s.txs.length=L at *
   go_enter Tryz.func156,Tryz.ntmps156
   go_wp2
   exact hR
  ·obtain⟨a,cap,hv,_⟩:=zr h.rowT
   have e:zab s ((j:Int)+1)=false:=by
    unfold zab
    simp[List.getElem?_eq_none (by omega:s.txs.length≤j)]
   rw[e]at hR
   rw[hv]at c3
   have h2':¬(j:Int)+1≤s.txs.length:=by omega
   have h2d:decide ((j:Int)+1≤s.txs.length)=false:=by simp;omega
   clear h e hv h1 h2
   generalize s.txs.length=L at *
   go_enter Tryz.func156,Tryz.ntmps156
   go_wp2
   exact hR
end
end
section
open Go.RowKit
theorem zfn:∀(l:List (YT × Value)) (j:Nat) (hj:j<l.length) (b:Bool),(zob l).set (j*3) (.bool b)=zob (l.set j ({ l[j].1 with over:=b },l[j].2))
 |a::r,0,_,b=>by simp[zob]
 |a::r,j+1,hj,b=>by
  have ih:=zfn r j (by simpa using hj) b
  have e:∀x y,zob (x::y)=[.bool x.1.over,.int .i64 x.1.sees,x.2]++zob y:=λx y=>by simp[zob]
  rw[e,List.set_append_right _ _ (by simp;omega)]
  simp only[List.set_cons_succ]
  rw[e]
  congr 1
  have:(j+1)*3 - [Value.bool a.1.over,Value.int .i64 a.1.sees,a.2].length=j*3:=by simp;omega
  rw[this,ih]
  simp
theorem z1i {α β:Type}:∀(l:List α) (m:List β) (j:Nat) (x:α) (hj:j<m.length),(l.set j x).zip m=(l.zip m).set j (x,m[j])
 |[],m,j,x,_=>by simp
 |a::r,b::m,0,x,_=>by simp
 |a::r,b::m,j+1,x,hj=>by simp[z1i r m j x (by simpa using hj)]
 |a::r,[],j,x,hj=>by simp at hj
theorem zpb {own:Nat→Lab}{a b:Nat}(h:own a≠own b):a≠b:=λe=>h (by rw[e])
section
variable {own own':Nat→Lab}{c:Nat}{w w':World}{p:Nat}{s:YS}{vL vT vG:Value}{sv lg:List Value}
def zqc (s:YS)(j:Nat)(hj:j<s.txs.length):YS:={ s with txs:=s.txs.set j { s.txs[j] with over:=true } }
theorem YR.setOver (h:YR own c w p s vL vT vG sv lg)(j:Nat)(hj:j<s.txs.length)(g cap:Nat)(hv:vT = .slice (some ⟨g,0,none⟩) s.txs.length cap) :
  YR own c (w.setCell ⟨g,j*3,none⟩ (.bool true)) p (zqc s j hj) vL vT vG sv lg:=by
 have hsv:j<sv.length:=h.len ▸ hj
 have hg:=h.ownT g (by rw[hv];rfl)
 have hb:∀b,b≠g→(w.setCell ⟨g,j*3,none⟩ (.bool true)).heap[b]?=w.heap[b]?:=λb hb=>Below.heap_setCell w _ _ b hb
 have hz:j<(s.txs.zip sv).length:=by simp;omega
 refine⟨h.ownP,?_,?_,h.ownL,by simp[zqc,h.len],?_,h.ownT,λi hi hj'=>?_,h.ownX,?_,h.ownG⟩
 ·exact (hb p (zpb (own:=own) (by rw[h.ownP,hg];simp))).trans h.store
 ·exact zl h.rowL (λb e=>hb b (zpb (own:=own) (by rw[h.ownL b e,hg];simp)))
 ·rcases h.rowT.2 with ⟨_,h0⟩|⟨g',cap',cur,hv',hb',hg',hn,hm,hcs,ht⟩
  ·omega
  ·rw[hv]at hv';cases hv'
   have hlen:(zqc s j hj).txs.length=s.txs.length:=by simp[zqc]
   have hcells:zob ((zqc s j hj).txs.zip sv)=(zob (s.txs.zip sv)).set (j*3) (.bool true):=by
    rw[zfn _ j hz]
    simp only[zqc,List.getElem_zip]
    rw[z1i s.txs sv j _ hsv]
   refine⟨by rw[hlen,hcells,List.length_set];exact h.rowT.1,Or.inr ⟨g,cap,cur.setIfInBounds (j*3) (.bool true),by rw[hlen];exact hv,hb',zq hg' _,by rw[hlen];exact hn,hm,by simpa using hcs,?_⟩⟩
   rw[hlen,hcells,← ht,Array.toList_setIfInBounds,List.take_set]
 ·have hi':i<s.txs.length:=by simpa [zqc] using hi
  have hl:((zqc s j hj).txs[i]).l=(s.txs[i]).l:=by
   simp only[zqc,List.getElem_set]
   split
   ·rename_i e;subst e;rfl
   ·rfl
  rw[hl]
  exact zl (h.rowX i hi' hj') (λb e=>hb b (zpb (own:=own) (by rw[h.ownX i hj' b e,hg];simp)))
 ·exact zl h.rowG (λb e=>hb b (zpb (own:=own) (by rw[h.ownG b e,hg];simp)))
variable {R:Ending→World→Prop}
theorem z3m {s:YS}{tx:Int}(h:zab s tx=true):∃j:Nat,tx=(j:Int)+1∧∃hj:j<s.txs.length,(s.txs[j]).over=false:=by
 unfold zab at h
 split at h
 ·rename_i t ht
  simp at h
  refine⟨(tx-1).toNat,by omega,?_⟩
  obtain⟨hj,e⟩:=List.getElem?_eq_some_iff.1 ht
  exact⟨hj,by rw[e];exact h.2⟩
 ·cases h
set_option maxRecDepth 20000 in
set_option maxHeartbeats 400000 in
theorem z7t (h:YR own c w p s vL vT vG sv lg)(hn:s.txs.length<4611686018427387904)(tx:Int)
  (h0:zab s tx=false→R (.returned (.int .i64 2)) w)
  (h1:∀(j:Nat) (hj:j<s.txs.length),tx=(j:Int)+1→zab s tx=true→∀w',Kp (λb=>(own b).c=c) w w'→YR own c w' p (zqc s j hj) vL vT vG sv lg→R (.returned (.int .i64 0)) w') :
  Calls Tryz.prog 109 #[.pointer (some ⟨p,0,none⟩),.int .i64 tx] w R:=by
 have H:Hid (YR own c w p s vL vT vG sv lg):=h
 cases ht:zab s tx with
 |false=>
  have HR:=h0 ht
  clear h h0 h1
  go_enter Tryz.func109,Tryz.ntmps109
  go_wp2_with (first
   |(go_at_call 156;refine zwc H.out hn tx ?_)
   |go_in)
  exact HR
 |true=>
  obtain⟨j,rfl,hj,hov⟩:=z3m ht
  obtain⟨g,cap,hv,k0,k1,k2,kf,hg⟩:=h.txAt j hj
  have HR:Hid _:=h1 j hj rfl ht
  have HS:Hid _:=h.setOver j hj g cap hv
  have HN:Hid _:=hn
  have c3:w.cell? ⟨p,3,none⟩=some vT:=zg h.store 3
  rw[hv]at c3
  have kf0:=kf (j*3)
  have hj1:(j:Int)<s.txs.length:=by omega
  have hj2:(j:Int)≤4611686018427387904:=by omega
  clear h h0 h1 hn k1 k2 kf hv
  go_enter Tryz.func109,Tryz.ntmps109
  go_wp2_with (first
   |(go_at_call 156;refine zwc H.out HN.out _ ?_)
   |go_in)
  exact HR.out _ (Kp.setCell w _ _ (by show (own g).c=c;rw[hg])) HS.out
end
end
section
open Go.RowKit
def ztc (l:List YT):Nat:=(l.filter (λt=>!t.over)).length
def zhd (s:YS):YT:=⟨false,s.now,[]⟩
theorem ze3:(Tryz.prog.info? 260).map (λi=>(i.zero,i.size,i.bytes))=some (some (.agg #[.bool false,.int .i64 0,.slice none 0 0]),3,40):=by kernel_rfl
theorem z4x (w:World)(x y z:Value)(t:TypeId):∀j u,[x,y,z][j]?=some u→(w.alloc (.cells #[x,y,z] t)).cell? ((⟨w.heap.size,0,none⟩:Addr).add j)=some u:=by
 intro j u hj
 match j,hj with
 |0,hj=>simp at hj;subst hj;simp[Addr.add]
 |1,hj=>simp at hj;subst hj;simp[Addr.add]
 |2,hj=>simp at hj;subst hj;simp[Addr.add]
section
variable {own own':Nat→Lab}{c:Nat}{w w':World}{p:Nat}{s:YS}{vL vT vG:Value}{sv lg:List Value}
theorem YR.newTx (h:YR own c w p s vL vT vG sv lg){w3:World}{v':Value}(hk:Kp (λb=>vT.ownBlock=some b) w w3)(hrow:w3.ownsRow 0 260 3 v' (s.txs.length+1) (zob (s.txs.zip sv)++[.bool false,.int .i64 s.now,.slice none 0 0]))
  (hloc:v'.ownBlock=vT.ownBlock∨∃b,v'.ownBlock=some b∧w.heap.size≤b) :
  YR (λb=>if v'.ownBlock=some b then ⟨c,2,0,eb⟩ else own b) c (w3.setCell ⟨p,3,none⟩ v') p { s with txs:=s.txs++[zhd s] } vL v' vG (sv++[Value.slice none 0 0]) lg∧
  (∀b,b<w.heap.size→(λb=>if v'.ownBlock=some b then (⟨c,2,0,eb⟩:Lab) else own b) b=own b):=by
 have hout:∀b,b<w.heap.size→(λb=>if v'.ownBlock=some b then (⟨c,2,0,eb⟩:Lab) else own b) b=own b:=λb hb=>by
  by_cases e:v'.ownBlock=some b
  ·simp only[e,if_true]
   rcases hloc with hl|⟨b',hb',hge⟩
   ·exact (h.ownT b (hl ▸ e)).symm
   ·rw[hb']at e;cases e;omega
  ·simp[e]
 refine⟨?_,hout⟩
 have lp:=zh h.store
 have hpT:∀b,vT.ownBlock=some b→own b=⟨c,2,0,eb⟩:=h.ownT
 have old:∀b,b<w.heap.size→own b≠⟨c,2,0,eb⟩→b≠p→(w3.setCell ⟨p,3,none⟩ v').heap[b]?=w.heap[b]?:=λb hb h1 h2=>by
  rw[Below.heap_setCell w3 _ _ b h2];exact hk.block b hb (λe=>h1 (hpT b e))
 have hp3:w3.heap[p]?=some (.cells #[vL,.int .i64 s.hor,.int .i64 s.now,vT,vG,.int .i64 s.syn,s.bku] 78 (0,0)):=(hk.block p lp (λe=>by have:=hpT p e;rw[h.ownP]at this;simp at this)).trans h.store
 have hvp:v'.ownBlock≠some p:=λe=>by
  rcases hloc with hl|⟨b,hb,hge⟩
  ·have:=hpT p (hl ▸ e);rw[h.ownP]at this;simp at this
  ·rw[hb]at e;cases e;omega
 refine⟨(hout p lp).trans h.ownP,?_,?_,?_,by simp[h.len],?_,?_,?_,?_,?_,?_⟩
 ·rw[zq hp3];rfl
 ·exact zl h.rowL (λb e=>old b (h.rowL.lt b e).2 (by rw[h.ownL b e];simp) (zpb (own:=own) (by rw[h.ownL b e,h.ownP];simp)))
 ·exact λb e=>(hout b (h.rowL.lt b e).2).trans (h.ownL b e)
 ·have e1:zob ((s.txs++[zhd s]).zip (sv++[Value.slice none 0 0]))=zob (s.txs.zip sv)++[.bool false,.int .i64 s.now,.slice none 0 0]:=by
   rw[List.zip_append h.len.symm];simp[zob,zhd]
  show World.ownsRow _ 0 _ 3 v' (s.txs++[zhd s]).length (zob ((s.txs++[zhd s]).zip (sv++[Value.slice none 0 0])))
  rw[e1,List.length_append]
  exact zl hrow (λb e=>Below.heap_setCell w3 _ _ b (λe'=>hvp (by rw[e,e'])))
 ·intro b e;simp[e]
 ·intro i hi hj
  by_cases ei:i<s.txs.length
  ·have hi':i<sv.length:=h.len ▸ ei
   simp only[List.getElem_append_left ei,List.getElem_append_left hi']
   exact zl (h.rowX i ei hi') (λb e=>old b ((h.rowX i ei hi').lt b e).2 (by rw[h.ownX i hi' b e];simp) (zpb (own:=own) (by rw[h.ownX i hi' b e,h.ownP];simp)))
  ·have:i=s.txs.length:=by simp at hi;omega
   subst this
   have e2:s.txs.length=sv.length:=h.len.symm
   simp only[List.getElem_append_right (Nat.le_refl _),Nat.sub_self,List.getElem_cons_zero]
   simp only[List.getElem_append_right (Nat.le_of_eq h.len),h.len,Nat.sub_self,List.getElem_cons_zero]
   exact World.ownsRow_nil _ _ _ _
 ·intro i hj b e
  by_cases ei:i<sv.length
  ·simp only[List.getElem_append_left ei]at e
   exact (hout b ((h.rowX i (h.len ▸ ei) ei).lt b e).2).trans (h.ownX i ei b e)
  ·have:i=sv.length:=by simp at hj;omega
   subst this
   simp[Value.ownBlock]at e
 ·exact zl h.rowG (λb e=>old b (h.rowG.lt b e).2 (by rw[h.ownG b e];simp) (zpb (own:=own) (by rw[h.ownG b e,h.ownP];simp)))
 ·exact λb e=>(hout b (h.rowG.lt b e).2).trans (h.ownG b e)
variable {R:Ending→World→Prop}
theorem zik (l:List YT)(t:YT):ztc (l++[t])=ztc l+(if t.over then 0 else 1):=by
 unfold ztc;rw[List.filter_append];cases h:t.over<;>simp[h]
set_option maxRecDepth 20000 in
set_option maxHeartbeats 1000000 in
theorem z8t (h:YR own c w p s vL vT vG sv lg)(hn:s.txs.length<1000000000000)
  (h0:ztc s.txs=8→R (.returned (.tuple #[.int .i64 0,.int .i64 3])) w)
  (h1:ztc s.txs≠8→∀w' own' v',Kp (λb=>(own b).c=c) w w'→(∀b,b<w.heap.size→own' b=own b)→YR own' c w' p { s with txs:=s.txs++[zhd s] } vL v' vG (sv++[Value.slice none 0 0]) lg→
   R (.returned (.tuple #[.int .i64 ((s.txs.length+1:Nat):Int),.int .i64 0])) w') :
  Calls Tryz.prog 101 #[.pointer (some ⟨p,0,none⟩)] w R:=by
 have H:Hid (YR own c w p s vL vT vG sv lg):=h
 have H0:Hid _:=h0
 have H1:Hid _:=h1
 have HN:Hid _:=hn
 have c3:w.cell? ⟨p,3,none⟩=some vT:=zg h.store 3
 have c2:w.cell? ⟨p,2,none⟩=some (.int .i64 s.now):=zg h.store 2
 have f3:w.frozen? ⟨p,3,none⟩=false:=zx h.store 3
 obtain⟨a,cap,hv,hcap⟩:=zr h.rowT
 subst hv
 obtain⟨i0,hi,hz0,hz1,hz2⟩:=info_parts ze3
 clear h h0 h1 hn hcap
 go_enter Tryz.func101,Tryz.ntmps101
 go_wp2
 go_loop [4,5] (λvn vi=>∃k:Nat,k≤s.txs.length∧vi = .int .i64 k∧vn = .int .i64 (ztc (s.txs.take k))) (λ_ vi=>s.txs.length-(intOf vi).toNat)
 case atStart=>exact⟨0,Nat.zero_le _,rfl,rfl⟩
 case round=>
  obtain⟨k,hk,rfl,rfl⟩:=hrel
  have hle:ztc (s.txs.take k)≤k:=by
   unfold ztc
   exact Nat.le_trans (List.length_filter_le _ _) (by simp[List.length_take];omega)
  by_cases hlt:k<s.txs.length
  ·obtain⟨g,cap',hv,k0,q1,q2,q3,q4⟩:=H.out.txAt k hlt
   clear q1 q2 q3 q4
   injection hv with e1 e2 e3
   subst e1;subst e3
   have hsn:=zik (s.txs.take k) (s.txs[k])
   rw[← List.take_succ_eq_append_getElem hlt]at hsn
   have HS:Hid _:=hsn
   have hlt':(k:Int)<s.txs.length:=by omega
   have hk1:(k:Int)≤1000000000000:=by have:=HN.out;omega
   have ho1:(ztc (s.txs.take k):Int)≤1000000000000:=by omega
   generalize hon:ztc (s.txs.take k)=n at *
   generalize hov:(s.txs[k]).over=ov at *
   clear hsn e2 hon hle
   cases ov
   ·go_wp2
    go_round
    case rel=>exact⟨k+1,by omega,by go_num,by rw[HS.out];go_num⟩
    case measure=>simp[intOf];omega
   ·go_wp2
    go_round
    case rel=>exact⟨k+1,by omega,by go_num,by rw[HS.out];simp⟩
    case measure=>simp[intOf];omega
  ·have hke:k=s.txs.length:=by omega
   subst hke
   rw[List.take_length]at hle ⊢
   by_cases h8:ztc s.txs=8
   ·have h8':((ztc s.txs:Int) == 8)=true:=by rw[h8];rfl
    have HR:=H0.out h8
    go_wp2
    exact HR
   ·have h8':((ztc s.txs:Int) == 8)=false:=by simp;omega
    have HR:Hid _:=H1.out h8
    clear hle
    go_wp2
    have hkA:Kp (λb=>(Value.slice a s.txs.length cap).ownBlock=some b) w (w.alloc (.cells #[.bool false,.int .i64 s.now,.slice none 0 0] 260)).drew:=(Kp.alloc _ _ _).trans (Kp.drew (λb=>(Value.slice a s.txs.length cap).ownBlock=some b) _) (λ_ _ h=>h)
    have hrow2:(w.alloc (.cells #[.bool false,.int .i64 s.now,.slice none 0 0] 260)).drew.ownsRow 0 260 3 (.slice a s.txs.length cap) s.txs.length (zob (s.txs.zip sv)):=zi H.out.rowT (S:=λ_=>False) ((Kp.alloc _ _ _).trans (Kp.drew (λ_=>False) _) (λ_ _ h=>h)) (λ_ _ h=>h)
    have hpn:(Value.slice a s.txs.length cap).ownBlock≠some p:=λe=>by have:=H.out.ownT p e;rw[H.out.ownP]at this;simp at this
    have hlp:=zh H.out.store
    have HLP:Hid _:=hlp
    have hs2:(w.alloc (.cells #[.bool false,.int .i64 s.now,.slice none 0 0] 260)).drew.heap.size=w.heap.size+1:=by simp
    have ps:p<w.heap.size:=hlp
    go_region_law (refine zmd rfl (.tmp 32) (.tmp 38) 75 rfl 0 260 i0 (.agg #[.bool false,.int .i64 0,.slice none 0 0]) 3 40 Tryz.underlying75 hi hz0 hz1 hz2 rfl (by decide) (.slice a s.txs.length cap) s.txs.length (zob (s.txs.zip sv)) (by simp[Act.eval]) hrow2 ⟨w.heap.size,0,none⟩ 1 1 [.bool false,.int .i64 s.now,.slice none 0 0] (by simp[Act.eval]) rfl (z4x _ _ _ _ _) (by simp[Value.oneCell']) (by have:=HN.out;unfold maxLen;omega) (by have:=HN.out;omega) (Nat.zero_le _) ?_;intro v' w3 hown' hgrow hloc;have hk3:=hkA.trans (Kp.of_grown (S:=λb=>(Value.slice a s.txs.length cap).ownBlock=some b) hgrow (λ_ h=>h)) (λ_ _ h=>h);have k3:=(hk3.cell (a:=⟨p,3,none⟩) HLP.out hpn).trans c3;have g3:=(hk3.frozen (a:=⟨p,3,none⟩) HLP.out hpn).trans f3;have HY:Hid _:=H.out.newTx hk3 hown' (hloc.imp id (λh=>⟨_,h,by rw[hs2];omega⟩));obtain⟨a',cap',rfl,hcap'⟩:=zr hown';clear hcap' hgrow hloc hown')
    all_goals
     replace HR:=HR.out _ _ _ ((hk3.mono (S':=λb=>(own b).c=c) (λb _ e=>by rw[H.out.ownT b e])).trans (Kp.setCell (S:=λb=>b=p) w3 ⟨p,3,none⟩ (.slice a' (s.txs.length+1) cap') rfl) (λb hb e=>by rw[e,H.out.ownP])) HY.out.2 HY.out.1
     clear HY hk3 hrow2 hkA
     go_wp2
     exact HR
end
end
section
open Go.RowKit
def z7m (s:YS)(t:YT)(key:ByteArray)(r:ByteArray × Bool):Prop:=
 (zyb t.l key=none∧zcm s.l t.sees key r)∨∃i,zyb t.l key=some i∧∃hi:i<t.l.length,r=(t.l[i].s,!t.l[i].gone)
theorem z0g {l:List YV}{key:ByteArray}{i:Nat}(h:zyb l key=some i):i<l.length:=by
 rw[zyb,List.findIdx?_eq_some_iff_getElem]at h
 exact h.1
section
variable {own own':Nat→Lab}{c:Nat}{w w':World}{p:Nat}{s:YS}{vL vT vG:Value}{sv lg:List Value}
variable {R:Ending→World→Prop}
set_option maxRecDepth 20000 in
set_option maxHeartbeats 1000000 in
theorem zds (h:YR own c w p s vL vT vG sv lg)(hl:s.l.length<1000000)(j:Nat)(hj:j<s.txs.length)(hx:(s.txs[j]).l.length<1000000)(g cap:Nat)(hv:vT = .slice (some ⟨g,0,none⟩) s.txs.length cap)(key:ByteArray)
  (hR:∀r w',z7m s (s.txs[j]) key r→Kp (λ_=>False) w w'→R (.returned (.tuple #[.string r.1,.bool r.2])) w') :
  Calls Tryz.prog 157 #[.pointer (some ⟨p,0,none⟩),.pointer (some ⟨g,j*3,none⟩),.string key] w R:=by
 have hsv:j<sv.length:=h.len ▸ hj
 obtain⟨g',cap',hv',k0,k1,k2,kf,hg⟩:=h.txAt j hj
 rw[hv]at hv';injection hv' with e1 e2 e3;injection e1 with e1;injection e1 with e1 _;subst e1;subst e3
 have hrow:=h.rowX j hj hsv
 have c0:w.cell? ⟨p,0,none⟩=some vL:=zg h.store 0
 have HRL:Hid _:=h.rowL
 have HR:Hid _:=hR
 have HL:Hid _:=hl
 have HX:Hid _:=hx
 have HROW:Hid (w.ownsRow 0 193 4 sv[j] (s.txs[j]).l.length (zo (s.txs[j]).l)):=hrow
 cases hi:zyb (s.txs[j]).l key with
 |none=>
  have HI:Hid _:=hi
  generalize hu:sv[j]=u at *
  clear hR h hl hx k0 kf hrow hv
  go_enter Tryz.func157,Tryz.ntmps157
  go_wp2_with (first
   |(go_at_call 159;refine zve g (j*3) key (s.txs[j]).l u w HX.out k2 HROW.out (λ_=>?_) (λi hi'=>by rw[HI.out]at hi';cases hi'))
   |go_in)
  have HRW:Hid (w.drew.ownsRow 0 193 4 vL s.l.length (zo s.l)):=zi HRL.out (Kp.drew (λ_=>False) _) (λ_ _ h=>h)
  clear hi
  go_region_with (go_at_call 152;refine z9m s.l vL (s.txs[j]).sees key _ HL.out HRW.out (λr w1 hr hk1=>?_))
  all_goals
   go_wp2_with fail
   go_ret2
   exact HR.out r w1 (Or.inl ⟨HI.out,hr⟩) ((Kp.drew (λ_=>False) _).trans hk1 (λ_ _ h=>h))
 |some i=>
  have hil:=z0g hi
  have HI:Hid _:=hi
  rcases zxh hrow with ⟨_,h0⟩|⟨gx,capx,hvs⟩
  ·rw[h0]at hil;simp at hil
  ·have hval:=hvs.val
   have q2:=hvs.c2 i hil
   have q3:=hvs.c3 i hil
   have hil':(i:Int)<(s.txs[j]).l.length:=by omega
   have hi0:(0:Int)≤i:=by omega
   have HR2:Hid _:=HR.out ((s.txs[j]).l[i].s,!(s.txs[j]).l[i].gone)
   have HS:Hid (z7m s (s.txs[j]) key ((s.txs[j]).l[i].s,!(s.txs[j]).l[i].gone)):=Or.inr ⟨i,hi,hil,rfl⟩
   rw[hval]at k2 HROW
   generalize (s.txs[j]).l[i].s=ss at q3 HR2 HS
   generalize (s.txs[j]).l[i].gone=gg at q2 HR2 HS
   generalize sv[j]=u at *
   clear hR h hl hx k0 kf hrow hv hi hvs hval
   go_enter Tryz.func157,Tryz.ntmps157
   go_wp2_with (first
    |(go_at_call 159;refine zve g (j*3) key (s.txs[j]).l _ w HX.out k2 HROW.out (λhn=>by rw[HI.out]at hn;cases hn) (λi' hi'=>?_);rw[HI.out]at hi';injection hi' with hi';subst hi')
    |go_in)
   go_quiet (fail)
   go_wp2_with fail
   exact HR2.out _ HS.out (Kp.drewN _ _ _)
end
end
section
open Go.RowKit
section
variable {own own':Nat→Lab}{c:Nat}{w w':World}{p:Nat}{s:YS}{vL vT vG:Value}{sv lg:List Value}
variable {R:Ending→World→Prop}
structure YB (s:YS):Prop where
 txs:s.txs.length<1000000000000
 l:s.l.length<1000000
 x:∀i (hi:i<s.txs.length),(s.txs[i]).l.length≤10
set_option maxRecDepth 20000 in
set_option maxHeartbeats 1000000 in
theorem zcq (h:YR own c w p s vL vT vG sv lg)(hB:YB s)(tx:Int)(key:ByteArray)(hkl:key.size≤maxLen)
  (h0:zab s tx=false→R (.returned (.tuple #[.string eb,.int .i64 2])) w)
  (h1:zab s tx=true→zu key=false→R (.returned (.tuple #[.string eb,.int .i64 1])) w)
  (h2:∀(j:Nat) (hj:j<s.txs.length) r,tx=(j:Int)+1→zab s tx=true→zu key=true→z7m s (s.txs[j]) key r→r.2=false→∀w',Kp (λ_=>False) w w'→R (.returned (.tuple #[.string eb,.int .i64 5])) w')
  (h3:∀(j:Nat) (hj:j<s.txs.length) r,tx=(j:Int)+1→zab s tx=true→zu key=true→z7m s (s.txs[j]) key r→r.2=true→∀w',Kp (λ_=>False) w w'→R (.returned (.tuple #[.string r.1,.int .i64 0])) w') :
  Calls Tryz.prog 103 #[.pointer (some ⟨p,0,none⟩),.int .i64 tx,.string key] w R:=by
 have H:Hid (YR own c w p s vL vT vG sv lg):=h
 have HN:Hid (s.txs.length<4611686018427387904):=by have:=hB.txs;show _<_;omega
 have HK:Hid _:=hkl
 have HB:Hid _:=hB
 cases ht:zab s tx with
 |false=>
  have HR:=h0 ht
  clear h h0 h1 h2 h3 hkl hB
  go_enter Tryz.func103,Tryz.ntmps103
  go_wp2_with (first
   |(go_at_call 156;refine zwc H.out HN.out tx ?_)
   |go_in)
  exact HR
 |true=>
  cases hb:zu key with
  |false=>
   have HR:=h1 ht hb
   clear h h0 h1 h2 h3 hkl hB
   go_enter Tryz.func103,Tryz.ntmps103
   go_wp2_with (first
    |(go_at_call 156;refine zwc H.out HN.out tx ?_)
    |(go_at_call 151;refine (z8b _ _ HK.out).mono ?_;rintro e w' ⟨rfl,rfl⟩)
    |go_in)
   exact HR
  |true=>
   obtain⟨j,rfl,hj,hov⟩:=z3m ht
   obtain⟨g,cap,hv,k0,k1,k2,kf,hg⟩:=h.txAt j hj
   have HR2:Hid _:=λr=>h2 j hj r rfl ht hb
   have HR3:Hid _:=λr=>h3 j hj r rfl ht hb
   have HV:Hid _:=hv
   have c3:w.cell? ⟨p,3,none⟩=some vT:=zg h.store 3
   rw[hv]at c3
   have hj1:(j:Int)<s.txs.length:=by omega
   have hj2:(j:Int)≤1000000000000:=by have:=hB.txs;omega
   have HT:Hid _:=ht
   clear h h0 h1 h2 h3 hkl hB k0 k1 k2 kf hg hv
   go_enter Tryz.func103,Tryz.ntmps103
   go_wp2_with (first
    |(go_at_call 156;refine zwc H.out HN.out _ ?_)
    |(go_at_call 151;refine (z8b _ _ HK.out).mono ?_;rintro e w' ⟨rfl,rfl⟩)
    |(go_at_call 157;refine zds H.out HB.out.l j hj (by have:=HB.out.x j hj;omega) g cap HV.out key (λr w1 hr hk1=>?_);obtain⟨r1,r2⟩:=r;have HSE:Hid _:=hr;clear hr;cases r2)
    |go_in)
   ·exact HR2.out _ HSE.out rfl w1 hk1
   ·exact HR3.out _ HSE.out rfl w1 hk1
end
end
end Go.Proofs.YthbdpfccfcceiaaGreatDoor
