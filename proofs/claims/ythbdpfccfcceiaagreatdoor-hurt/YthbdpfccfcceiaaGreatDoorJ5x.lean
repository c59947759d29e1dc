/-
  Of hurt_card.
-/
import Derived.Test.YthbdpfccfcceiaaGreatDoorO1x
set_option linter.all false
namespace Go.Proofs.YthbdpfccfcceiaaGreatDoor
set_option maxRecDepth 20000
set_option maxHeartbeats 4000000
open Go.Proofs.Tryz
variable {w:Z}{fn:Func}{p u:Tmp}
section
open Go.RowKit Go.Maps Go.Sort
def C5:(prog.info? 153).map (λi=>(i.zero,i.size,i.bytes))=some (some (.agg #[.string ⟨#[]⟩,.string ⟨#[]⟩,.bool false]),3,40):=by kernel_rfl
def WR (base:Nat)(w:Z)(v:D)(ws:List (Ac × Ac × Bool)):Prop:=w.ownsRow base 153 3 v ws.length (ws.flatMap iQ)
def vl:∀(ws:List (Ac × Ac × Bool)) (j:Nat) (x:Ac × Ac × Bool),ws[j]?=some x->(ws.flatMap iQ)[j*3]?=some (.string x.1)/\(ws.flatMap iQ)[j*3+1]?=some (.string x.2.1)/\(ws.flatMap iQ)[j*3+2]?=some (.bool x.2.2)
 |[],_,_,h=>by simp at h
 |y::r,0,x,h=>by simp at h;subst h;simp[List.flatMap_cons,iQ]
 |y::r,j+1,x,h=>by
  have f:r[j]?=some x:=by simpa using h
  have a:=vl r j x f;rw[List.flatMap_cons];have e:∀i,(iQ y++r.flatMap iQ)[3+i]?=(r.flatMap iQ)[i]?:=λi=>by rw[List.getElem?_append_right (by simp[iQ])];simp[iQ]
  refine⟨?_,?_,?_⟩
  .rw[show(j+1)*3=3+j*3 by omega,e];exact a.1
  .rw[show(j+1)*3+1=3+(j*3+1) by omega,e];exact a.2.1
  .rw[show(j+1)*3+2=3+(j*3+2) by omega,e];exact a.2.2
def WR.rd{base:Nat}{v:D}{ws:List (Ac × Ac × Bool)}(h:WR base w v ws):im w v ws:=by
 rcases h.2 with⟨rfl,o⟩|⟨g,cap,y,rfl,hb,P,r⟩
 .exact⟨none,0,by rw[o],λe=>bx (aA o) e⟩
 .refine⟨_,cap,rfl,λ_=>⟨g,rfl,λj x N=>?_⟩⟩;have a:=World.ownsRow.cells h (g:=g) rfl;obtain⟨B,C,M⟩:=vl ws j x N;have f:=a _ _ B;have a2:=a _ _ C;have l:=a _ _ M;rw[addr_add,ao]at f a2 l;exact⟨f,a2,l⟩
section
variable {R:Al}
structure GJ (w:Z)(t:Nat)(kv:D)(ks:List Ac)(wr:Z)(uv:D)(ws:List (Ac × Ac × Bool)):Prop where
 kp:An w wr
 box:wr.heap[w.heap.size+1]?=some (.cells #[.int .u8 67,Y t,uv] 110 (0,0))
 fD:wr.heap[w.heap.size]?=some (.cells #[.int .u8 0,Y 0,ae] 110 (0,0))
 row:WR (w.heap.size+2) wr uv ws
 keys:wr.ownsRow (w.heap.size+2) 9 1 kv ks.length (ks.map Value.string)
def O5 (pt mw n:Nat)(g:Ac->Option (Ac × Bool))(t:Nat)(w:Z)(c1:w.cell? ⟨pt,1,none⟩=some (.map (some mw)))(a1:cH w prog 9 mw n (encS λk=>(g k).map fg))(hn:n<=10)(bS:0<n)(b6:∀k,(g k).isSome=true->k.size<=8)(ht:t<=100000)
  (hR:∀w' wv ws,An w w'->wv.oneCell'=true->im w' wv ws->(ws.map Prod.fst).Pairwise blt->(∀x∈ws,g x.1=some x.2)->(∀k,(g k).isSome=true->k∈ws.map Prod.fst)->ws.length=n->(∀b,wv.ownBlock=some b->w.heap.size<=b)->
   R (.returned (.agg #[.int .u8 67,Y t,wv])) w') :
  Calls prog 72 #[ab pt,Y t] w R:=by
 have HR:=bR hR;have HM:=bR a1;have HN:=bR hn;have ce:=bR b6;have cb:=bR c1;have a4:=bH w _ c1;clear hR a1 hn b6
 go_enter func72,ntmps72
 go_upto_region 2 with fail
 have kA:An w ((w.alloc (.cells #[.int .u8 0,Y 0,ae] 110)).alloc (.cells #[.int .u8 67,Y t,ae] 110)):=(Kp.al _ _ _).trans (Kp.al _ _ _) (λ_ _ h=>h);have sA:((w.alloc (.cells #[.int .u8 0,Y 0,ae] 110)).alloc (.cells #[.int .u8 67,Y t,ae] 110)).heap.size=w.heap.size+2:=by simp
 have a8:((w.alloc (.cells #[.int .u8 0,Y 0,ae] 110)).alloc (.cells #[.int .u8 67,Y t,ae] 110)).heap[w.heap.size+1]?=some (.cells #[.int .u8 67,Y t,ae] 110 (0,0)):=by
  have h:=bI (w.alloc (.cells #[.int .u8 0,Y 0,ae] 110)) (.cells #[.int .u8 67,Y t,ae] 110);have e:(w.alloc (.cells #[.int .u8 0,Y 0,ae] 110)).heap.size=w.heap.size+1:=by simp
  rw[e]at h;exact h
 have a9:((w.alloc (.cells #[.int .u8 0,Y 0,ae] 110)).alloc (.cells #[.int .u8 67,Y t,ae] 110)).heap[w.heap.size]?=some (.cells #[.int .u8 0,Y 0,ae] 110 (0,0)):=by rw[Below.heap_alloc _ _ _ (by simp)];exact bI w _
 generalize (w.alloc (.cells #[.int .u8 0,Y 0,ae] 110)).alloc (.cells #[.int .u8 67,Y t,ae] 110)=A at kA sA a8 a9 ⊢;have cA:A.cell? ⟨pt,1,none⟩=some (.map (some mw)):=(kA.cell a4 (λe=>e)).trans c1;have cc:=bR (kA.cH HM.out (λe=>e));have KA:=bR kA;have SA:=bR sA;have b7:=bR a8;have cg:=bR a9;have bm:=bR bS;clear c1 kA sA a8 a9
 go_wp2_with (first
  |(go_at_call 127;refine(LS mw _).mono ?_;rintro e w1 ⟨rfl,rfl⟩)
  |(go_at_call 126;refine(P8 mw n _ A cc.out (by have:=HN.out;omega)).mono ?_;rintro e w2 ⟨kv,ks,rfl,b3,a3,bA,U,bw⟩;have cd:=bR b3;have am:=bR a3;have bp:=bR U;have a7:=bR bw;subst bA;obtain⟨gk,bq,dk,rfl,bv,_⟩:=iz U bm.out;clear b3 a3 U bw bv)
  |go_in)
 have d1:(ks.length:Int)<=10:=by have:=HN.out;omega
 have be:Hid (∀k∈ks,∃v,g k=some v):=λk W=>by have:=(am.out k).1 W;rw[iv,Option.isSome_map]at this;exact Option.isSome_iff_exists.1 this
 clear cA
 go_loopw [17] (λba wr=>∃(j:Nat) (uv:D),j<=ks.length/\ba = Y j/\GJ w t (ag gk ks.length bq) ks wr uv ((ks.take j).map λk=>(k,(g k).getD (eb,false)))) (λba _=>ks.length-(intOf ba).toNat)
 case atStart=>have kk:=KA.out.trans a7.out (λ_ _ h=>h);have hs:=SA.out;refine⟨0,ae,aZ _,rfl,kk,(a7.out.block _ (by omega) (λe=>e)).trans b7.out,(a7.out.block _ (by omega) (λe=>e)).trans cg.out,World.ownsRow_nil _ _ _ _,?_⟩;have:=bp.out;rw[SA.out]at this;exact this
 case round=>
  obtain⟨j,uv,hj,rfl,f⟩:=hrel
  by_cases cz:j<ks.length
  .obtain⟨k,W⟩:∃k,ks[j]?=some k:=⟨ks[j],aQ cz⟩;obtain⟨⟨val,M⟩,hv⟩:=be.out k (aI W);have cv:wr.cell? ⟨gk,j,none⟩=some (.string k):=ng f.keys j _ (by rw[bt,W];rfl);have a0:=bR (WideMaps.keyOf_string_mk underlying9 (show k.size<=maxLen by have:=ce.out k (by rw[hv];rfl);unfold maxLen;omega));have Q:=f.kp.cH HM.out (λe=>e);have cw:(Instr.lookup 130 (.map (some mw)) (.string k) false).run prog wr.drew = .ok (.agg #[.string val,.bool M]) wr.drew:=by have:=Q.drew.look false gS underlying130 (ux wr.drew) a0.out;rw[iv,hv]at this;simpa [fg]using this
   have cT:wr.cell? ⟨pt,1,none⟩=some (.map (some mw)):=(f.kp.cell a4 (λe=>e)).trans cb.out;have N:((ks.take j).map λk=>(k,(g k).getD (eb,false))).length=j:=by simp;omega
   have o:wr.ownsRow (w.heap.size+2) 153 3 uv j (((ks.take j).map λk=>(k,(g k).getD (eb,false))).flatMap iQ):=by have h:=f.row;unfold WR at h;rw[N]at h;exact h
   obtain⟨B,a,rfl⟩:=eM o;have cB:wr.cell? ⟨w.heap.size+1,2,none⟩=some (.slice B j a):=ct f.box 2;have ch:∀ob,(wr.alloc ob).cell? ⟨w.heap.size+1,2,none⟩=some (.slice B j a):=λob=>sJ cB ob
   have l:=bR f;have C:=bR o;have ds:(j:Int)<ks.length:=by omega
   obtain⟨i0,hi,c3,c7,dd⟩:=info_parts C5;have bf:Hid (j<=10):=by have:=HN.out;show _<=_;omega
   have bb:=bR (bX f.box);have cf:Hid ((ks.take (j+1)).map (λk=>(k,(g k).getD (eb,false)))=((ks.take j).map λk=>(k,(g k).getD (eb,false)))++[(k,val,M)]):=by obtain⟨cq,cr⟩:=ak.1 W;show _=_;rw[aE cq,bj,cr];simp[hv]
   clear f a0 Q N o hv W
   go_wp2_with fail
   go_region_law (refine Ay rfl _ _ 108 rfl (w.heap.size+2) 153 i0 (.agg #[.string ⟨#[]⟩,.string ⟨#[]⟩,.bool false]) 3 40 underlying108 hi c3 c7 dd rfl (by decide) (.slice B j a) j _ (by simp[Act.eval]) (dR C.out ((Kp.dr (λ_=>False) _).trans (Kp.al (λ_=>False) _ _) (λ_ _ h=>h)) (λ_ _ h=>h)) ⟨wr.heap.size,0,none⟩ 1 1 [.string k,.string val,.bool M] (by simp[Act.eval]) rfl (λi u hu=>by rw[addr_add,ao];exact(ct (bI wr.drew _) i).trans (by simpa using hu)) (by simp[Value.oneCell']) (by have:=bf.out;unfold maxLen;omega) (by have:=bf.out;omega) (by have:=bb.out;simp;omega) ?_;intro v' w3 r P bB;have bl:=bR r;have ad:Hid (Kp (λb=>(Value.slice B j a).ownBlock=some b) wr w3):=((Kp.dr (λb=>(Value.slice B j a).ownBlock=some b) wr).trans (Kp.al (λb=>(Value.slice B j a).ownBlock=some b) _ _) (λ_ _ h=>h)).trans (Kp.jh P (λ_ e=>e)) (λ_ _ h=>h);obtain⟨g3,an,de,rfl,cm,_⟩:=iz r (by omega);have y:w3.heap[w.heap.size+1]?=some (.cells #[.int .u8 67,Y t,.slice B j a] 110 (0,0)):=(ad.out.block _ bb.out (λe=>by have:=(C.out.lt _ e).1;omega)).trans l.out.box;have ca:=bR y;have q0:w3.cell? ⟨w.heap.size+1,2,none⟩=some (.slice B j a):=ct y 2;have q1:w3.frozen? ⟨w.heap.size+1,2,none⟩=false:=sY y 2;clear r P bB cm y)
   all_goals
    clear q0 q1 cw cT cB ch cv
    go_wp2_with fail
    refine⟨⟨j+1,ag g3 (j+1) an,by omega,by go_num,?_⟩,by simp[intOf];omega⟩;have dl:=(bl.out.lt g3 rfl).1;have k4:Kp (λb=>b=w.heap.size+1) w3 (w3.setCell ⟨w.heap.size+1,2,none⟩ (ag g3 (j+1) an)):=Kp.sc _ _ _ rfl;refine⟨?_,cZ ca.out _,?_,?_,?_⟩
    .exact(l.out.kp.trans ad.out (λb hb e=>by have:=(C.out.lt _ e).1;omega)).trans k4 (λb hb (e:b=w.heap.size+1)=>by omega)
    .have b5:w3.heap[w.heap.size]?=some (.cells #[.int .u8 0,Y 0,ae] 110 (0,0)):=(ad.out.block _ (bX l.out.fD) (λe=>by have:=(C.out.lt _ e).1;omega)).trans l.out.fD;exact(k4.block _ (bX b5) (by omega)).trans b5
    .rw[cf.out];unfold WR;rw[List.flatMap_append,aj,List.length_map,aw,Nat.min_eq_left (by omega)];exact dR bl.out k4 (λb e h=>by simp only[Value.ownBlock,aH]at e;omega)
    .have bv:=(l.out.keys.lt gk rfl).1;obtain⟨ck,ci⟩:=nc l.out.keys (b:=gk) rfl;exact dR (dR l.out.keys ad.out (λb e h=>by simp only[Value.ownBlock,aH]at e;subst e;obtain⟨cu,cl⟩:=nc C.out h;exact j5 ci cl (by decide) rfl)) k4 (λb e h=>by simp only[Value.ownBlock,aH]at e;omega)
  .have co:j=ks.length:=by omega
   subst co;have l:=bR f;have x0:wr.cell? ⟨w.heap.size+1,0,none⟩=some (.int .u8 67):=ct f.box 0;have x1:wr.cell? ⟨w.heap.size+1,1,none⟩=some (Y t):=ct f.box 1;have x2:wr.cell? ⟨w.heap.size+1,2,none⟩=some uv:=ct f.box 2;have y0:wr.cell? ⟨w.heap.size,0,none⟩=some (.int .u8 0):=ct f.fD 0;have y1:wr.cell? ⟨w.heap.size,1,none⟩=some (Y 0):=ct f.fD 1;have y2:wr.cell? ⟨w.heap.size,2,none⟩=some (ae):=ct f.fD 2;have z0:∀i,wr.frozen? ⟨w.heap.size,i,none⟩=false:=λi=>sY f.fD i
   have N:((ks.take ks.length).map λk=>(k,(g k).getD (eb,false))).length=ks.length:=by simp
   have o:wr.ownsRow (w.heap.size+2) 153 3 uv ks.length (((ks.take ks.length).map λk=>(k,(g k).getD (eb,false))).flatMap iQ):=by have h:=f.row;unfold WR at h;rw[N]at h;exact h
   obtain⟨B,a,rfl⟩:=eM o;clear f o N
   go_wp2_with fail
   have k4:Kp (λb=>b=w.heap.size) wr (((wr.setCell ⟨w.heap.size,0,none⟩ (.int .u8 67)).setCell ⟨w.heap.size,1,none⟩ (Y t)).setCell ⟨w.heap.size,2,none⟩ (.slice B ks.length a)):=((Kp.sc (S:=λb=>b=w.heap.size) _ _ _ rfl).trans (Kp.sc (S:=λb=>b=w.heap.size) _ _ _ rfl) (λ_ _ h=>h)).trans (Kp.sc (S:=λb=>b=w.heap.size) _ _ _ rfl) (λ_ _ h=>h);refine bodyPost_ret (results_cell_row rfl _ _ w.heap.size 110 #[.int .u8 67,Y t,.slice B ks.length a] (0,0) _ rfl ?_ underlying110 rfl (by kernel_rfl)) rfl ?_
   .exact cZ (cZ (cZ l.out.fD _) _) _
   refine HR.out _ (.slice B ks.length a) (ks.map λk=>(k,(g k).getD (eb,false))) ((l.out.kp).trans k4 (λb hb (e:b=w.heap.size)=>by omega)) rfl ?_ ?_ ?_ ?_ (by simp) ?_
   .have h:=l.out.row.rd;rw[List.take_length]at h;exact h.kp k4 (λb e h=>by have:=(l.out.row.lt b e).1;omega)
   .rw[List.map_map];have:(Prod.fst ∘ λk:Ac=>(k,(g k).getD (eb,false)))=id:=rfl;rw[this,List.map_id];exact cd.out
   .intro x hx;obtain⟨k,W,rfl⟩:=aK.1 hx;obtain⟨v,hv⟩:=be.out k W;simp[hv]
   .intro k W;rw[List.map_map];exact aK.2 ⟨k,(am.out k).2 (by rw[iv,Option.isSome_map];exact W),rfl⟩
   .intro b e;have:=(l.out.row.lt b e).1;omega
end
end
section
open Go.RowKit Go.Maps Go.Lib
def RS.writes (s:RS):Nat->List (Ac × Ac × Bool) × RS
 |0=>([],s)
 |n+1=>((s.writes n).1++[((s.writes n).2.key.1,(s.writes n).2.key.2.cE.1)],(s.writes n).2.key.2.cE.2)
def RS.xx (s:RS):∀n,(s.writes n).1.length=n
 |0=>rfl
 |n+1=>by simp[RS.writes,s.xx n]
def RS.vR (s:RS):s.key.2.bs.length<=s.bs.length:=by
 have h:=s.FT;unfold RS.key;dsimp only;split
 .exact h
 .exact h
def RS.Ga (s:RS):s.cE.2.bs.length<=s.bs.length:=by
 have h:=s.ji;have a:=s.one.2.FT;unfold RS.cE;split
 .dsimp only;split
  .omega
  .show s.one.2.text.2.bs.length<=_;omega
 .split
  .exact h
  .exact h
def RS.xw (s:RS):∀n,(s.writes n).2.bs.length<=s.bs.length
 |0=>aW _
 |n+1=>aX (aX (RS.Ga _) (RS.vR _)) (s.xw n)
section
variable {R:Al}
def Rx{ops:Am}{rest:List Oper}{o:Oper}{a:Act}{Q:Exit->Act->Z->Prop}(w:Z)(B:o.guard=none)(s x:Ae)
  (S:o.op = .call { callee:=.builtin .append,args:=#[s,x],argTypes:=#[108,108] })
  (base:Nat) (v:D) (n:Nat) (xs:List D) (U:a.eval s=v) (f:w.ownsRow base 153 3 v n xs) (g:Nat) (l r u3:D) (Y:a.eval x = ag g 1 1) (W:w.heap[g]?=some (.cells #[l,r,u3] 153 (0,0))) (h1:∀u∈[l,r,u3],u.oneCell'=true) (hl:n<=1000) (hb:base<=w.heap.size)
  (h:∀v' w',w'.ownsRow base 153 3 v' (n+1) (xs++[l,r,u3])->Kp (λb=>v.ownBlock=some b) w w'->(v'.ownBlock=v.ownBlock\/v'.ownBlock=some w.heap.size)->wpList prog ops Q rest (a.put o.dst v') w') :
  wpList prog ops Q (o::rest) a w:=by
 obtain⟨i0,P,C,M,N⟩:=info_parts C5;refine wpList_append_own_at _ B s x 108 S base 153 i0 (.agg #[.string ⟨#[]⟩,.string ⟨#[]⟩,.bool false]) 3 40 underlying108 P C M N rfl (by decide) v n xs U f ⟨g,0,none⟩ 1 1 [l,r,u3] Y rfl (λj y R=>?_) h1 (by unfold maxLen;omega) (by omega) hb (λv' w' r1 r2 _ r4=>h v' w' r1 (Kp.jh r2 (λ_ e=>e)) r4);rw[addr_add,ao,ct W];simpa using R
structure GK (w:Z)(r g:Nat)(s:RS)(k:Nat)(wr:Z)(v3 v:D):Prop where
 kp:Kp (λb=>b=r) w wr
 EE:dM wr r (s.writes k).2 v g
 row:wr.ownsRow w.heap.size 153 3 v3 k ((s.writes k).1.flatMap iQ)
def EH (r:Nat)(s:RS)(v:D)(g:Nat)(w:Z)(h:dM w r s v g)(hl:s.bs.length<=1100000)
  (hR:∀w' v' u,dM w' r (s.one.2.writes s.one.1).2 v' g->Kp (λb=>b=r) w w'->w'.ownsRow w.heap.size 153 3 u s.one.1 ((s.one.2.writes s.one.1).1.flatMap iQ)->R (.returned u) w') :
  Calls prog 207 #[ab r] w R:=by
 have a8:=bX h.blk;have a7:=h.lt;have H:=bR h;have HL:=bR hl;have HR:=bR hR;have HO:=bR s.ji;have N:(s.one.1:Int)<256:=by have:=s.qY;omega
 have HW:=bR s.one.2.xw;clear h hl hR
 go_enter func207,ntmps207
 go_wp2_with (first
  |(go_at_call 206;refine mn r s v g w H.out HL.out ?_;intro w1 v1 P B;have H1:=bR P;have U:=bR B;clear P B)
  |fail)
 generalize hn:s.one.1=n at HR N ⊢;clear hn
 go_loopw [3,7] (λv3 v7 wr=>∃(k:Nat) (v:D),k<=n/\v7 = Y k/\GK w r g s.one.2 k wr v3 v) (λ_ v7 _=>n-(intOf v7).toNat)
 case atStart=>exact⟨0,v1,aZ _,rfl,U.out,H1.out,World.ownsRow_nil _ _ _ _⟩
 case round=>
  obtain⟨k,v,hk,rfl,hM⟩:=hrel;have f:=bR hM;obtain⟨pu,j,rfl⟩:=eM hM.row;clear hM
  by_cases a3:k<n
  .have a4:(k:Int)<n:=by omega
   have am:Hid (k<=1000):=by show _<=_;omega
   clear hk
   go_wp2_with (first
    |(go_at_call 243;refine EW r (s.one.2.writes k).2 v g _ f.out.EE (by have:=HW.out k;have:=HO.out;have:=HL.out;omega) ?_;intro w2 v2 Q C;have H2:=bR Q;have W:=bR C;clear Q C)
    |(go_at_call 244;refine F8 r (s.one.2.writes k).2.key.2 v2 g _ H2.out (by have:=RS.vR (s.one.2.writes k).2;have:=HW.out k;have:=HO.out;have:=HL.out;omega) ?_;intro w3 v4 S M;have H3:=bR S;have l:Hid (Kp (λb=>b=r) wr w3):=W.out.trans M (λ_ _ h=>h);clear S M)
    |(at_builtin;refine Rx _ rfl _ _ rfl w.heap.size (.slice pu k j) k _ rfl (dR f.out.row (l.out.trans (Kp.al _ _ _) (λ_ _ h=>h)) (λb e (h:b=r)=>by have:=(f.out.row.lt b e).1;omega)) w3.heap.size _ _ _ rfl (bI w3 _) (by simp[Value.oneCell']) am.out (by have:=f.out.kp.size;have:=l.out.size;simp;omega) ?_;intro v5 w5 a o y;have an:=bR a;have ad:Hid (Kp (λb=>b=r\/(Value.slice pu k j).ownBlock=some b) wr w5):=((l.out.mono (λ_ _ h=>Or.inl h)).trans (Kp.al _ _ _) (λ_ _ h=>h)).trans o (λ_ _ h=>Or.inr h);have H5:=bR (show dM w5 r ((s.one.2.writes k).2.key.2.cE).2 v4 g from(H3.out.kp ((Kp.al (λb=>(Value.slice pu k j).ownBlock=some b) _ _).trans o (λ_ _ h=>h)) (λe=>by have:=(f.out.row.lt _ e).1;omega) (λe=>by have:=(f.out.row.lt _ e).1;omega)));obtain⟨a9,a0,rfl⟩:=eM a;clear a o y)
    |fail)
   go_roundw
   case rel=>
    refine⟨k+1,v4,by omega,by go_num,?_,?_,?_⟩
    .exact f.out.kp.trans ad.out (λb hb e=>e.elim id (λe=>by have:=(f.out.row.lt _ e).1;omega))
    .exact H5.out
    .show w5.ownsRow w.heap.size 153 3 _ (k+1) (((s.one.2.writes k).1++[((s.one.2.writes k).2.key.1,(s.one.2.writes k).2.key.2.cE.1)]).flatMap iQ);rw[List.flatMap_append];exact an.out
   case measure=>simp[intOf];omega
  .have a1:k=n:=by omega
   subst a1;have HF:=bR (HR.out _ v _ f.out.EE f.out.kp f.out.row);clear hk a3
   go_wp2_with fail
   exact HF.out
end
end
section
open Go.RowKit Go.Maps Go.Lib
section
variable {R:Al}
def vT (a b:Ac):Op.bytesLess a.toList b.toList=true↔blt a b:=by
 rw[bytesLess_eq,bC,Lib.toList_data,Lib.toList_data]
 rfl
def Ek {α:Type}{P:α->α->Prop}(ht:∀a b c,P a b->P b c->P a c):∀l:List α,(∀(i:Nat) a b,l[i]?=some a->l[i+1]?=some b->P a b)->l.Pairwise P
 |[],_=>List.Pairwise.nil
 |[a],_=>by simp
 |a::b::r,h=>by
  have j:=Ek ht (b::r) (λi x y o B=>h (i+1) x y (by simpa using o) (by simpa using B));refine List.pairwise_cons.2 ⟨λc g=>?_,j⟩;have f:=h 0 a b rfl rfl;rcases bE.1 g with rfl|g
  .exact f
  .exact ht _ _ _ f ((List.pairwise_cons.1 j).1 c g)
def NS{α:Type}{P:α->α->Prop}{l:List α}(h:l.Pairwise P)(i:Nat)(a b:α)(j:l[i]?=some a)(hb:l[i+1]?=some b):P a b:=by obtain⟨f,rfl⟩:=ak.1 j;obtain⟨g,rfl⟩:=ak.1 hb;exact List.pairwise_iff_getElem.1 h i (i+1) f g (by omega)
def Mr (u:D)(ws:List (Ac × Ac × Bool))(w:Z)(base:Nat)(h:WR base w u ws)(hl:ws.length<=1000)
  (hR:∀(b:Bool) w',(b=true↔(ws.map Prod.fst).Pairwise blt/\1<=ws.length/\ws.length<=10)->An w w'->R (.returned (.bool b)) w') :
  Calls prog 208 #[u] w R:=by
 by_cases h0:ws.length=0
 .have e:ws=[]:=aA h0;subst e;obtain⟨pu,cap,rfl⟩:=eM h;have o:=bR (hR false w (by simp) (Kp.refl _ _));clear h hR hl h0
  go_enter func208,ntmps208
  go_wp2_with fail
  go_loop [3] (λv3=>v3 = Y 1) (λ_=>0)
  case atStart=>rfl
  case round=>
   obtain rfl:=hrel
   go_wp2_with fail
   exact o.out
 .obtain⟨g,cap,a9,rfl,hg,U⟩:=iz h (by omega);have HW:=bR h;have HR:=bR hR;have HN:=bR h0;clear h hR hg U h0
  go_enter func208,ntmps208
  go_wp2_with fail
  go_loopw [3] (λv3 wr=>∃k:Nat,1<=k/\k<=ws.length/\v3 = Y k/\An w wr/\∀i a b,i+1<k->ws[i]?=some a->ws[i+1]?=some b->blt a.1 b.1) (λv3 _=>ws.length-(intOf v3).toNat)
  case atStart=>exact⟨1,aW _,by have:=HN.out;omega,rfl,Kp.refl _ _,λi a b hi=>by omega⟩
  case round=>
   obtain⟨k,bb,hk,rfl,ad,W⟩:=hrel;have M:=bR W;have l:=bR ad;clear W ad
   by_cases a3:k<ws.length
   .have a8:(k:Int)<ws.length:=by omega
    obtain⟨j,rfl⟩:∃j,k=j+1:=⟨k-1,by omega⟩;obtain⟨a,C⟩:∃a,ws[j]?=some a:=⟨ws[j],aQ (by omega)⟩;obtain⟨b,hb⟩:∃b,ws[j+1]?=some b:=⟨ws[j+1],aQ a3⟩;have r:=World.ownsRow.cells (dR HW.out l.out (λ_ _ e=>e)) (g:=g) rfl;have ca:wr.cell? ⟨g,j*3,none⟩=some (.string a.1):=by have:=r _ _ (vl ws j a C).1;rw[addr_add,ao]at this;exact this
    have cb:wr.cell? ⟨g,(j+1)*3,none⟩=some (.string b.1):=by have:=r _ _ (vl ws (j+1) b hb).1;rw[addr_add,ao]at this;exact this
    have HA:=bR C;have HB:=bR hb;clear r C hb;have hj:j<ws.length:=by omega
    have ba:(j:Int)<ws.length:=by omega
    have a4:(0:Int)<=(j:Int)+1:=by omega
    have a7:(j:Int)+1<ws.length:=by omega
    have e1:IntKind.i64.wrap (((j+1:Nat):Int)-1)=(j:Int):=by rw[show((j+1:Nat):Int)-1=(j:Int) by omega];exact bN _ (by omega)
    have e2:IntKind.i64.wrap ((j:Int)+1-1)=(j:Int):=by rw[show(j:Int)+1-1=(j:Int) by omega];exact bN _ (by omega)
    have e3:IntKind.i64.wrap (j:Int)=(j:Int):=bN _ (by omega)
    by_cases f:blt a.1 b.1
    .have S:Op.bytesLess a.1.toList b.1.toList=true:=(vT a.1 b.1).2 f;have am:=bR f;clear f
     go_wp2_with fail
     go_region_held3 (λw'=>w'.cell? ⟨g,j*3,none⟩=some (.string a.1)/\w'.cell? ⟨g,(j+1)*3,none⟩=some (.string b.1)) (go_keep) (fail)
     all_goals go_wp2_with fail
     all_goals go_roundw
     case rel=>
      refine⟨j+1+1,by omega,by omega,by go_num,l.out.trans (Kp.dr _ _) (λ_ _ h=>h),λi x y hi hx hy=>?_⟩
      by_cases a1:i=j
      .subst a1;obtain rfl:=aJ (HA.out.symm.trans hx);obtain rfl:=aJ (HB.out.symm.trans hy);exact am.out
      .exact M.out i x y (by omega) hx hy
     case measure=>simp[intOf];omega
    .have S:Op.bytesLess a.1.toList b.1.toList=false:=by rw[Bool.eq_false_iff];exactλe=>f ((vT a.1 b.1).1 e)
     have o:=bR (HR.out false wr.drew ⟨λe=>(by cases e),λe=>bx (NS e.1 j a.1 b.1 (by rw[bt,HA.out];rfl) (by rw[bt,HB.out];rfl)) f⟩ (l.out.trans (Kp.dr _ _) (λ_ _ h=>h)));clear f
     go_wp2_with fail
     go_region_held3 (λw'=>w'.cell? ⟨g,j*3,none⟩=some (.string a.1)/\w'.cell? ⟨g,(j+1)*3,none⟩=some (.string b.1)) (go_keep) (fail)
     all_goals go_wp2_with fail
     exact o.out
   .have a0:k=ws.length:=by omega
    subst a0;have B:(ws.map Prod.fst).Pairwise blt:=Ek (α:=Ac) (P:=blt) (λa b c h1 h2=>HY h1 h2) (ws.map Prod.fst) (λi a b C hb=>by rw[bt]at C hb;obtain⟨x,hx,rfl⟩:=aB.1 C;obtain⟨y,hy,rfl⟩:=aB.1 hb;exact M.out i x y (ak.1 hy).1 hx hy)
    by_cases N:ws.length<=10
    .have o:=bR (HR.out true wr (by simp[B,N];omega) l.out);have Q:(ws.length:Int)<=10:=by omega
     have an:(1:Int)<=ws.length:=by omega
     clear B hk
     go_wp2_with fail
     exact o.out
    .have o:=bR (HR.out false wr (by simp[N]) l.out);have Q:¬(ws.length:Int)<=10:=by omega
     have an:(1:Int)<=ws.length:=by omega
     clear B hk
     go_wp2_with fail
     exact o.out
end
end
section
open Go.RowKit Go.Maps Go.Lib
def dt (body:Aj):Nat × Nat × RS:=((⟨body,false⟩:RS).one.1,(⟨body,false⟩:RS).one.2.four.1,(⟨body,false⟩:RS).one.2.four.2)
def tU{f:Af}(h:fn.results=#[.cell p f,.tmp u])(tmps:Ak)(w:Z)(g:Nat)(cs:Ak)
  (hp:tmps.getD p undef = ab g) (hv:(loadVar f ⟨g,0,none⟩).run prog w = .ok (.agg cs) w) :
  (results fn tmps).run prog w = .ok (.tuple #[.agg cs,tmps.getD u undef]) w:=by
 have a:tmps[p]?.getD undef = ab g:=by simpa using hp
 simp[results,h,a,asAddr,hv]
def lF{g:Nat}{cs:Ak}{fr:Nat × Nat}(a:w.heap[g]?=some (.cells cs 110 fr))(f:cs.size=3):(loadVar 110 ⟨g,0,none⟩).run prog w = .ok (.agg cs) w:=
 run_loadVar_row w g 110 110 cs fr _ a underlying110 rfl (by rw[f];kernel_rfl)
section
variable {R:Al}
def RS.fy (s:RS):s.four.2.bs.length<=s.bs.length:=by
 show(s.take 4).2.bs.length<=_;unfold RS.take;split
 .exact aW _
 .show(s.bs.drop 4).length<=_;rw[aG];omega
def RS.ox (s:RS):s.four.1<4294967296:=by
 unfold RS.four;split
 .exact Dg _
 .omega
def OY (v:D)(body:Aj)(g:Nat)(w:Z)(h:cX w v body g)(hg:g<w.heap.size)(hl:body.length<=1100000)(hk:(dt body).1=72)
  (hR:∀w',An w w'->R (.returned (.tuple #[.agg #[.int .u8 72,Y ((dt body).2.1:Nat),ae],.bool (dt body).2.2.done])) w') :
  Calls prog 175 #[v] w R:=by
 obtain⟨o,cap,rfl,l,hc⟩:=h;have k0:=Kp.al (λ_=>False) w (.cells #[.int .u8 0,Y 0,ae] 110);have h0:cX (w.alloc (.cells #[.int .u8 0,Y 0,ae] 110)) (.slice (some ⟨g,o,none⟩) body.length cap) body g:=cX.kept ⟨o,cap,rfl,l,hc⟩ k0;have H1:=bR (ny h0 (aR hg k0.size));have K0:=bR k0;have a4:=bR hR;have HL:=bR hl;have b0:=bI w (.cells #[.int .u8 0,Y 0,ae] 110);have B0:=bR b0;have sA:(w.alloc (.cells #[.int .u8 0,Y 0,ae] 110)).heap.size=w.heap.size+1:=by simp
 have SA:=bR sA;have HK:Hid ((⟨body,false⟩:RS).one.1=72):=hk;clear h0 hR hl hc l k0 b0 hk hg sA
 go_enter func175,ntmps175
 generalize hA:w.alloc (.cells #[.int .u8 0,Y 0,ae] 110)=A at H1 K0 B0 SA ⊢;have HT:=bR (RS.ox (⟨body,false⟩:RS).one.2);have Q:wrap64 (((⟨body,false⟩:RS).one.2.four.1:Nat):Int)=(((⟨body,false⟩:RS).one.2.four.1:Nat):Int):=by have bf:IntKind.i64.wrap (((⟨body,false⟩:RS).one.2.four.1:Nat):Int)=(((⟨body,false⟩:RS).one.2.four.1:Nat):Int):=bN _ (by have:=HT.out;omega);exact IntWalk.i64_left _ ▸ bf
 have C:Hid (∀a j:Z,(A.alloc (.cells #[.slice (some ⟨g,o,none⟩) body.length cap,.bool false] 303)).heap.size<=a.heap.size->Kp (λb=>b=A.heap.size) (a.alloc (.cells #[.int .u8 72,Y 0,ae] 110)) j->j.heap[a.heap.size]?=some (.cells #[.int .u8 72,Y 0,ae] 110 (0,0))):=λa j hs hk=>by have hb:=bI a (.cells #[.int .u8 72,Y 0,ae] 110);simp at hs;exact(hk.block _ (bX hb) (λe=>by omega)).trans hb
 go_wp2_with (first
  |(go_at_call 144;refine mY _ _ _ _ ?_)
  |(go_at_call 206;refine mn _ ⟨body,false⟩ _ g _ H1.out HL.out ?_;intro a v1 B r;rw[HK.out];have a7:=bR B;have a1:=bR r;have N:=bR r.size;have kB:=Kp.al (λ_=>False) a (.cells #[.int .u8 72,.int .i64 0,.slice none 0 0] 110);have bB:=bI a (.cells #[.int .u8 72,.int .i64 0,.slice none 0 0] 110);have a0:=bR (B.kp kB (λe=>e) (λe=>e));have KB:=bR kB;have BB:=bR bB;clear B r kB bB)
  |(go_at_call 174;refine j8 _ (⟨body,false⟩:RS).one.2 v1 g _ a0.out (aX (RS.ji _) HL.out) ?_;intro j v2 U y;have a8:=bR U;have a3:=bR y;have b2:=C.out a j N.out y;have ba:j.cell? ⟨a.heap.size,0,none⟩=some (.int .u8 72):=ct b2 0;have bb:j.cell? ⟨a.heap.size,1,none⟩=some (.int .i64 0):=ct b2 1;have be:j.cell? ⟨a.heap.size,2,none⟩=some (.slice none 0 0):=ct b2 2;have f21:=dA b2 1;have am:=bR b2;clear U y b2)
  |fail)
 have ad:=N.out;simp at ad;have HR:Hid (∀w',An w w'->R (.returned (.tuple #[.agg #[.int .u8 72,Y ((⟨body,false⟩:RS).one.2.four.1:Nat),ae],.bool (⟨body,false⟩:RS).one.2.four.2.done])) w'):=a4.out;generalize bv:(⟨body,false⟩:RS).one.2.four.1=T at HR HT Q ⊢;clear ba bb be f21;have kS:Kp (λb=>b=a.heap.size) j (j.setCell ⟨a.heap.size,1,none⟩ (Y T)):=Kp.sc _ _ _ rfl;have P:(j.setCell ⟨a.heap.size,1,none⟩ (Y T)).heap[a.heap.size]?=some (.cells #[.int .u8 72,Y T,ae] 110 (0,0)):=cZ am.out _;rw[Q];generalize j.setCell ⟨a.heap.size,1,none⟩ (Y T)=W at kS P ⊢;have ka:Kp (λb=>b=A.heap.size\/b=a.heap.size) A W:=((((Kp.al _ _ _).trans a1.out (λ_ _ h=>Or.inl h)).trans (Kp.al _ _ _) (λ_ _ h=>h)).trans a3.out (λ_ _ h=>Or.inl h)).trans kS (λ_ _ h=>Or.inr h);have bl:=SA.out;have f:W.heap[w.heap.size]?=some (.cells #[.int .u8 0,Y 0,ae] 110 (0,0)):=(ka.block _ (bX B0.out) (λe=>by omega)).trans B0.out;have kw:An w W:=K0.out.trans ka (λb hb e=>by omega);have a9:=bR (a8.out.kp kS (λe=>by omega) (λe=>by have:=a7.out.lt;omega));have b5:W.cell? ⟨a.heap.size,0,none⟩=some (.int .u8 72):=ct P 0;have b6:W.cell? ⟨a.heap.size,1,none⟩=some (Y T):=ct P 1;have b7:W.cell? ⟨a.heap.size,2,none⟩=some (ae):=ct P 2;have bw:W.cell? ⟨w.heap.size,0,none⟩=some (.int .u8 0):=ct f 0;have bA:W.cell? ⟨w.heap.size,1,none⟩=some (Y 0):=ct f 1;have b3:W.cell? ⟨w.heap.size,2,none⟩=some (ae):=ct f 2;have bm:=dA f 0;have bp:=dA f 1;have bq:=dA f 2;have an:=bR f;have KW:=bR kw;have M:Hid ((⟨body,false⟩:RS).one.2.four.2.bs.length<=1100000):=aX (aX (RS.fy _) (RS.ji _)) HL.out;clear ka kS P ad bl f kw
 go_region_law (refine lO rfl 192 _ _ _ rfl func192 (by kernel_rfl) (by kernel_rfl) _ (by simp[Act.eval];rfl) ?_;refine sO _ (⟨body,false⟩:RS).one.2.four.2 v2 g _ (a9.out.kp (Kp.dr (λ_=>False) W) (λe=>e) (λe=>e)) M.out ?_;refine⟨_,rfl,?_⟩)
 all_goals
  go_wp2_with fail
  refine bodyPost_ret (tU rfl _ _ w.heap.size #[.int .u8 72,Y T,ae] rfl (lF (fr:=(0,0)) ?_ rfl)) rfl ?_
  .exact cZ (cZ (cZ (show W.drew.heap[w.heap.size]?=_ from an.out) _) _) _
  .refine HR.out _ ?_;refine(KW.out.trans (Kp.dr _ _) (λ_ _ h=>h)).trans (S':=λb=>b=w.heap.size) ?_ (λb hb e=>by omega);exact((Kp.sc (S:=λb=>b=w.heap.size) _ _ _ rfl).trans (Kp.sc (S:=λb=>b=w.heap.size) _ _ _ rfl) (λ_ _ h=>h)).trans (Kp.sc (S:=λb=>b=w.heap.size) _ _ _ rfl) (λ_ _ h=>h)
end
end
section
open Go.RowKit Go.Maps Go.Lib
section
variable {R:Al}
def OZ (v:D)(body:Aj)(g:Nat)(w:Z)(h:cX w v body g)(hg:g<w.heap.size)(hl:body.length<=1100000)(l:(dt body).1≠67)(j:(dt body).1≠72)
  (hR:∀w',An w w'->R (.returned (.tuple #[.agg #[.int .u8 0,Y 0,ae],.bool false])) w') :
  Calls prog 175 #[v] w R:=by
 obtain⟨o,cap,rfl,B,hc⟩:=h;have k0:=Kp.al (λ_=>False) w (.cells #[.int .u8 0,Y 0,ae] 110);have h0:cX (w.alloc (.cells #[.int .u8 0,Y 0,ae] 110)) (.slice (some ⟨g,o,none⟩) body.length cap) body g:=cX.kept ⟨o,cap,rfl,B,hc⟩ k0;have H1:=bR (ny h0 (aR hg k0.size));have K0:=bR k0;have a0:=bR hR;have HL:=bR hl;have b0:=bI w (.cells #[.int .u8 0,Y 0,ae] 110);have B0:=bR b0;have sA:(w.alloc (.cells #[.int .u8 0,Y 0,ae] 110)).heap.size=w.heap.size+1:=by simp
 have SA:=bR sA;obtain⟨k,W⟩:∃k,(⟨body,false⟩:RS).one.1=k:=⟨_,rfl⟩;have a3:=RS.qY (⟨body,false⟩:RS);have C:(⟨body,false⟩:RS).one.1≠67:=l;have M:(⟨body,false⟩:RS).one.1≠72:=j;rw[W]at a3 C M;have HK:=bR W;have b5:((k:Int) == 67)=false:=by simp;omega
 have b6:((k:Int) == 72)=false:=by simp;omega
 have e8:IntKind.u8.wrap (k:Int)=(k:Int):=by simp only[IntKind.wrap,IntKind.bits,IntKind.signed];simp;omega
 clear l j C M;clear h0 hR hl hc B k0 b0 W hg sA
 go_enter func175,ntmps175
 generalize hA:w.alloc (.cells #[.int .u8 0,Y 0,ae] 110)=A at H1 K0 B0 SA ⊢;have HT:=bR (RS.ox (⟨body,false⟩:RS).one.2);have bq:wrap64 (((⟨body,false⟩:RS).one.2.four.1:Nat):Int)=(((⟨body,false⟩:RS).one.2.four.1:Nat):Int):=by have a1:IntKind.i64.wrap (((⟨body,false⟩:RS).one.2.four.1:Nat):Int)=(((⟨body,false⟩:RS).one.2.four.1:Nat):Int):=bN _ (by have:=HT.out;omega);exact IntWalk.i64_left _ ▸ a1
 have U:Hid (∀a:Z,(A.alloc (.cells #[.slice (some ⟨g,o,none⟩) body.length cap,.bool false] 303)).heap.size<=a.heap.size->w.heap.size≠a.heap.size):=λa hs=>by have:=SA.out;simp at hs;omega
 have P:Hid (∀a f:Z,Kp (λb=>b=A.heap.size) (A.alloc (.cells #[.slice (some ⟨g,o,none⟩) body.length cap,.bool false] 303)) a->Kp (λb=>b=A.heap.size) (a.alloc (.cells #[.int .u8 (k:Int),Y 0,ae] 110)) f->f.heap[w.heap.size]?=some (.cells #[.int .u8 0,Y 0,ae] 110 (0,0))):=λa f l j=>by have hs:=SA.out;have ka:Kp (λb=>b=A.heap.size) A f:=(((Kp.al _ _ _).trans l (λ_ _ h=>h)).trans (Kp.al _ _ _) (λ_ _ h=>h)).trans j (λ_ _ h=>h);exact(ka.block _ (bX B0.out) (λe=>by omega)).trans B0.out
 have Q:Hid (∀a f:Z,(A.alloc (.cells #[.slice (some ⟨g,o,none⟩) body.length cap,.bool false] 303)).heap.size<=a.heap.size->Kp (λb=>b=A.heap.size) (a.alloc (.cells #[.int .u8 (k:Int),Y 0,ae] 110)) f->f.heap[a.heap.size]?=some (.cells #[.int .u8 (k:Int),Y 0,ae] 110 (0,0))):=λa f hs W=>by have hb:=bI a (.cells #[.int .u8 (k:Int),Y 0,ae] 110);simp at hs;exact(W.block _ (bX hb) (λe=>by omega)).trans hb
 go_wp2_with (first
  |(go_at_call 144;refine mY _ _ _ _ ?_)
  |(go_at_call 206;refine mn _ ⟨body,false⟩ _ g _ H1.out HL.out ?_;intro a v1 N l;rw[HK.out];have a9:=bR N;have S:=bR l;have r:=bR l.size;have kB:=Kp.al (λ_=>False) a (.cells #[.int .u8 (k:Int),.int .i64 0,.slice none 0 0] 110);have bB:=bI a (.cells #[.int .u8 (k:Int),.int .i64 0,.slice none 0 0] 110);have am:=bR (N.kp kB (λe=>e) (λe=>e));have KB:=bR kB;have BB:=bR bB;clear N l kB bB)
  |(go_at_call 174;refine j8 _ (⟨body,false⟩:RS).one.2 v1 g _ am.out (aX (RS.ji _) HL.out) ?_;intro f v2 ad j;have ba:=bR ad;have an:=bR j;have b2:=Q.out a f r.out j;have bl:f.cell? ⟨a.heap.size,0,none⟩=some (.int .u8 (k:Int)):=ct b2 0;have bm:f.cell? ⟨a.heap.size,1,none⟩=some (.int .i64 0):=ct b2 1;have bp:f.cell? ⟨a.heap.size,2,none⟩=some (.slice none 0 0):=ct b2 2;have f21:=dA b2 1;have a8:=bR b2;have y:=P.out a f S.out j;have bb:f.cell? ⟨w.heap.size,0,none⟩=some (.int .u8 0):=ct y 0;have be:f.cell? ⟨w.heap.size,1,none⟩=some (.int .i64 0):=ct y 1;have bf:f.cell? ⟨w.heap.size,2,none⟩=some (.slice none 0 0):=ct y 2;have bv:=dA y 0;have bw:=dA y 1;have bA:=dA y 2;have B3:=bR y;have nq:=U.out a r.out;have b7:a.heap.size≠w.heap.size:=λe=>nq e.symm;clear ad j b2 y)
  |fail)
 have a4:=U.out a r.out;have bS:=SA.out;refine bodyPost_ret (tU rfl _ _ w.heap.size #[.int .u8 0,Y 0,ae] rfl (lF (fr:=(0,0)) ?_ rfl)) rfl ?_
 .have kS:Kp (λb=>b=a.heap.size) f (f.setCell ⟨a.heap.size,1,none⟩ (Y ((⟨body,false⟩:RS).one.2.four.1:Nat))):=Kp.sc _ _ _ rfl;exact cZ (cZ (cZ ((kS.block _ (bX B3.out) a4).trans B3.out) _) _) _
 .refine a0.out _ ?_;have a7:=r.out;simp at a7;have ka:Kp (λb=>b=A.heap.size) A f:=(((Kp.al _ _ _).trans S.out (λ_ _ h=>h)).trans (Kp.al _ _ _) (λ_ _ h=>h)).trans an.out (λ_ _ h=>h);have kw:An w f:=K0.out.trans ka (λb hb (e:b=A.heap.size)=>by omega);refine kw.trans (S':=λb=>b=w.heap.size\/b=a.heap.size) ?_ (λb hb e=>by omega);exact(((Kp.sc _ _ _ (Or.inr rfl)).trans (Kp.sc _ _ _ (Or.inl rfl)) (λ_ _ h=>h)).trans (Kp.sc _ _ _ (Or.inl rfl)) (λ_ _ h=>h)).trans (Kp.sc _ _ _ (Or.inl rfl)) (λ_ _ h=>h)
end
end
section
open Go.RowKit Go.Maps Go.Lib
section
variable {R:Al}
def OW (v:D)(body:Aj)(g:Nat)(w:Z)(h:cX w v body g)(hg:g<w.heap.size)(hl:body.length<=1100000)(hk:(dt body).1=67)(b7:((dt body).2.2.one.2.writes (dt body).2.2.one.1).2.done=true)
  (hR:∀(b:Bool) w' u,(b=true↔((dt body).2.2.one.2.writes (dt body).2.2.one.1).2.done=true/\((((dt body).2.2.one.2.writes (dt body).2.2.one.1).1.map Prod.fst).Pairwise blt/\1<=(dt body).2.2.one.1/\(dt body).2.2.one.1<=10))->An w w'->WR w.heap.size w' u ((dt body).2.2.one.2.writes (dt body).2.2.one.1).1->
   R (.returned (.tuple #[.agg #[.int .u8 67,.int .i64 ((dt body).2.1:Nat),u],.bool b])) w') :
  Calls prog 175 #[v] w R:=by
 obtain⟨o,cap,rfl,Y,hc⟩:=h;have k0:=Kp.al (λ_=>False) w (.cells #[.int .u8 0,.int .i64 0,.slice none 0 0] 110);have h0:cX (w.alloc (.cells #[.int .u8 0,.int .i64 0,.slice none 0 0] 110)) (.slice (some ⟨g,o,none⟩) body.length cap) body g:=cX.kept ⟨o,cap,rfl,Y,hc⟩ k0;have H1:=bR (ny h0 (aR hg k0.size));have K0:=bR k0;have ck:=bR hR;have be:=bR b7;have HL:=bR hl;have b0:=bI w (.cells #[.int .u8 0,.int .i64 0,.slice none 0 0] 110);have B0:=bR b0;have sA:(w.alloc (.cells #[.int .u8 0,.int .i64 0,.slice none 0 0] 110)).heap.size=w.heap.size+1:=by simp
 have SA:=bR sA;have HK:Hid ((⟨body,false⟩:RS).one.1=67):=hk;clear h0 hR hl hc Y k0 b0 hk hg sA b7
 go_enter func175,ntmps175
 generalize hA:w.alloc (.cells #[.int .u8 0,.int .i64 0,.slice none 0 0] 110)=A at H1 K0 B0 SA ⊢;have HT:=bR (RS.ox (⟨body,false⟩:RS).one.2);have cr:wrap64 (((⟨body,false⟩:RS).one.2.four.1:Nat):Int)=(((⟨body,false⟩:RS).one.2.four.1:Nat):Int):=by have cu:IntKind.i64.wrap (((⟨body,false⟩:RS).one.2.four.1:Nat):Int)=(((⟨body,false⟩:RS).one.2.four.1:Nat):Int):=bN _ (by have:=HT.out;omega);exact IntWalk.i64_left _ ▸ cu
 have ba:Hid (∀f C:Z,(A.alloc (.cells #[.slice (some ⟨g,o,none⟩) body.length cap,.bool false] 303)).heap.size<=f.heap.size->Kp (λb=>b=A.heap.size) (f.alloc (.cells #[.int .u8 67,.int .i64 0,.slice none 0 0] 110)) C->C.heap[f.heap.size]?=some (.cells #[.int .u8 67,.int .i64 0,.slice none 0 0] 110 (0,0))):=λf C hs hk=>by have hb:=bI f (.cells #[.int .u8 67,.int .i64 0,.slice none 0 0] 110);simp at hs;exact(hk.block _ (bX hb) (λe=>by omega)).trans hb
 go_wp2_with (first
  |(go_at_call 144;refine mY _ _ _ _ ?_)
  |(go_at_call 206;refine mn _ ⟨body,false⟩ _ g _ H1.out HL.out ?_;intro f v1 a3 am;rw[HK.out];have bp:=bR a3;have ch:=bR am;have P:=bR am.size;have kB:=Kp.al (λ_=>False) f (.cells #[.int .u8 67,.int .i64 0,.slice none 0 0] 110);have bB:=bI f (.cells #[.int .u8 67,.int .i64 0,.slice none 0 0] 110);have cg:=bR (a3.kp kB (λe=>e) (λe=>e));have KB:=bR kB;have BB:=bR bB;clear a3 am kB bB)
  |(go_at_call 174;refine j8 _ (⟨body,false⟩:RS).one.2 v1 g _ cg.out (aX (RS.ji _) HL.out) ?_;intro C v2 cb an;have cl:=bR cb;have bl:=bR an;have b2:=ba.out f C P.out an;have bw:C.cell? ⟨f.heap.size,0,none⟩=some (.int .u8 67):=ct b2 0;have bA:C.cell? ⟨f.heap.size,1,none⟩=some (.int .i64 0):=ct b2 1;have b3:C.cell? ⟨f.heap.size,2,none⟩=some (.slice none 0 0):=ct b2 2;have f21:=dA b2 1;have a4:=bR b2;clear cb an b2)
  |(go_at_call 207;refine EH _ (⟨body,false⟩:RS).one.2.four.2 v2 g _ (cl.out.kp (Kp.sc (S:=λb=>b=f.heap.size) _ _ _ rfl) (λe=>by have h:=P.out;simp at h;omega) (λe=>by have:=bp.out.lt;omega)) (aX (aX (RS.fy _) (RS.ji _)) HL.out) ?_;intro w3 v3 u cc a0 r;have bq:=bR cc;have bm:=bR a0;have j:=bR r;obtain⟨y,a,rfl⟩:=eM r;have b4:w3.heap[f.heap.size]?=some (.cells #[.int .u8 67,.int .i64 ((⟨body,false⟩:RS).one.2.four.1:Nat),.slice none 0 0] 110 (0,0)):=(a0.block _ (bX (cZ a4.out _)) (λ(e:f.heap.size=A.heap.size)=>by have h:=P.out;simp at h;omega)).trans (cZ a4.out _);have co:w3.cell? ⟨f.heap.size,2,none⟩=some (.slice none 0 0):=ct b4 2;have f42:=dA b4 2;have B4:=bR b4;clear cc a0 r b4)
  |fail)
 have ce:=P.out;simp at ce;have cv:=SA.out;have HR:Hid (∀(b:Bool) w' u,(b=true↔((⟨body,false⟩:RS).one.2.four.2.one.2.writes (⟨body,false⟩:RS).one.2.four.2.one.1).2.done=true/\((((⟨body,false⟩:RS).one.2.four.2.one.2.writes (⟨body,false⟩:RS).one.2.four.2.one.1).1.map Prod.fst).Pairwise blt/\1<=(⟨body,false⟩:RS).one.2.four.2.one.1/\(⟨body,false⟩:RS).one.2.four.2.one.1<=10))->An w w'->WR w.heap.size w' u ((⟨body,false⟩:RS).one.2.four.2.one.2.writes (⟨body,false⟩:RS).one.2.four.2.one.1).1->
   R (.returned (.tuple #[.agg #[.int .u8 67,.int .i64 ((⟨body,false⟩:RS).one.2.four.1:Nat),u],.bool b])) w'):=ck.out
 have a1:=RS.qY (⟨body,false⟩:RS).one.2.four.2;have B:=bR (RS.xx (⟨body,false⟩:RS).one.2.four.2.one.2 (⟨body,false⟩:RS).one.2.four.2.one.1);have a8:Hid (((⟨body,false⟩:RS).one.2.four.2.one.2.writes (⟨body,false⟩:RS).one.2.four.2.one.1).2.bs.length<=1100000):=aX (RS.xw _ _) (aX (RS.ji _) (aX (aX (RS.fy _) (RS.ji _)) HL.out));clear bw bA b3 f21 co f42 cr;have bb:Hid (((⟨body,false⟩:RS).one.2.four.2.one.2.writes (⟨body,false⟩:RS).one.2.four.2.one.1).2.done=true):=be.out;generalize (⟨body,false⟩:RS).one.2.four.1=T at HR B4 bm j ⊢;generalize cw:(⟨body,false⟩:RS).one.2.four.2.one.2.writes (⟨body,false⟩:RS).one.2.four.2.one.1=ws at HR bq j B a8 bb;generalize (⟨body,false⟩:RS).one.2.four.2.one.1=n at HR j B a1 ⊢;have kX:Kp (λb=>b=f.heap.size) C (C.setCell ⟨f.heap.size,1,none⟩ (.int .i64 (T:Nat))):=Kp.sc _ _ _ rfl;have kS:Kp (λb=>b=f.heap.size) w3 (w3.setCell ⟨f.heap.size,2,none⟩ (.slice y n a)):=Kp.sc _ _ _ rfl;have bS:(w3.setCell ⟨f.heap.size,2,none⟩ (.slice y n a)).heap[f.heap.size]?=some (.cells #[.int .u8 67,.int .i64 (T:Nat),.slice y n a] 110 (0,0)):=cZ B4.out _;have k2:=bl.out.size;have cz:=kX.size;simp at k2;generalize w3.setCell ⟨f.heap.size,2,none⟩ (.slice y n a)=W at kS bS ⊢;have ka:Kp (λb=>b=A.heap.size\/b=f.heap.size) A W:=((((((Kp.al _ _ _).trans ch.out (λ_ _ h=>Or.inl h)).trans (Kp.al _ _ _) (λ_ _ h=>h)).trans bl.out (λ_ _ h=>Or.inl h)).trans kX (λ_ _ h=>Or.inr h)).trans bm.out (λ_ _ h=>Or.inl h)).trans kS (λ_ _ h=>Or.inr h);have b6:W.heap[w.heap.size]?=some (.cells #[.int .u8 0,.int .i64 0,.slice none 0 0] 110 (0,0)):=(ka.block _ (bX B0.out) (λe=>by omega)).trans B0.out;have kw:An w W:=K0.out.trans ka (λb hb e=>by omega);have cd:W.ownsRow w.heap.size 153 3 (.slice y n a) n (ws.1.flatMap iQ):=by have h:=dR j.out kS (λb e (h:b=f.heap.size)=>by have:=(j.out.lt b e).1;omega);exact⟨h.1,h.2.imp id (λ⟨g',b5,cq,e1,e2,e3⟩=>⟨g',b5,cq,e1,by omega,e3⟩)⟩
 have N:Hid (∀b,(Value.slice y n a).ownBlock=some b->w.heap.size<b):=λb e=>by have:=(j.out.lt b e).1;omega
 have bv:Hid (WR w.heap.size W (.slice y n a) ws.1):=by show WR _ _ _ _;unfold WR;rw[B.out];exact cd
 have cm:=bR (bq.out.kp kS (λe=>by omega) (λe=>by have:=bp.out.lt;omega));have dk:W.cell? ⟨f.heap.size,0,none⟩=some (.int .u8 67):=ct bS 0;have dl:W.cell? ⟨f.heap.size,1,none⟩=some (.int .i64 (T:Nat)):=ct bS 1;have ds:W.cell? ⟨f.heap.size,2,none⟩=some (.slice y n a):=ct bS 2;have a7:=bR b6;have a9:=bR bS;have KW:=bR kw;have ci:=bR a1;clear ka kS kX bS ce cv b6 kw cd k2 cz a1 cw
 by_cases hd:ws.2.done=true
 .go_region_with (first
   |(go_at_call 192;refine sO _ ws.2 v3 g _ (cm.out.kp (Kp.dr (λ_=>False) W) (λe=>e) (λe=>e)) a8.out ?_;rw[hd])
   |(go_at_call 208;refine Mr (.slice y n a) ws.1 _ w.heap.size (dR bv.out (Kp.dr (λ_=>False) W) (λ_ _ e=>e)) (by have:=B.out;have:=ci.out;omega) ?_;intro b U ad ca;have bf:=bR ad;have M:Hid (An W U):=(Kp.dr _ _).trans ca (λ_ _ h=>h);have Q:=(M.out.block _ (bX a9.out) (λe=>e)).trans a9.out;have l:=(M.out.block _ (bX a7.out) (λe=>e)).trans a7.out;clear ad ca;have bw:U.cell? ⟨f.heap.size,0,none⟩=some (.int .u8 67):=ct Q 0;have bA:U.cell? ⟨f.heap.size,1,none⟩=some (.int .i64 (T:Nat)):=ct Q 1;have b3:U.cell? ⟨f.heap.size,2,none⟩=some (.slice y n a):=ct Q 2;have cA:U.cell? ⟨w.heap.size,0,none⟩=some (.int .u8 0):=ct l 0;have cT:U.cell? ⟨w.heap.size,1,none⟩=some (.int .i64 0):=ct l 1;have c3:U.cell? ⟨w.heap.size,2,none⟩=some (.slice none 0 0):=ct l 2;have c7:=dA l 0;have dd:=dA l 1;have de:=dA l 2;have cf:=bR l;clear Q l))
  all_goals
   go_wp2_with fail
   refine bodyPost_ret (tU rfl _ _ w.heap.size #[.int .u8 67,.int .i64 (T:Nat),.slice y n a] rfl (lF (fr:=(0,0)) ?_ rfl)) rfl ?_
   .exact cZ (cZ (cZ cf.out _) _) _
   .have kF:Kp (λb=>b=w.heap.size) U (((U.setCell ⟨w.heap.size,0,none⟩ (.int .u8 67)).setCell ⟨w.heap.size,1,none⟩ (.int .i64 (T:Nat))).setCell ⟨w.heap.size,2,none⟩ (.slice y n a)):=((Kp.sc (S:=λb=>b=w.heap.size) _ _ _ rfl).trans (Kp.sc (S:=λb=>b=w.heap.size) _ _ _ rfl) (λ_ _ h=>h)).trans (Kp.sc (S:=λb=>b=w.heap.size) _ _ _ rfl) (λ_ _ h=>h);refine HR.out _ _ (.slice y n a) (by rw[bf.out,B.out];simp[hd]) ((KW.out.trans M.out (λ_ _ h=>h)).trans kF (λb hb (e:b=w.heap.size)=>by omega)) ?_;exact dR (dR bv.out M.out (λ_ _ e=>e)) kF (λb e (h:b=w.heap.size)=>by have:=(N.out b e);omega)
 .exact bx bb.out hd
end
end
section
open Go.RowKit Go.Maps Go.Lib
section
variable {R:Al}
def OX (v:D)(body:Aj)(g:Nat)(w:Z)(h:cX w v body g)(hg:g<w.heap.size)(hl:body.length<=1100000)(hk:(dt body).1=67)(bm:((dt body).2.2.one.2.writes (dt body).2.2.one.1).2.done=false)
  (hR:∀(b:Bool) w' u,(b=true↔((dt body).2.2.one.2.writes (dt body).2.2.one.1).2.done=true/\((((dt body).2.2.one.2.writes (dt body).2.2.one.1).1.map Prod.fst).Pairwise blt/\1<=(dt body).2.2.one.1/\(dt body).2.2.one.1<=10))->An w w'->WR w.heap.size w' u ((dt body).2.2.one.2.writes (dt body).2.2.one.1).1->
   R (.returned (.tuple #[.agg #[.int .u8 67,.int .i64 ((dt body).2.1:Nat),u],.bool b])) w') :
  Calls prog 175 #[v] w R:=by
 obtain⟨o,cap,rfl,P,hc⟩:=h;have k0:=Kp.al (λ_=>False) w (.cells #[.int .u8 0,.int .i64 0,.slice none 0 0] 110);have h0:cX (w.alloc (.cells #[.int .u8 0,.int .i64 0,.slice none 0 0] 110)) (.slice (some ⟨g,o,none⟩) body.length cap) body g:=cX.kept ⟨o,cap,rfl,P,hc⟩ k0;have H1:=bR (ny h0 (aR hg k0.size));have K0:=bR k0;have b6:=bR hR;have a7:=bR bm;have HL:=bR hl;have b0:=bI w (.cells #[.int .u8 0,.int .i64 0,.slice none 0 0] 110);have B0:=bR b0;have sA:(w.alloc (.cells #[.int .u8 0,.int .i64 0,.slice none 0 0] 110)).heap.size=w.heap.size+1:=by simp
 have SA:=bR sA;have HK:Hid ((⟨body,false⟩:RS).one.1=67):=hk;clear h0 hR hl hc P k0 b0 hk hg sA bm
 go_enter func175,ntmps175
 generalize hA:w.alloc (.cells #[.int .u8 0,.int .i64 0,.slice none 0 0] 110)=A at H1 K0 B0 SA ⊢;have HT:=bR (RS.ox (⟨body,false⟩:RS).one.2);have cf:wrap64 (((⟨body,false⟩:RS).one.2.four.1:Nat):Int)=(((⟨body,false⟩:RS).one.2.four.1:Nat):Int):=by have cg:IntKind.i64.wrap (((⟨body,false⟩:RS).one.2.four.1:Nat):Int)=(((⟨body,false⟩:RS).one.2.four.1:Nat):Int):=bN _ (by have:=HT.out;omega);exact IntWalk.i64_left _ ▸ cg
 have a3:Hid (∀f M:Z,(A.alloc (.cells #[.slice (some ⟨g,o,none⟩) body.length cap,.bool false] 303)).heap.size<=f.heap.size->Kp (λb=>b=A.heap.size) (f.alloc (.cells #[.int .u8 67,.int .i64 0,.slice none 0 0] 110)) M->M.heap[f.heap.size]?=some (.cells #[.int .u8 67,.int .i64 0,.slice none 0 0] 110 (0,0))):=λf M hs hk=>by have hb:=bI f (.cells #[.int .u8 67,.int .i64 0,.slice none 0 0] 110);simp at hs;exact(hk.block _ (bX hb) (λe=>by omega)).trans hb
 go_wp2_with (first
  |(go_at_call 144;refine mY _ _ _ _ ?_)
  |(go_at_call 206;refine mn _ ⟨body,false⟩ _ g _ H1.out HL.out ?_;intro f v1 an Y;rw[HK.out];have ba:=bR an;have b5:=bR Y;have N:=bR Y.size;have kB:=Kp.al (λ_=>False) f (.cells #[.int .u8 67,.int .i64 0,.slice none 0 0] 110);have bB:=bI f (.cells #[.int .u8 67,.int .i64 0,.slice none 0 0] 110);have b3:=bR (an.kp kB (λe=>e) (λe=>e));have KB:=bR kB;have BB:=bR bB;clear an Y kB bB)
  |(go_at_call 174;refine j8 _ (⟨body,false⟩:RS).one.2 v1 g _ b3.out (aX (RS.ji _) HL.out) ?_;intro M v2 bq ad;have b7:=bR bq;have a8:=bR ad;have b2:=a3.out f M N.out ad;have ca:M.cell? ⟨f.heap.size,0,none⟩=some (.int .u8 67):=ct b2 0;have cb:M.cell? ⟨f.heap.size,1,none⟩=some (.int .i64 0):=ct b2 1;have cc:M.cell? ⟨f.heap.size,2,none⟩=some (.slice none 0 0):=ct b2 2;have f21:=dA b2 1;have a0:=bR b2;clear bq ad b2)
  |(go_at_call 207;refine EH _ (⟨body,false⟩:RS).one.2.four.2 v2 g _ (b7.out.kp (Kp.sc (S:=λb=>b=f.heap.size) _ _ _ rfl) (λe=>by have h:=N.out;simp at h;omega) (λe=>by have:=ba.out.lt;omega)) (aX (aX (RS.fy _) (RS.ji _)) HL.out) ?_;intro w3 v3 u bv am y;have bb:=bR bv;have a9:=bR am;have j:=bR y;obtain⟨C,a,rfl⟩:=eM y;have b4:w3.heap[f.heap.size]?=some (.cells #[.int .u8 67,.int .i64 ((⟨body,false⟩:RS).one.2.four.1:Nat),.slice none 0 0] 110 (0,0)):=(am.block _ (bX (cZ a0.out _)) (λ(e:f.heap.size=A.heap.size)=>by have h:=N.out;simp at h;omega)).trans (cZ a0.out _);have cd:w3.cell? ⟨f.heap.size,2,none⟩=some (.slice none 0 0):=ct b4 2;have f42:=dA b4 2;have B4:=bR b4;clear bv am y b4)
  |fail)
 have bA:=N.out;simp at bA;have ch:=SA.out;have HR:Hid (∀(b:Bool) w' u,(b=true↔((⟨body,false⟩:RS).one.2.four.2.one.2.writes (⟨body,false⟩:RS).one.2.four.2.one.1).2.done=true/\((((⟨body,false⟩:RS).one.2.four.2.one.2.writes (⟨body,false⟩:RS).one.2.four.2.one.1).1.map Prod.fst).Pairwise blt/\1<=(⟨body,false⟩:RS).one.2.four.2.one.1/\(⟨body,false⟩:RS).one.2.four.2.one.1<=10))->An w w'->WR w.heap.size w' u ((⟨body,false⟩:RS).one.2.four.2.one.2.writes (⟨body,false⟩:RS).one.2.four.2.one.1).1->
   R (.returned (.tuple #[.agg #[.int .u8 67,.int .i64 ((⟨body,false⟩:RS).one.2.four.1:Nat),u],.bool b])) w'):=b6.out
 have bp:=RS.qY (⟨body,false⟩:RS).one.2.four.2;have U:=bR (RS.xx (⟨body,false⟩:RS).one.2.four.2.one.2 (⟨body,false⟩:RS).one.2.four.2.one.1);have Q:Hid (((⟨body,false⟩:RS).one.2.four.2.one.2.writes (⟨body,false⟩:RS).one.2.four.2.one.1).2.bs.length<=1100000):=aX (RS.xw _ _) (aX (RS.ji _) (aX (aX (RS.fy _) (RS.ji _)) HL.out));clear ca cb cc f21 cd f42 cf;have a4:Hid (((⟨body,false⟩:RS).one.2.four.2.one.2.writes (⟨body,false⟩:RS).one.2.four.2.one.1).2.done=false):=a7.out;generalize (⟨body,false⟩:RS).one.2.four.1=T at HR B4 a9 j ⊢;generalize ci:(⟨body,false⟩:RS).one.2.four.2.one.2.writes (⟨body,false⟩:RS).one.2.four.2.one.1=ws at HR bb j U Q a4;generalize (⟨body,false⟩:RS).one.2.four.2.one.1=n at HR j U bp ⊢;have kX:Kp (λb=>b=f.heap.size) M (M.setCell ⟨f.heap.size,1,none⟩ (.int .i64 (T:Nat))):=Kp.sc _ _ _ rfl;have kS:Kp (λb=>b=f.heap.size) w3 (w3.setCell ⟨f.heap.size,2,none⟩ (.slice C n a)):=Kp.sc _ _ _ rfl;have bS:(w3.setCell ⟨f.heap.size,2,none⟩ (.slice C n a)).heap[f.heap.size]?=some (.cells #[.int .u8 67,.int .i64 (T:Nat),.slice C n a] 110 (0,0)):=cZ B4.out _;have k2:=a8.out.size;have ck:=kX.size;simp at k2;generalize w3.setCell ⟨f.heap.size,2,none⟩ (.slice C n a)=W at kS bS ⊢;have ka:Kp (λb=>b=A.heap.size\/b=f.heap.size) A W:=((((((Kp.al _ _ _).trans b5.out (λ_ _ h=>Or.inl h)).trans (Kp.al _ _ _) (λ_ _ h=>h)).trans a8.out (λ_ _ h=>Or.inl h)).trans kX (λ_ _ h=>Or.inr h)).trans a9.out (λ_ _ h=>Or.inl h)).trans kS (λ_ _ h=>Or.inr h);have r:W.heap[w.heap.size]?=some (.cells #[.int .u8 0,.int .i64 0,.slice none 0 0] 110 (0,0)):=(ka.block _ (bX B0.out) (λe=>by omega)).trans B0.out;have kw:An w W:=K0.out.trans ka (λb hb e=>by omega);have bw:W.ownsRow w.heap.size 153 3 (.slice C n a) n (ws.1.flatMap iQ):=by have h:=dR j.out kS (λb e (h:b=f.heap.size)=>by have:=(j.out.lt b e).1;omega);exact⟨h.1,h.2.imp id (λ⟨g',bl,ce,e1,e2,e3⟩=>⟨g',bl,ce,e1,by omega,e3⟩)⟩
 have B:Hid (∀b,(Value.slice C n a).ownBlock=some b->w.heap.size<b):=λb e=>by have:=(j.out.lt b e).1;omega
 have bf:Hid (WR w.heap.size W (.slice C n a) ws.1):=by show WR _ _ _ _;unfold WR;rw[U.out];exact bw
 have be:=bR (bb.out.kp kS (λe=>by omega) (λe=>by have:=ba.out.lt;omega));have cv:W.cell? ⟨f.heap.size,0,none⟩=some (.int .u8 67):=ct bS 0;have cw:W.cell? ⟨f.heap.size,1,none⟩=some (.int .i64 (T:Nat)):=ct bS 1;have cz:W.cell? ⟨f.heap.size,2,none⟩=some (.slice C n a):=ct bS 2;have cq:W.cell? ⟨w.heap.size,0,none⟩=some (.int .u8 0):=ct r 0;have cr:W.cell? ⟨w.heap.size,1,none⟩=some (.int .i64 0):=ct r 1;have cu:W.cell? ⟨w.heap.size,2,none⟩=some (.slice none 0 0):=ct r 2;have cl:=dA r 0;have cm:=dA r 1;have co:=dA r 2;have a1:=bR r;have KW:=bR kw;clear ka kS kX bS bA ch r kw bw k2 ck bp ci;have hd:=a4.out;refine wp_region_any (by kernel_rfl) ?_
 change wpAny _ _ _ _ _ _ _ (World.drew _)
 refine wpAny_take (i:=1) (v:=?_) rfl (by kernel_rfl) (by kernel_rfl) (by kernel_rfl) (λ_ _ _ h=>h) (Or.inl ⟨by rfl,?_⟩) ?_
 rotate_left
 .intro w';go_simp
  first|done|with_reducible rfl
 refine wpAny_ready (rs:=[0,2]) (by kernel_rfl) (by simp) ?_;refine AllReady.cons rfl (λK l=>?_) (AllReady.cons rfl (λK l=>?_) AllReady.nil)
 .go_simp
  refine l _ _ ?_;clear l K;refine wpAny_ready (rs:=[2]) (by kernel_rfl) (by simp) ?_;refine AllReady.cons rfl (λK l=>?_) AllReady.nil;refine lO rfl 192 _ _ _ rfl func192 (by kernel_rfl) (by kernel_rfl) _ (by simp[Act.eval];rfl) ?_;refine sO _ ws.2 v3 g _ (be.out.kp (Kp.dr (λ_=>False) W) (λe=>e) (λe=>e)) Q.out ?_;rw[hd];refine⟨_,rfl,?_⟩;refine l _ _ ?_;clear l K
  try go_simp
  refine wpAny_take (i:=3) (v:=?_) rfl (by kernel_rfl) (by kernel_rfl) (by kernel_rfl) (λ_ _ _ h=>h) (Or.inl ⟨by rfl,?_⟩) ?_
  rotate_left
  .intro w';go_simp
   first|done|with_reducible rfl
  refine wpAny_take (i:=4) (v:=undef) rfl (by kernel_rfl) (by kernel_rfl) (by kernel_rfl) (λ_ _ _ h=>h) (Or.inr ⟨by rfl,rfl⟩) ?_;refine wpAny_take (i:=5) (v:=undef) rfl (by kernel_rfl) (by kernel_rfl) (by kernel_rfl) (λ_ _ _ h=>h) (Or.inr ⟨by rfl,rfl⟩) ?_;refine wpAny_take (i:=6) (v:=undef) rfl (by kernel_rfl) (by kernel_rfl) (by kernel_rfl) (λ_ _ _ h=>h) (Or.inr ⟨by rfl,rfl⟩) ?_;refine wpAny_take (i:=7) (v:=?_) rfl (by kernel_rfl) (by kernel_rfl) (by kernel_rfl) (λ_ _ _ h=>h) (Or.inl ⟨by rfl,?_⟩) ?_
  rotate_left
  .intro w';go_simp
   first|done|with_reducible rfl
  refine wpAny_ready (rs:=[8]) (by kernel_rfl) (by simp) ?_;refine AllReady.cons rfl (λK l=>?_) AllReady.nil
  go_simp
  refine l _ _ ?_;clear l K;refine wpAny_take (i:=9) (v:=?_) rfl (by kernel_rfl) (by kernel_rfl) (by kernel_rfl) (λ_ _ _ h=>h) (Or.inl ⟨by rfl,?_⟩) ?_
  rotate_left
  .intro w';go_simp
   first|done|with_reducible rfl
  refine wpAny_done (by kernel_rfl) ?_ _
  go_wp2_with fail
  refine bodyPost_ret (tU rfl _ _ w.heap.size #[.int .u8 67,.int .i64 (T:Nat),.slice C n a] rfl (lF (fr:=(0,0)) ?_ rfl)) rfl ?_
  .exact cZ (cZ (cZ (show W.drew.heap[w.heap.size]?=_ from a1.out) _) _) _
  .have kF:Kp (λb=>b=w.heap.size) W (((W.drew.setCell ⟨w.heap.size,0,none⟩ (.int .u8 67)).setCell ⟨w.heap.size,1,none⟩ (.int .i64 (T:Nat))).setCell ⟨w.heap.size,2,none⟩ (.slice C n a)):=(Kp.dr _ _).trans (((Kp.sc (S:=λb=>b=w.heap.size) _ _ _ rfl).trans (Kp.sc (S:=λb=>b=w.heap.size) _ _ _ rfl) (λ_ _ h=>h)).trans (Kp.sc (S:=λb=>b=w.heap.size) _ _ _ rfl) (λ_ _ h=>h)) (λ_ _ h=>h);refine HR.out false _ (.slice C n a) (by simp[hd]) (KW.out.trans kF (λb hb (e:b=w.heap.size)=>by omega)) ?_;exact dR bf.out kF (λb e (h:b=w.heap.size)=>by have:=(B.out b e);omega)
 .refine lO rfl 192 _ _ _ rfl func192 (by kernel_rfl) (by kernel_rfl) _ (by simp[Act.eval];rfl) ?_;refine sO _ ws.2 v3 g _ (be.out.kp (Kp.dr (λ_=>False) W) (λe=>e) (λe=>e)) Q.out ?_;rw[hd];refine⟨_,rfl,?_⟩;refine l _ _ ?_;clear l K
  try go_simp
  refine wpAny_take (i:=3) (v:=?_) rfl (by kernel_rfl) (by kernel_rfl) (by kernel_rfl) (λ_ _ _ h=>h) (Or.inl ⟨by rfl,?_⟩) ?_
  rotate_left
  .intro w';go_simp
   first|done|with_reducible rfl
  refine wpAny_take (i:=4) (v:=undef) rfl (by kernel_rfl) (by kernel_rfl) (by kernel_rfl) (λ_ _ _ h=>h) (Or.inr ⟨by rfl,rfl⟩) ?_;refine wpAny_take (i:=5) (v:=undef) rfl (by kernel_rfl) (by kernel_rfl) (by kernel_rfl) (λ_ _ _ h=>h) (Or.inr ⟨by rfl,rfl⟩) ?_;refine wpAny_take (i:=6) (v:=undef) rfl (by kernel_rfl) (by kernel_rfl) (by kernel_rfl) (λ_ _ _ h=>h) (Or.inr ⟨by rfl,rfl⟩) ?_;refine wpAny_take (i:=7) (v:=?_) rfl (by kernel_rfl) (by kernel_rfl) (by kernel_rfl) (λ_ _ _ h=>h) (Or.inl ⟨by rfl,?_⟩) ?_
  rotate_left
  .intro w';go_simp
   first|done|with_reducible rfl
  refine wpAny_ready (rs:=[0]) (by kernel_rfl) (by simp) ?_;refine AllReady.cons rfl (λK l=>?_) AllReady.nil
  go_simp
  refine l _ _ ?_;clear l K;refine wpAny_ready (rs:=[8]) (by kernel_rfl) (by simp) ?_;refine AllReady.cons rfl (λK l=>?_) AllReady.nil
  go_simp
  refine l _ _ ?_;clear l K;refine wpAny_take (i:=9) (v:=?_) rfl (by kernel_rfl) (by kernel_rfl) (by kernel_rfl) (λ_ _ _ h=>h) (Or.inl ⟨by rfl,?_⟩) ?_
  rotate_left
  .intro w';go_simp
   first|done|with_reducible rfl
  refine wpAny_done (by kernel_rfl) ?_ _
  go_wp2_with fail
  refine bodyPost_ret (tU rfl _ _ w.heap.size #[.int .u8 67,.int .i64 (T:Nat),.slice C n a] rfl (lF (fr:=(0,0)) ?_ rfl)) rfl ?_
  .exact cZ (cZ (cZ (show W.drew.heap[w.heap.size]?=_ from a1.out) _) _) _
  .have kF:Kp (λb=>b=w.heap.size) W (((W.drew.setCell ⟨w.heap.size,0,none⟩ (.int .u8 67)).setCell ⟨w.heap.size,1,none⟩ (.int .i64 (T:Nat))).setCell ⟨w.heap.size,2,none⟩ (.slice C n a)):=(Kp.dr _ _).trans (((Kp.sc (S:=λb=>b=w.heap.size) _ _ _ rfl).trans (Kp.sc (S:=λb=>b=w.heap.size) _ _ _ rfl) (λ_ _ h=>h)).trans (Kp.sc (S:=λb=>b=w.heap.size) _ _ _ rfl) (λ_ _ h=>h)) (λ_ _ h=>h);refine HR.out false _ (.slice C n a) (by simp[hd]) (KW.out.trans kF (λb hb (e:b=w.heap.size)=>by omega)) ?_;exact dR bf.out kF (λb e (h:b=w.heap.size)=>by have:=(B.out b e);omega)
end
end
section
open Go.RowKit Go.Maps Go.Lib
abbrev W3:=Ac × Ac × Bool
def pA (body:Aj):List W3 × RS:=(dt body).2.2.one.2.writes (dt body).2.2.one.1
def nU (body:Aj)(k t:Nat)(ws:List W3):Prop:=
 (k=72/\(dt body).1=72/\t=(dt body).2.1/\ws=[]/\(dt body).2.2.done=true)\/
 (k=67/\(dt body).1=67/\t=(dt body).2.1/\ws=(pA body).1/\(pA body).2.done=true/\(ws.map Prod.fst).Pairwise blt/\1<=ws.length/\ws.length<=10)
def Ia (body:Aj):(pA body).1.length=(dt body).2.2.one.1:=RS.xx _ _
section
variable {R:Al}
def EF (v:D)(body:Aj)(g:Nat)(w:Z)(h:cX w v body g)(r:g<w.heap.size)(y:body.length<=1100000)
  (h1:(∀k t ws,¬nU body k t ws)->∀w' (a b:Int) p n c,An w w'->R (.returned (.tuple #[.agg #[.int .u8 a,Y b,.slice p n c],.bool false])) w')
  (M:∀(k t:Nat) ws w' u,nU body k t ws->t<4294967296->(k=72->u = ae)->An w w'->WR w.heap.size w' u ws->R (.returned (.tuple #[.agg #[.int .u8 k,Y t,u],.bool true])) w') :
  Calls prog 175 #[v] w R:=by
 have ht:(dt body).2.1<4294967296:=RS.ox _
 by_cases C:(dt body).1=72
 .refine OY v body g w h r y C (λw' f=>?_);cases N:(dt body).2.2.done with
  |true=>exact M 72 _ [] w' _ (Or.inl ⟨rfl,C,rfl,rfl,N⟩) ht (λ_=>rfl) f (World.ownsRow_nil _ _ _ _)
  |false=>
   refine h1 (λk t ws o=>?_) w' _ _ _ _ _ f;rcases o with⟨_,_,_,_,e⟩|⟨_,e,_⟩
   .rw[N]at e;cases e
   .omega
 .by_cases B:(dt body).1=67
  .have fin:∀(b:Bool) w' u,(b=true↔((dt body).2.2.one.2.writes (dt body).2.2.one.1).2.done=true/\((((dt body).2.2.one.2.writes (dt body).2.2.one.1).1.map Prod.fst).Pairwise blt/\1<=(dt body).2.2.one.1/\(dt body).2.2.one.1<=10))->An w w'->WR w.heap.size w' u ((dt body).2.2.one.2.writes (dt body).2.2.one.1).1->R (.returned (.tuple #[.agg #[.int .u8 67,Y ((dt body).2.1:Nat),u],.bool b])) w':=by
    intro b w' u hb f P;have S:=Ia body;cases b with
    |true=>have j:=hb.1 rfl;exact M 67 _ (pA body).1 w' u (Or.inr ⟨rfl,B,rfl,rfl,j.1,j.2.1,by omega,by omega⟩) ht (λe=>by omega) f P
    |false=>
     obtain⟨U,Q,rfl⟩:=eM P;refine h1 (λk t ws o=>?_) w' _ _ _ _ _ f;rcases o with⟨_,e,_⟩|⟨_,_,_,rfl,e1,e2,e3,e4⟩
     .omega
     .have:=hb.2 ⟨e1,e2,by omega,by omega⟩;cases this
   cases l:((dt body).2.2.one.2.writes (dt body).2.2.one.1).2.done with
   |true=>exact OW v body g w h r y B l fin
   |false=>exact OX v body g w h r y B l fin
  .refine OZ v body g w h r y B C (λw' f=>h1 (λk t ws o=>?_) w' _ _ _ _ _ f);rcases o with⟨_,e,_⟩|⟨_,e,_⟩<;>omega
def lC (bs:Aj):Nat:=(bs.getD 0 0).toNat+256*(bs.getD 1 0).toNat
def lV (bs:Aj)(k t:Nat)(ws:List W3)(r:Aj):Prop:=
 2<=bs.length/\∃c,fe bs (2+lC bs)=some (c,r)/\nU (c.drop 2) k t ws
def rF{v:Tmp}{f:Af}(h:fn.results=#[.cell p f,.tmp u,.tmp v])(tmps:Ak)(w:Z)(g:Nat)(cs:Ak)
  (hp:tmps.getD p undef = ab g) (hv:(loadVar f ⟨g,0,none⟩).run prog w = .ok (.agg cs) w) :
  (results fn tmps).run prog w = .ok (.tuple #[.agg cs,tmps.getD u undef,tmps.getD v undef]) w:=by
 have a:tmps[p]?.getD undef = ab g:=by simpa using hp
 simp[results,h,a,asAddr,hv]
end
end
section
open Go.RowKit Go.Maps Go.Lib
section
variable {R:Al}
def pY:Ak:=#[.int .u8 0,Y 0,ae]
def Jm (g o cap n:Nat)(w:Z)(q:n<2)
  (f:∀w',An w w'->R (.returned (.tuple #[.agg pY,ae,.bool false])) w') :
  Calls prog 129 #[.slice (some ⟨g,o,none⟩) n cap] w R:=by
 have Q:(n:Int)<2:=by omega
 have b0:=bI w (.cells #[.int .u8 0,Y 0,ae] 110);have j:=Kp.al (λ_=>False) w (.cells #[.int .u8 0,Y 0,ae] 110);have l:=bR f;have B0:=bR b0;have a:=bR j;have r:Hid (w.heap.size<(w.alloc (.cells #[.int .u8 0,Y 0,ae] 110)).heap.size):=by show _<_;simp
 clear f q j b0
 go_enter func129,ntmps129
 generalize P:w.alloc (.cells #[.int .u8 0,Y 0,ae] 110)=A at B0 a r ⊢;have y:A.cell? ⟨w.heap.size,0,none⟩=some (.int .u8 0):=ct B0.out 0;have B:A.cell? ⟨w.heap.size,1,none⟩=some (Y 0):=ct B0.out 1;have C:A.cell? ⟨w.heap.size,2,none⟩=some (ae):=ct B0.out 2;have D:=dA B0.out 0;have M:=dA B0.out 1;have N:=dA B0.out 2
 go_wp2_with fail
 refine bodyPost_ret (rF rfl _ _ w.heap.size pY rfl (lF (fr:=(0,0)) ?_ rfl)) rfl ?_
 .exact cZ (cZ (cZ B0.out _) _) _
 .refine l.out _ (a.out.trans (S':=λb=>b=w.heap.size) ?_ (λb hb e=>by omega));exact((Kp.sc (S:=λb=>b=w.heap.size) _ _ _ rfl).trans (Kp.sc (S:=λb=>b=w.heap.size) _ _ _ rfl) (λ_ _ h=>h)).trans (Kp.sc (S:=λb=>b=w.heap.size) _ _ _ rfl) (λ_ _ h=>h)
def Jl (v:D)(bs:Aj)(g:Nat)(w:Z)(h:cX w v bs g)(hg:g<w.heap.size)(hT:db w)(hl:bs.length<=1100000)
  (h1:(∀k t ws r,¬lV bs k t ws r)->∀w',An w w'->R (.returned (.tuple #[.agg pY,ae,.bool false])) w')
  (h2:∀(k t:Nat) ws r w' u v',lV bs k t ws r->t<4294967296->(k=72->u = ae)->An w w'->WR w.heap.size w' u ws->cX w' v' r g->R (.returned (.tuple #[.agg #[.int .u8 k,Y t,u],v',.bool true])) w') :
  Calls prog 129 #[v] w R:=by
 obtain⟨o,cap,rfl,bS,hc⟩:=h
 by_cases q:bs.length<2
 .exact Jm g o cap _ w q (h1 (λk t ws r hh=>by have:=hh.1;omega))
 .have k0:=Kp.al (λ_=>False) w (.cells #[.int .u8 0,Y 0,ae] 110);have b0:=bI w (.cells #[.int .u8 0,Y 0,ae] 110);have h0:cX (w.alloc (.cells #[.int .u8 0,Y 0,ae] 110)) (.slice (some ⟨g,o,none⟩) bs.length cap) bs g:=cX.kept ⟨o,cap,rfl,bS,hc⟩ k0;have H0:=bR h0;have K0:=bR k0;have B0:=bR b0;have bm:=bR h1;have bA:=bR h2;have HT:=bR hT;have HL:=bR hl;have HG:=bR hg;have HQ:=bR q;have SA:Hid (w.heap.size<(w.alloc (.cells #[.int .u8 0,Y 0,ae] 110)).heap.size):=by show _<_;simp
  have q1:¬(bs.length:Int)<2:=by omega
  have q3:(1:Int)<bs.length:=by omega
  have q4:0<bs.length:=by omega
  have q5:1<bs.length:=by omega
  have b7:=(bs.getD 0 0).toNat_lt;have ca:=(bs.getD 1 0).toNat_lt;have HC:Hid (∀j,j<bs.length->(w.alloc (.cells #[.int .u8 0,Y 0,ae] 110)).cell? ⟨g,o+j,none⟩=some (b8 (bs.getD j 0))):=λj hj=>(k0.cell (a:=⟨g,o+j,none⟩) hg (λe=>e)).trans (hc j hj)
  have P:Hid (lC bs=(bs.getD 0 0).toNat+256*(bs.getD 1 0).toNat):=rfl;clear h1 h2 hT hl hg q h0 b0 k0 hc
  go_enter func129,ntmps129
  generalize hA:w.alloc (.cells #[.int .u8 0,Y 0,ae] 110)=A at B0 K0 SA H0 HC ⊢;have d0:=HC.out 0 q4;have d1:=HC.out 1 q5;rw[Nat.add_zero]at d0;unfold b8 at d0 d1;generalize (bs.getD 0 0).toNat=x at d0 b7 P;generalize (bs.getD 1 0).toNat=y at d1 ca P
  go_wp2_with fail
  go_region_held3 (λw'=>w'.cell? ⟨g,o,none⟩=some (.int .u8 (x:Int))/\w'.cell? ⟨g,o+1,none⟩=some (.int .u8 (y:Int))) (go_keep) (fail)
  all_goals go_wp2_with fail
  have en:(2+((x:Int)+(y:Int)*256))=((2+lC bs:Nat):Int):=by have:=P.out;omega
  have hn:2+lC bs<=100000:=by have:=P.out;omega
  generalize hN:2+lC bs=n at en hn;have HN:=bR hN;rw[en];clear en d0 d1 hA;generalize (x:Int)=x';generalize (y:Int)=y';have kD:=Kp.dr (λ_=>False) A;refine F0 _ bs g n A.drew (H0.out.kept kD) (aR HG.out (K0.out.trans kD (λ_ _ h=>h)).size) (HT.out.kept (K0.out.trans kD (λ_ _ h=>h))) hn HL.out ?_ ?_
  .intro e Q U;have k1:An A Q:=kD.trans U (λ_ _ h=>h);have b1:=(k1.block _ (bX B0.out) (λe=>e)).trans B0.out;have HF:=bR (bm.out (λk t ws r hh=>by obtain⟨_,c,h1,_⟩:=hh;rw[HN.out,e]at h1;cases h1))
   have K1:=bR (K0.out.trans k1 (λ_ _ h=>h));have B1:=bR b1;have a3:Q.cell? ⟨w.heap.size,0,none⟩=some (.int .u8 0):=ct b1 0;have a4:Q.cell? ⟨w.heap.size,1,none⟩=some (Y 0):=ct b1 1;have a7:Q.cell? ⟨w.heap.size,2,none⟩=some (ae):=ct b1 2;have a8:=dA b1 0;have a9:=dA b1 1;have ba:=dA b1 2;clear U k1 b1 e
   go_wp2_with fail
   refine bodyPost_ret (rF rfl _ _ w.heap.size pY rfl (lF (fr:=(0,0)) ?_ rfl)) rfl ?_
   .exact cZ (cZ (cZ B1.out _) _) _
   .refine HF.out _ (K1.out.trans (S':=λb=>b=w.heap.size) ?_ (λb hb e=>by omega));exact((Kp.sc (S:=λb=>b=w.heap.size) _ _ _ rfl).trans (Kp.sc (S:=λb=>b=w.heap.size) _ _ _ rfl) (λ_ _ h=>h)).trans (Kp.sc (S:=λb=>b=w.heap.size) _ _ _ rfl) (λ_ _ h=>h)
  .intro v1 v2 Q e b5 b6 U;obtain⟨o1,c1,rfl,ad,bb⟩:=b5;obtain⟨o2,c2,rfl,N,bq⟩:=b6;have b3:n+4<=bs.length:=by
    unfold fe at e;split at e
    .cases e
    .rename_i hq
     omega
   have l1:(bs.take n).length=n:=by rw[aw];omega
   obtain⟨n2,be⟩:∃n2,(bs.drop (n+4)).length=n2:=⟨_,rfl⟩;have bB:Hid (cX Q (.slice (some ⟨g,o2,none⟩) n2 c2) (bs.drop (n+4)) g):=⟨o2,c2,by rw[be],N,bq⟩;rw[l1]at ad bb;have k1:An A Q:=kD.trans U (λ_ _ h=>h);have cc:2<=n:=by have:=HN.out;omega
   obtain⟨body,l⟩:∃body,(bs.take n).drop 2=body:=⟨_,rfl⟩;have a1:=bR l;have HE:=bR e;have b1:=(k1.block _ (bX B0.out) (λe=>e)).trans B0.out;have B1:=bR b1;have K1:=bR (K0.out.trans k1 (λ_ _ h=>h));have S1:Hid (w.heap.size<Q.heap.size):=aR SA.out k1.size;have bv:Hid (g<Q.heap.size):=aR HG.out K1.out.size;have bw:Hid (body.length<=1100000):=by show _<=_;rw[<- l];have:=HL.out;simp;omega
   have cb:(2:Int)<=n:=by omega
   rw[l1,be]
   by_cases q5:c1=2
   .have q6:n=2:=by omega
    have HV:Hid (cX Q (.slice (some ⟨g,o1,none⟩) 0 0) body g):=l ▸ cX.vd 2 (by rw[l1];omega);clear l bb bq N U e b1 k1 b3 l1 be cb;subst q5;rw[q6]
    go_wp2_with (first
     |(go_at_call 175;refine EF _ body g Q HV.out bv.out bw.out ?_ ?_)
     |fail)
    .intro am B a b pu nu cu f;have b2:=(f.block _ (bX B1.out) (λe=>e)).trans B1.out;have bf:=bR (bm.out (λk t ws r hh=>by
      obtain⟨_,c,h1,h2⟩:=hh;rw[HN.out,HE.out]at h1;injection h1 with h1
      injection h1 with h1 _
      subst h1;rw[a1.out]at h2;exact am k t ws h2))
     have K2:=bR (K1.out.trans f (λ_ _ h=>h));have B2:=bR b2;have a3:B.cell? ⟨w.heap.size,0,none⟩=some (.int .u8 0):=ct b2 0;have a4:B.cell? ⟨w.heap.size,1,none⟩=some (Y 0):=ct b2 1;have a7:B.cell? ⟨w.heap.size,2,none⟩=some (ae):=ct b2 2;have a8:=dA b2 0;have a9:=dA b2 1;have ba:=dA b2 2;clear am f b2
     go_wp2_with fail
     refine bodyPost_ret (rF rfl _ _ w.heap.size pY rfl (lF (fr:=(0,0)) ?_ rfl)) rfl ?_
     .exact cZ (cZ (cZ (cZ (cZ (cZ B2.out _) _) _) _) _) _
     .refine bf.out _ (K2.out.trans (S':=λb=>b=w.heap.size) ?_ (λb hb e=>by omega));exact(((((Kp.sc (S:=λb=>b=w.heap.size) _ _ _ rfl).trans (Kp.sc (S:=λb=>b=w.heap.size) _ _ _ rfl) (λ_ _ h=>h)).trans (Kp.sc (S:=λb=>b=w.heap.size) _ _ _ rfl) (λ_ _ h=>h)).trans (Kp.sc (S:=λb=>b=w.heap.size) _ _ _ rfl) (λ_ _ h=>h)).trans (Kp.sc (S:=λb=>b=w.heap.size) _ _ _ rfl) (λ_ _ h=>h)).trans (Kp.sc (S:=λb=>b=w.heap.size) _ _ _ rfl) (λ_ _ h=>h)
    .intro k t ws B u M ht hu f hw;have b2:=(f.block _ (bX B1.out) (λe=>e)).trans B1.out;have C:lV bs k t ws (bs.drop (n+4)):=⟨by have:=HQ.out;omega,bs.take n,by rw[HN.out];exact HE.out,by rw[a1.out];exact M⟩;have an:∀b,u.ownBlock=some b->w.heap.size<b:=λb e=>by have h1:=(hw.lt b e).1;have h2:=K1.out.size;have:=S1.out;omega
     have a0:∀w',Kp (λb=>b=w.heap.size) B w'->WR w.heap.size w' u ws:=λw' k=>by have h:=dR hw k (λb e (h:b=w.heap.size)=>by have:=an b e;omega);exact⟨h.1,h.2.imp id (λ⟨g',W,bp,e1,e2,e3⟩=>⟨g',W,bp,e1,by have:=S1.out;omega,e3⟩)⟩
     obtain⟨pu,cu,rfl⟩:=eM hw;have bl:=bR (λw' (k':Kp (λb=>b=w.heap.size) B w')=>bA.out k t ws (bs.drop (n+4)) w' (.slice pu ws.length cu) (.slice (some ⟨g,o2,none⟩) n2 c2) C ht hu ((K1.out.trans f (λ_ _ h=>h)).trans k' (λb hb (e:b=w.heap.size)=>by omega)) (a0 w' k') ((bB.out.kept f).kp k' (λ(e:g=w.heap.size)=>by have:=HG.out;omega)));have B2:=bR b2;have a3:B.cell? ⟨w.heap.size,0,none⟩=some (.int .u8 0):=ct b2 0;have a4:B.cell? ⟨w.heap.size,1,none⟩=some (Y 0):=ct b2 1;have a7:B.cell? ⟨w.heap.size,2,none⟩=some (ae):=ct b2 2;have a8:=dA b2 0;have a9:=dA b2 1;have ba:=dA b2 2;clear M ht hu f hw b2 C an a0
     go_wp2_with fail
     refine bodyPost_ret (rF rfl _ _ w.heap.size #[.int .u8 k,Y t,.slice pu ws.length cu] rfl (lF (fr:=(0,0)) ?_ rfl)) rfl ?_
     .exact cZ (cZ (cZ (cZ (cZ (cZ B2.out _) _) _) _) _) _
     .refine bl.out _ ?_;exact(((((Kp.sc (S:=λb=>b=w.heap.size) _ _ _ rfl).trans (Kp.sc (S:=λb=>b=w.heap.size) _ _ _ rfl) (λ_ _ h=>h)).trans (Kp.sc (S:=λb=>b=w.heap.size) _ _ _ rfl) (λ_ _ h=>h)).trans (Kp.sc (S:=λb=>b=w.heap.size) _ _ _ rfl) (λ_ _ h=>h)).trans (Kp.sc (S:=λb=>b=w.heap.size) _ _ _ rfl) (λ_ _ h=>h)).trans (Kp.sc (S:=λb=>b=w.heap.size) _ _ _ rfl) (λ_ _ h=>h)
   .have HV:Hid (cX Q (.slice (some ⟨g,o1+2,none⟩) (n-2) (c1-2)) body g):=by have h:=cX.drop (w:=Q) (g:=g) (o:=o1) (bs:=bs.take n) (cap:=c1) (by rw[l1];exact ad) (by rw[l1];exact bb) 2 (by rw[l1];omega);rw[l1,l]at h;exact h
    clear l bb bq N U e b1 k1 b3 l1 be
    go_wp2_with (first
     |(go_at_call 175;refine EF _ body g Q HV.out bv.out bw.out ?_ ?_)
     |fail)
    .intro am B a b pu nu cu f;have b2:=(f.block _ (bX B1.out) (λe=>e)).trans B1.out;have bf:=bR (bm.out (λk t ws r hh=>by
      obtain⟨_,c,h1,h2⟩:=hh;rw[HN.out,HE.out]at h1;injection h1 with h1
      injection h1 with h1 _
      subst h1;rw[a1.out]at h2;exact am k t ws h2))
     have K2:=bR (K1.out.trans f (λ_ _ h=>h));have B2:=bR b2;have a3:B.cell? ⟨w.heap.size,0,none⟩=some (.int .u8 0):=ct b2 0;have a4:B.cell? ⟨w.heap.size,1,none⟩=some (Y 0):=ct b2 1;have a7:B.cell? ⟨w.heap.size,2,none⟩=some (ae):=ct b2 2;have a8:=dA b2 0;have a9:=dA b2 1;have ba:=dA b2 2;clear am f b2
     go_wp2_with fail
     refine bodyPost_ret (rF rfl _ _ w.heap.size pY rfl (lF (fr:=(0,0)) ?_ rfl)) rfl ?_
     .exact cZ (cZ (cZ (cZ (cZ (cZ B2.out _) _) _) _) _) _
     .refine bf.out _ (K2.out.trans (S':=λb=>b=w.heap.size) ?_ (λb hb e=>by omega));exact(((((Kp.sc (S:=λb=>b=w.heap.size) _ _ _ rfl).trans (Kp.sc (S:=λb=>b=w.heap.size) _ _ _ rfl) (λ_ _ h=>h)).trans (Kp.sc (S:=λb=>b=w.heap.size) _ _ _ rfl) (λ_ _ h=>h)).trans (Kp.sc (S:=λb=>b=w.heap.size) _ _ _ rfl) (λ_ _ h=>h)).trans (Kp.sc (S:=λb=>b=w.heap.size) _ _ _ rfl) (λ_ _ h=>h)).trans (Kp.sc (S:=λb=>b=w.heap.size) _ _ _ rfl) (λ_ _ h=>h)
    .intro k t ws B u M ht hu f hw;have b2:=(f.block _ (bX B1.out) (λe=>e)).trans B1.out;have C:lV bs k t ws (bs.drop (n+4)):=⟨by have:=HQ.out;omega,bs.take n,by rw[HN.out];exact HE.out,by rw[a1.out];exact M⟩;have an:∀b,u.ownBlock=some b->w.heap.size<b:=λb e=>by have h1:=(hw.lt b e).1;have h2:=K1.out.size;have:=S1.out;omega
     have a0:∀w',Kp (λb=>b=w.heap.size) B w'->WR w.heap.size w' u ws:=λw' k=>by have h:=dR hw k (λb e (h:b=w.heap.size)=>by have:=an b e;omega);exact⟨h.1,h.2.imp id (λ⟨g',W,bp,e1,e2,e3⟩=>⟨g',W,bp,e1,by have:=S1.out;omega,e3⟩)⟩
     obtain⟨pu,cu,rfl⟩:=eM hw;have bl:=bR (λw' (k':Kp (λb=>b=w.heap.size) B w')=>bA.out k t ws (bs.drop (n+4)) w' (.slice pu ws.length cu) (.slice (some ⟨g,o2,none⟩) n2 c2) C ht hu ((K1.out.trans f (λ_ _ h=>h)).trans k' (λb hb (e:b=w.heap.size)=>by omega)) (a0 w' k') ((bB.out.kept f).kp k' (λ(e:g=w.heap.size)=>by have:=HG.out;omega)));have B2:=bR b2;have a3:B.cell? ⟨w.heap.size,0,none⟩=some (.int .u8 0):=ct b2 0;have a4:B.cell? ⟨w.heap.size,1,none⟩=some (Y 0):=ct b2 1;have a7:B.cell? ⟨w.heap.size,2,none⟩=some (ae):=ct b2 2;have a8:=dA b2 0;have a9:=dA b2 1;have ba:=dA b2 2;clear M ht hu f hw b2 C an a0
     go_wp2_with fail
     refine bodyPost_ret (rF rfl _ _ w.heap.size #[.int .u8 k,Y t,.slice pu ws.length cu] rfl (lF (fr:=(0,0)) ?_ rfl)) rfl ?_
     .exact cZ (cZ (cZ (cZ (cZ (cZ B2.out _) _) _) _) _) _
     .refine bl.out _ ?_;exact(((((Kp.sc (S:=λb=>b=w.heap.size) _ _ _ rfl).trans (Kp.sc (S:=λb=>b=w.heap.size) _ _ _ rfl) (λ_ _ h=>h)).trans (Kp.sc (S:=λb=>b=w.heap.size) _ _ _ rfl) (λ_ _ h=>h)).trans (Kp.sc (S:=λb=>b=w.heap.size) _ _ _ rfl) (λ_ _ h=>h)).trans (Kp.sc (S:=λb=>b=w.heap.size) _ _ _ rfl) (λ_ _ h=>h)).trans (Kp.sc (S:=λb=>b=w.heap.size) _ _ _ rfl) (λ_ _ h=>h)
end
end
end Go.Proofs.YthbdpfccfcceiaaGreatDoor
