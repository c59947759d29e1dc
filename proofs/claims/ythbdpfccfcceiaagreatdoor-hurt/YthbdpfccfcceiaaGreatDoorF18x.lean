/-
  Of hurt_card.
-/
import Derived.Test.YthbdpfccfcceiaaGreatDoorJ5x
set_option linter.all false
namespace Go.Proofs.YthbdpfccfcceiaaGreatDoor
set_option maxRecDepth 20000
set_option maxHeartbeats 2000000
open Go.Proofs.Tryz
variable {u v v':D}{ws:List W3}{d f k n t:Nat}{lv:List D}{o:Oper}{a:Act}{Q:Exit->Act->Z->Prop}{tx:Int}{l:Z}
section
open Go.RowKit Go.Maps Go.Lib
def Lu:(prog.info? 110).map (λi=>(i.zero,i.size,i.bytes))=some (some (.agg #[.int .u8 0,Y 0,ae]),3,40):=by kernel_rfl
structure dS where
 k:Nat
 t:Nat
 ws:List W3
 u:D
def dS.cells (r:dS):List D:=[.int .u8 r.k,Y r.t,r.u]
def kx:Aj->List dS->Aj->Prop
 |bs,[],rest=>bs=rest
 |bs,r::a,rest=>∃m,lV bs r.k r.t r.ws m/\kx m a rest
def kx.snoc {r:dS}{g:Aj}:∀{rs:List dS} {bs m:Aj},kx bs rs m->lV m r.k r.t r.ws g->kx bs (rs++[r]) g
 |[],bs,m,h,f=>by have h:bs=m:=h;subst h;exact⟨g,f,rfl⟩
 |a::rs,bs,m,⟨q,j,l⟩,f=>⟨q,j,kx.snoc l f⟩
def F3{bs c r:Aj}(h:fe bs n=some (c,r)):r.length+n+4=bs.length/\c=bs.take n/\r=bs.drop (n+4):=by
 unfold fe at h;split at h
 .cases h
 .rename_i g
  injection h with h
  injection h with f a
  refine⟨?_,f.symm,a.symm⟩;rw[<- a,aG];omega
def lV.len{bs r:Aj}(h:lV bs k t ws r):r.length<bs.length:=by obtain⟨_,c,a,_⟩:=h;have:=(F3 a).1;omega
structure jZ (base:Nat)(w:Z)(v:D)(l:List dS):Prop where
 row:w.ownsRow base 110 3 v l.length (l.flatMap dS.cells)
 wr:∀r∈l,WR base w r.u r.ws
 cJ:∀r∈l,r.k=72->r.u = ae
 lt:∀r∈l,r.t<4294967296
def Pk{w:Z}{base e size:Nat}{xs:List D}(h:w.ownsRow base e size v n xs)(r:w.ownsRow t k d v' f lv)(y:e≠k):∀b,v.ownBlock=some b->v'.ownBlock≠some b:=λb e1 e2=>by
 rcases h.2 with⟨rfl,rfl⟩|⟨g,cap,o,rfl,_,B,_⟩
 .cases e1
 .rcases r.2 with⟨rfl,rfl⟩|⟨C,j,l,rfl,_,a,_⟩
  .cases e2
  .cases e1;cases e2;rw[B]at a;injection a with a
   injection a with _ a
   exact y a
def jZ.kept{base:Nat}{w w':Z}{l:List dS}(h:jZ base w v l)(k:An w w'):jZ base w' v l:=
 ⟨dR h.row k (λ_ _ e=>e),λr a=>dR (h.wr r a) k (λ_ _ e=>e),h.cJ,h.lt⟩
def jZ.more{base:Nat}{w w':Z}{l:List dS}{r:dS}(h:jZ base w v l)(B:WR base w r.u r.ws)(o:r.k=72->r.u = ae)(y:r.t<4294967296)
  (k:Kp (λb=>v.ownBlock=some b) w w') (g:w'.ownsRow base 110 3 v' (l.length+1) (l.flatMap dS.cells++r.cells)):jZ base w' v' (l++[r]):=by
 have f:∀{u ws},WR base w u ws->WR base w' u ws:=λj=>dR j k (λb e e2=>Pk j h.row (by decide) b e e2)
 refine⟨?_,λx a=>?_,λx a=>?_,λx a=>?_⟩
 .rw[aj,List.flatMap_append];simpa using g
 .rcases aM.1 a with a|a
  .exact f (h.wr x a)
  .rw[au]at a;subst a;exact f B
 .rcases aM.1 a with a|a
  .exact h.cJ x a
  .rw[au]at a;subst a;exact o
 .rcases aM.1 a with a|a
  .exact h.lt x a
  .rw[au]at a;subst a;exact y
def WR.base{base:Nat}{w:Z}(h:WR base w u ws)(hb:n<=base):WR n w u ws:=
 ⟨h.1,h.2.imp id (λ⟨g,cap,a,e1,e2,e3⟩=>⟨g,cap,a,e1,aX hb e2,e3⟩)⟩
structure A0 (bs:Aj)(n:Nat)(l:List dS)(rest:Aj):Prop where
 num:gO bs=some n
 EM:kx (bs.drop 11) l rest
 le:l.length<=4
 stop:l.length<4->∀k t ws r,¬lV rest k t ws r
def Dl (v:D):Nat:=match v with | .slice _ n _=>n|_=>0
section
variable {R:Al}
def Rw{ops:Am}{rest:List Oper}(w:Z)(B:o.guard=none)(s x:Ae)
  (S:o.op = .call { callee:=.builtin .append,args:=#[s,x],argTypes:=#[114,114] })
  (base:Nat) (v:D) (n:Nat) (xs:List D) (U:a.eval s=v) (f:w.ownsRow base 110 3 v n xs) (g:Nat) (l r u3:D) (hx:a.eval x = ag g 1 1) (W:w.heap[g]?=some (.cells #[l,r,u3] 110 (0,0))) (h1:∀u∈[l,r,u3],u.oneCell'=true) (hl:n<=1000) (hb:base<=w.heap.size)
  (h:∀v' w',w'.ownsRow base 110 3 v' (n+1) (xs++[l,r,u3])->Kp (λb=>v.ownBlock=some b) w w'->wpList prog ops Q rest (a.put o.dst v') w') :
  wpList prog ops Q (o::rest) a w:=by
 obtain⟨i0,P,C,M,N⟩:=info_parts Lu;refine wpList_append_own_at _ B s x 114 S base 110 i0 (.agg #[.int .u8 0,Y 0,ae]) 3 40 underlying114 P C M N rfl (by decide) v n xs U f ⟨g,0,none⟩ 1 1 [l,r,u3] hx rfl (λj y R=>?_) h1 (by unfold maxLen;omega) (by omega) hb (λv' w' r1 r2 _ _=>h v' w' r1 (Kp.jh r2 (λ_ e=>e)));rw[addr_add,ao,ct W];simpa using R
def O0 (v:D)(bs:Aj)(g:Nat)(w:Z)(h:eS w v bs g)(hT:db w)(hl:bs.length<=1100000)
  (h1:gO bs=none->∀w',An w w'->R (.returned (.tuple #[Y 0,ae,.bool false])) w')
  (h2:∀(n:Nat) l rest v' w',A0 bs n l rest->An w w'->jZ w.heap.size w' v' l->R (.returned (.tuple #[Y n,v',.bool (decide (rest=[]))])) w') :
  Calls prog 75 #[v] w R:=by
 have H:=bR h;have HT:=bR hT;have HL:=bR hl;have H1:=bR h1;have H2:=bR h2;clear h hT hl h1 h2
 go_enter func75,ntmps75
 go_wp2_with (first
  |(go_at_call 128;refine Jk _ bs g _ H.out HT.out HL.out ?_ ?_)
  |fail)
 .intro e w1 y;have o:=bR (H1.out e w1 y);clear y e
  go_wp2_with fail
  refine bodyPost_ret (results_tmp3 rfl _ _ _) rfl ?_;exact o.out
 .intro n v1 w1 e hg a9 y;have HE:=bR e;have HG:=bR hg;have bm:=bR a9;have bl:=bR y;clear e hg a9 y
  go_wp2_with fail
  go_loopw [3,5] (λv3 v5 wr=>∃l rest,l.length<=4/\An w wr/\jZ w.heap.size wr v3 l/\cX wr v5 rest g/\kx (bs.drop 11) l rest/\rest.length<=bs.length) (λv3 _ _=>4-Dl v3)
  case atStart=>exact⟨[],bs.drop 11,by simp,bl.out,⟨World.ownsRow_nil _ _ _ _,λr hr=>(by cases hr),λr hr=>(by cases hr),λr hr=>(by cases hr)⟩,bm.out,rfl,by simp⟩
  case round=>
   obtain⟨l,rest,a0,hk,a1,bA,ba,bb⟩:=hrel;obtain⟨pu,cu,rfl⟩:=eM a1.row;obtain⟨o5,c5,rfl,N,P⟩:=bA;have bq:Hid (cX wr (.slice (some ⟨g,o5,none⟩) rest.length c5) rest g):=⟨o5,c5,rfl,N,P⟩;have HK:=bR hk;have a:=bR a1;have am:=bR ba;have a4:=bR bb;clear hk a1 ba bb N P
   by_cases q:l.length<4
   .have q':(l.length:Int)<4:=by omega
    have HQ:=bR q;have bf:Hid (g<wr.heap.size):=aR HG.out HK.out.size;clear q a0
    go_wp2_with (first
     |(go_at_call 129;refine Jl _ rest g wr bq.out bf.out (HT.out.kept HK.out) (aX a4.out HL.out) ?_ ?_)
     |fail)
    .intro a8 w2 f;have o:=bR (λw' (k:An w2 w')=>H2.out n l rest (.slice pu l.length cu) w' ⟨HE.out,am.out,Nat.le_of_lt HQ.out,λ_=>a8⟩ ((HK.out.trans f (λ_ _ h=>h)).trans k (λ_ _ h=>h)) ((a.out.kept f).kept k));clear a8 f;unfold pY
     by_cases j:rest=[]
     .have q1:rest.length=0:=by rw[j];rfl
      rw[show decide (rest=[])=true by simpa using j]at o;rw[q1];clear j
      go_wp2_with fail
      refine bodyPost_ret (results_tmp3 rfl _ _ _) rfl ?_;exact o.out _ (Kp.al _ _ _)
     .have q1:((rest.length:Int) == 0)=false:=by
       have:rest.length≠0:=λe=>j (aA e)
       simp;omega
      rw[show decide (rest=[])=false by simpa using j]at o;clear j
      go_wp2_with fail
      refine bodyPost_ret (results_tmp3 rfl _ _ _) rfl ?_;exact o.out _ (Kp.al _ _ _)
    .intro k t ws r w2 u v' U ht hu f hw bw;obtain⟨W,M,rfl⟩:=eM hw;obtain⟨o6,c6,rfl,Q,S⟩:=bw;have kA:=Kp.al (λ_=>False) w2 (.cells #[.int .u8 k,Y t,.slice W ws.length M] 110);have kB:=kA.trans (Kp.al (λ_=>False) _ (.cells #[.int .u8 k,Y t,.slice W ws.length M] 110)) (λ_ _ h=>h);have KB:=bR kB;have K2:=bR f;have HW:=bR (WR.base hw HK.out.size);have HU:=bR hu;have bv:=bR ht;have C:=bR U;have bp:Hid (cX w2 (.slice (some ⟨g,o6,none⟩) r.length c6) r g):=⟨o6,c6,rfl,Q,S⟩;have sA:(w2.alloc (.cells #[.int .u8 k,Y t,.slice W ws.length M] 110)).heap.size=w2.heap.size+1:=by simp
     have an:=bI (w2.alloc (.cells #[.int .u8 k,Y t,.slice W ws.length M] 110)) (.cells #[.int .u8 k,Y t,.slice W ws.length M] 110);rw[sA]at an;have be:=bR an;clear kA kB U ht hu f hw Q S sA an
     go_wp2_with (first
      |(at_builtin;refine Rw _ rfl _ _ rfl w.heap.size (.slice pu l.length cu) l.length _ rfl ((a.out.kept K2.out).kept KB.out).row (w2.heap.size+1) _ _ _ rfl be.out (by simp[Value.oneCell']) (by have:=HQ.out;omega) (HK.out.trans (K2.out.trans KB.out (λ_ _ h=>h)) (λ_ _ h=>h)).size ?_;intro v5 w5 B a7;have a3:=bR B;have ad:=bR a7;clear B a7)
      |fail)
     go_roundw
     case rel=>
      have k2:=K2.out.trans KB.out (λ_ _ h=>h);refine⟨l++[⟨k,t,ws,.slice W ws.length M⟩],r,by have:=HQ.out;simp;omega,?_,?_,?_,?_,?_⟩
      .exact(HK.out.trans k2 (λ_ _ h=>h)).trans ad.out (λb hb e=>by have:=(a.out.row.lt b e).1;omega)
      .exact((a.out.kept K2.out).kept KB.out).more (r:=⟨k,t,ws,.slice W ws.length M⟩) (dR HW.out KB.out (λ_ _ e=>e)) HU.out bv.out ad.out a3.out
      .exact(bp.out.kept KB.out).kp ad.out (λe=>by have:=(a.out.row.lt g e).1;have:=HG.out;omega)
      .exact kx.snoc (r:=⟨k,t,ws,.slice W ws.length M⟩) am.out C.out
      .have:=C.out.len;have:=a4.out;omega
     case measure=>obtain⟨p5,bB,rfl⟩:=eM a3.out;have:=HQ.out;simp[Dl];omega
   .have q':¬(l.length:Int)<4:=by omega
    have o:=bR (H2.out n l rest (.slice pu l.length cu) wr ⟨HE.out,am.out,a0,λh=>bx h q⟩ HK.out a.out);clear q a0
    by_cases j:rest=[]
    .have q1:rest.length=0:=by rw[j];rfl
     rw[show decide (rest=[])=true by simpa using j]at o;rw[q1];clear j
     go_wp2_with fail
     refine bodyPost_ret (results_tmp3 rfl _ _ _) rfl ?_;exact o.out
    .have q1:((rest.length:Int) == 0)=false:=by
      have:rest.length≠0:=λe=>j (aA e)
      simp;omega
     rw[show decide (rest=[])=false by simpa using j]at o;clear j
     go_wp2_with fail
     refine bodyPost_ret (results_tmp3 rfl _ _ _) rfl ?_;exact o.out
end
end
section
open Go.RowKit
def XE (own:Nat->da)(c:Nat)(w:Z)(p:Nat)(s:XS):Prop:=∃f ph g a pt h sl,XR own c w p s f ph g a pt h sl
section
variable {own own':Nat->da}{c:Nat}{w w':Z}{p:Nat}{s s':XS}{N M:Nat->Prop}
def XE.frame (h:XE own c w p s)(hb:∀b,b<w.heap.size->(own b).c=c->w'.heap[b]?=w.heap[b]?)(a:∀b,b<w.heap.size->(own b).c=c->own' b=own b):XE own' c w' p s:=by obtain⟨g,ph,j,f,pt,l,sl,h⟩:=h;exact⟨g,ph,j,f,pt,l,sl,h.frame hb a⟩
structure Ns (N:Nat->Prop)(own:Nat->da)(w:Z):Prop where
 out:∀b,N b->b<w.heap.size/\(own b).c≠2
 li:db w
 nC:fG own 2
def St (N:Nat->Prop)(w:Z)(p:Nat)(s:XS):Prop:=∃own,XE own 2 w p s/\Ns N own w
def St.read (h:St N w p s)(k:An w w')(j:∀b,M b->N b\/(w.heap.size<=b/\b<w'.heap.size)):St M w' p s:=by
 obtain⟨own,l,a⟩:=h;refine⟨λb=>if b<w.heap.size then own b else⟨0,9,0,eb⟩,l.frame (λb hb _=>k.block b hb (λe=>e)) (λb hb _=>by simp[hb]),λb hb=>?_,a.li.kept k,by unfold fG;simp only[a.li.lt.1,a.li.lt.2,if_true];exact a.nC⟩;rcases j b hb with g|⟨g,f⟩
 .have f:=a.out b g;have:=k.size;refine⟨by omega,?_⟩;simp only[f.1,if_true];exact f.2
 .refine⟨f,?_⟩;have:¬b<w.heap.size:=by omega
  simp[this]
def St.kept (h:St N w p s)(k:An w w'):St N w' p s:=h.read k (λ_ h=>Or.inl h)
def St.up (j:XE own 2 w p s)(a:Ns N own w)(k:Kp (λb=>(own b).c=2) w w')(f:∀b,b<w.heap.size->own' b=own b)(g:XE own' 2 w' p s'):St N w' p s'/\Kp (λb=>¬N b) w w':=by refine⟨⟨own',g,λb hb=>?_,a.li.kp k a.nC.1 a.nC.2,by unfold fG;rw[f 0 a.li.lt.1,f 1 a.li.lt.2];exact a.nC⟩,k.mono (λb _ e l=>(a.out b l).2 e)⟩;have h:=a.out b hb;have:=k.size;refine⟨by omega,?_⟩;rw[f b h.1];exact h.2
end
end
section
open Go.RowKit
section
variable {own:Nat->da}{c:Nat}{w w':Z}
variable {R:Al}
def Gv (s:Nat)(g:w'.heap[s]?=some (.map #[] 0))(j:w'.heap[s+1]?=some (.map #[] 0))(l:w'.heap[s+3]?=some (.map #[] 0))(o:w'.heap[s+4]?=some (.map #[] 0))
  (y:w'.heap[s+2]?=some (.cells #[.map (some s),.map (some (s+1))] 209 (0,0)))
  (C:w'.heap[s+5]?=some (.cells (zm (s+3) (s+2) (s+4)) 102 (0,0)))
  (M:own s=⟨c,3,0,eb⟩) (N:own (s+1)=⟨c,4,0,eb⟩) (P:own (s+2)=⟨c,2,0,eb⟩) (Q:own (s+3)=⟨c,1,0,eb⟩) (R:own (s+4)=⟨c,10,0,eb⟩) (S:own (s+5)=⟨c,0,0,eb⟩):XE own c w' (s+5) (dn (s+4)):=by
 have f:∀(k:Af) (b:Nat),w'.heap[b]?=some (.map #[] 0)->cH w' prog k b 0 (λ_=>none):=λk b hb=>by
  have B:=bX hb;have D:({ w' with heap:=w'.heap.extract 0 b }:Z).heap.size=b:=by simp;omega
  have h:=vu ({ w' with heap:=w'.heap.extract 0 b }:Z) prog k;have r:=bI ({ w' with heap:=w'.heap.extract 0 b }:Z) (.map #[] 0);rw[D]at h r;exact h.of_block (hb.trans r.symm)
 refine⟨s+3,s+2,s,s+1,λ_=>0,λ_=>0,λ_=>ae,S,Q,P,M,N,C,y,?_,?_,?_,?_,?_,?_,?_,?_,⟨λb e=>by simp[dn,Value.ownBlock]at e,World.ownsRow_nil _ _ _ _,λi v hv=>by simp[dn]at hv,λi v f hv=>by simp[dn]at hv⟩,⟨R,?_,λn b e=>(by cases e),λn b e=>(by cases e)⟩⟩
 .refine(show(encI λn=>((dn (s+4)).cx n).map λ_=>ab 0)=λ_=>none from ?_) ▸ f _ _ l
  funext v;unfold encI;split<;>rfl
 .intro n t e;cases e
 .intro n t e;cases e
 .intro n t e;cases e
 .refine(show(iu λk m=>((dn (s+4)).cE k m).map fg)=λ_=>none from ?_) ▸ f _ _ g
  funext v;unfold iu;split
  .split<;>rfl
  .rfl
 .refine(show(encS λk=>if(dn (s+4)).bU k=[]then none else some (ae))=λ_=>none from ?_) ▸ f _ _ j
  funext v;cases v<;>rfl
 .intro k a;exact bx rfl a
 .intro k a;exact bx rfl a
 .refine(show(encI λn=>((dn (s+4)).bk.un n).map λb=>ab b.pb)=λ_=>none from ?_) ▸ f _ _ o
  funext v;unfold encI;split<;>rfl
def KY (w:Z)(o:Obj):(w.alloc o).heap=w.heap.push o:=rfl
def DI (w:Z)(s:Nat)(g:w.heap.size=s)
  (f:∀a,An w a->a.heap.size=s+6->a.heap[s]?=some (.map #[] 0)->a.heap[s+1]?=some (.map #[] 0)->a.heap[s+3]?=some (.map #[] 0)->a.heap[s+4]?=some (.map #[] 0)->
   a.heap[s+2]?=some (.cells #[.map (some s),.map (some (s+1))] 209 (0,0))->
   a.heap[s+5]?=some (.cells (zm (s+3) (s+2) (s+4)) 102 (0,0))->R (.returned (.pointer (some ⟨s+5,0,none⟩))) a) :
  Calls prog 33 #[] w R:=by
 subst g;refine MS w (f _ ?_ (by simp) ?_ ?_ ?_ ?_ ?_ ?_)
 .exact(((((Kp.al _ _ _).trans (Kp.al (λ_=>False) _ _) (λ_ _ h=>h)).trans (Kp.al (λ_=>False) _ _) (λ_ _ h=>h)).trans (Kp.al (λ_=>False) _ _) (λ_ _ h=>h)).trans (Kp.al (λ_=>False) _ _) (λ_ _ h=>h)).trans (Kp.al (λ_=>False) _ _) (λ_ _ h=>h)
 all_goals
  simp only[KY,aq,Array.size_push]
  repeat (first|rw[if_pos (by omega)] | rw[if_neg (by omega)])
  exact if_pos trivial
def JL (w:Z)(a:db w)(j:∀w' p,∀mu,St (λb=>b<w.heap.size) w' p (dn mu)->An w w'->R (.returned (ab p)) w') :
  Calls prog 33 #[] w R:=by
 refine DI w _ rfl (λl f r b0 b1 b2 h g b4=>j l _ (w.heap.size+4) ⟨λb=>if b=w.heap.size then⟨2,3,0,eb⟩else if b=w.heap.size+1 then⟨2,4,0,eb⟩else if b=w.heap.size+2 then⟨2,2,0,eb⟩else if b=w.heap.size+3 then⟨2,1,0,eb⟩else if b=w.heap.size+4 then⟨2,10,0,eb⟩else if b=w.heap.size+5 then⟨2,0,0,eb⟩else⟨0,9,0,eb⟩,Gv w.heap.size b0 b1 b2 h g b4 (by simp) (by simp) (by simp) (by simp) (by simp) (by simp),λb hb=>⟨by omega,?_⟩,a.kept f,?_⟩ f)
 .rw[if_neg (by omega),if_neg (by omega),if_neg (by omega),if_neg (by omega),if_neg (by omega),if_neg (by omega)];simp
 .have o:=a.lt;unfold fG;simp only[];rw[if_neg (by omega),if_neg (by omega),if_neg (by omega),if_neg (by omega),if_neg (by omega),if_neg (by omega),if_neg (by omega),if_neg (by omega),if_neg (by omega),if_neg (by omega),if_neg (by omega),if_neg (by omega)];simp
end
end
section
open Go.RowKit Go.Maps Go.Lib
def gB (s:XS)(k t:Nat):Bool:=if k=72 then decide (s.cJ<(t:Int)) && decide ((t:Int)<=s.now)else decide ((t:Int)=s.now+1) && decide (s.now<2000)
section
variable {own own':Nat->da}{c:Nat}{w w':Z}{p:Nat}{s:XS}{mo ph mv mm:Nat}{pt mw:Int->Nat}{sl:Ac->D}
variable {R:Al}
def Gu (h:XR own c w p s mo ph mv mm pt mw sl)(S:0<=s.now/\s.now<=2000)(k t:Nat)(Q:k<256)(a:Option Addr)(n o:Nat)
  (C:∀w',An w w'->R (.returned (.bool (gB s k t))) w') :
  Calls prog 76 #[ab p,.agg #[.int .u8 k,Y t,.slice a n o]] w R:=by
 have B:=Kp.al (λ_=>False) w (.cells #[.int .u8 k,Y t,.slice a n o] 110);have y:=h.kept B;have c1:(w.alloc (.cells #[.int .u8 k,Y t,.slice a n o] 110)).cell? ⟨p,1,none⟩=some (Y s.cJ):=ct y.store 1;have c2:(w.alloc (.cells #[.int .u8 k,Y t,.slice a n o] 110)).cell? ⟨p,2,none⟩=some (Y s.now):=ct y.store 2;have r:=bI w (.cells #[.int .u8 k,Y t,.slice a n o] 110);have d0:(w.alloc (.cells #[.int .u8 k,Y t,.slice a n o] 110)).cell? ⟨w.heap.size,0,none⟩=some (.int .u8 k):=ct r 0;have d1:(w.alloc (.cells #[.int .u8 k,Y t,.slice a n o] 110)).cell? ⟨w.heap.size,1,none⟩=some (Y t):=ct r 1;have U:IntKind.i64.wrap (s.now+1)=s.now+1:=bN _ (by omega);have D:=bR C;have KA:=bR B;have fin:∀b:Bool,gB s k t=b->∀w',An (w.alloc (.cells #[.int .u8 k,Y t,.slice a n o] 110)) w'->R (.returned (.bool b)) w':=λb e w' N=>e ▸ D.out w' (KA.out.trans N (λ_ _ h=>h))
 have g:=bR fin;clear h C y B r fin;generalize M:w.alloc (.cells #[.int .u8 k,Y t,.slice a n o] 110)=A at c1 c2 d0 d1 g KA
 by_cases q:k=72
 .have P:((k:Int) == 72)=true:=by simp[q]
  by_cases f:s.cJ<(t:Int)
  .have e1:decide (s.cJ<(t:Int))=true:=by simpa using f
   by_cases j:(t:Int)<=s.now
   .have e2:decide ((t:Int)<=s.now)=true:=by simpa using j
    have l:=bR (g.out true (by simp[gB,q,f,j]));clear q f j
    go_enter func76,ntmps76
    go_wp2_with fail
    go_quiet (fail)
    all_goals go_wp2_with fail
    all_goals exact l.out _ (Kp.drewN _ _ _)
   .have e2:decide ((t:Int)<=s.now)=false:=by simpa using j
    have l:=bR (g.out false (by simp[gB,q,f,j]));clear q f j
    go_enter func76,ntmps76
    go_wp2_with fail
    go_quiet (fail)
    all_goals go_wp2_with fail
    all_goals exact l.out _ (Kp.drewN _ _ _)
  .have e1:decide (s.cJ<(t:Int))=false:=by simpa using f
   have l:=bR (g.out false (by simp[gB,q,f]));clear q f
   go_enter func76,ntmps76
   go_wp2_with fail
   go_quiet (fail)
   all_goals go_wp2_with fail
   all_goals exact l.out _ (Kp.drewN _ _ _)
 .have P:((k:Int) == 72)=false:=by simp;omega
  by_cases f:(t:Int)=s.now+1
  .have e1:((t:Int) == s.now+1)=true:=by simpa using f
   by_cases j:s.now<2000
   .have e2:decide (s.now<2000)=true:=by simpa using j
    have l:=bR (g.out true (by simp[gB,q,f,j]));clear q f j
    go_enter func76,ntmps76
    go_wp2_with fail
    go_quiet (fail)
    all_goals go_wp2_with fail
    all_goals exact l.out _ (Kp.drewN _ _ _)
   .have e2:decide (s.now<2000)=false:=by simpa using j
    have l:=bR (g.out false (by simp[gB,q,f,j]));clear q f j
    go_enter func76,ntmps76
    go_wp2_with fail
    go_quiet (fail)
    all_goals go_wp2_with fail
    all_goals exact l.out _ (Kp.drewN _ _ _)
  .have e1:((t:Int) == s.now+1)=false:=by simpa using f
   have l:=bR (g.out false (by simp[gB,q,f]));clear q f
   go_enter func76,ntmps76
   go_wp2_with fail
   go_quiet (fail)
   all_goals go_wp2_with fail
   all_goals exact l.out _ (Kp.drewN _ _ _)
end
end
section
open Go.RowKit Go.Maps
section
variable {own own':Nat->da}{c:Nat}{w w':Z}{p:Nat}{s:XS}{mo ph mv mm:Nat}{pt mw:Int->Nat}{sl:Ac->D}
variable {R:Al}
end
end
section
open Go.RowKit Go.Maps
structure kJ (wr:Ac->Option (Ac × Bool))(ws:List (Ac × Ac × Bool)):Prop where
 up:(ws.map Prod.fst).Pairwise blt
 at_:∀x∈ws,wr x.1=some x.2
 all:∀k,(wr k).isSome=true->k∈ws.map Prod.fst
def kJ.nodup {wr:Ac->Option (Ac × Bool)}{ws:List (Ac × Ac × Bool)}(h:kJ wr ws):(ws.map Prod.fst).Nodup:=by unfold List.Nodup;exact h.up.imp (λ{a b} f (e:a=b)=>Bt a (by rw[<- e]at f;exact f))
def kJ.eq {wr:Ac->Option (Ac × Bool)}{ws:List (Ac × Ac × Bool)}(h:kJ wr ws):eJ ws=wr:=by
 funext k
 cases e:wr k with
 |some v=>obtain⟨x,a,rfl⟩:=aK.1 (h.all k (by rw[e];rfl));rw[AV ws h.nodup x a,<- h.at_ x a,e]
 |none=>
  cases e2:eJ ws k with
  |none=>rfl
  |some v=>
   have g:(eJ ws k).isSome=true:=by rw[e2];rfl
   rw[AW,List.any_eq_true]at g;obtain⟨x,a,j⟩:=g;have f:x.1=k:=by simpa using j
   have:=h.at_ x a;rw[f,e]at this;cases this
def IR (s:XS)(t:XT)(left:D->Bool)(nv nm:Nat)(ws:List (Ac × Ac × Bool))(h:kJ t.wr ws):comm s ⟨0,eJ ws,0⟩ left nv nm=comm s t left nv nm:=by simp only[comm,h.eq]
def mI (s:XS)(wr:Ac->Option (Ac × Bool))(l:XL):Prop:=∃ws,kJ wr ws/\ws.length<=10/\l.lg=s.log.lg++[dg (s.now+1).toNat ws]/\l.sy=s.log.sy
def ye (lg:List (Aj))(b:Aj):bytesOf (cG lg)<=bytesOf (cG (lg++[b])):=by rw[ot,yb _ _ _ (λh=>yC h)];omega
section
variable {own own':Nat->da}{c:Nat}{w w':Z}{p:Nat}{s:XS}{mo ph mv mm:Nat}{pt mw:Int->Nat}{sl:Ac->D}
def KM (cx:Int->Option XT)(tx:Int)(pt:Int->Nat):rZ (encI λn=>(cx n).map λ_=>Value.pointer (some ⟨pt n,0,none⟩)) (Y tx) (encI λn=>((cN cx tx none) n).map λ_=>Value.pointer (some ⟨pt n,0,none⟩)):=by rw[Mp];exact BW _ _
variable {R:Al}
def O6 (pt mw n:Nat)(a:Ac->Option (Ac × Bool))(t:Int)(w:Z)(c1:w.cell? ⟨pt,1,none⟩=some (.map (some mw)))(g:cH w prog 9 mw n (encS λk=>(a k).map fg))(P:n<=10)(h:0<n)(j:∀k,(a k).isSome=true->k.size<=8)(ht:0<=t/\t<=100000)
  (N:∀w' f ws,An w w'->f.oneCell'=true->im w' f ws->kJ a ws->ws.length=n->(∀b,f.ownBlock=some b->w.heap.size<=b)->
   R (.returned (.agg #[.int .u8 67,Y t,f])) w') :
  Calls prog 72 #[ab pt,Y t] w R:=by
 obtain⟨m,rfl⟩:∃m:Nat,t=m:=⟨t.toNat,by omega⟩;exact O5 pt mw n a m w c1 g P h j (by omega) (λw' f ws l o r y B C D M=>N w' f ws l o r ⟨y,B,C⟩ D M)
def R3 (h:XR own c w p s mo ph mv mm pt mw sl)(Z:db w)(U:fG own c)(j:D)(ws:List (Ac × Ac × Bool))(l:j.oneCell'=true)(M:im w j ws)(y:ws≠[])(r:(ws.map Prod.fst).Nodup)(hn:ws.length<=10)(P:∀x∈ws,x.1.size<=8/\x.2.1.size<=20)(N:∀b,j.ownBlock=some b->(own b).c≠c)
  (hl:s.log.lg.length<=4999) (o:∀b∈s.log.lg,b.length<=400) (f:0<=s.now/\s.now<2000) (a:∀k,(s.bU k).length<1000000) (C:s.nv+10<1000000) (B:s.nm+10<1000000)
  (W:∀w' own' S Q nv' g,Kp (λb=>(own b).c=c) w w'->(∀b,b<w.heap.size->own' b=own b)->Q.lg=s.log.lg++[dg (s.now+1).toNat ws]->Q.sy=s.log.sy->nv'<=s.nv+ws.length->g<=s.nm+ws.length->
   XR own' c w' p (comm { s with log:=Q } ⟨0,eJ ws,0⟩ (λ_=>false) nv' g) mo ph mv mm pt mw S->R (.returned (.tuple #[])) w') :
  Calls prog 46 #[ab p,.agg #[.int .u8 67,Y (s.now+1),j]] w R:=by
 have e:((s.now+1).toNat:Int)=s.now+1:=by omega
 have:=Gs (R:=R) h Z U j ws l M y r hn P N hl o f a C B (s.now+1).toNat e W;rw[e]at this;exact this
def RY (h:XR own c w p s mo ph mv mm pt mw sl)(hT:db w)(hN:fG own c)(tx:Int)(cv:(Lit.int .i64 tx).wf=true)(t:XT)(e:s.cx tx=some t)(bw:0<t.nw)(an:t.nw<=10)(y:∀k,(t.wr k).isSome=true->k.size<=8)(C:∀k v,t.wr k=some v->v.1.size<=20)(Z:∀k,(s.bU k).length<1000000)(bS:¬wu s t)(l:0<=s.now/\s.now<2000)
  (bv:s.nv+10<1000000) (bq:s.nm+10<1000000) (hl:s.log.lg.length<=4999) (be:∀b∈s.log.lg,b.length<=400)
  (hR:∀w' own' cz nv' b7 l' ws,Kp (λb=>(own b).c=c) w w'->(∀b,b<w.heap.size->own' b=own b)->nv'<=s.nv+t.nw->b7<=s.nm+t.nw->kJ t.wr ws->ws.length=t.nw->l'.lg=s.log.lg++[dg (s.now+1).toNat ws]->l'.sy=s.log.sy->
   XR own' c w' p { comm { s with log:=l' } t (λ_=>false) nv' b7 with cx:=cN s.cx tx none,dm:=s.dm-1 } mo ph mv mm pt mw cz->R (.returned (.tuple #[Y (s.now+1),Y 0])) w') :
  Calls prog 36 #[ab p,Y tx] w R:=by
 have U:Hid _:=keyOf_int_mk underlying3 cv;have c2:w.cell? ⟨p,7,none⟩=some (.map (some mo)):=ct h.store 7;have d1:w.cell? ⟨pt tx,1,none⟩=some (.map (some (mw tx))):=ct (h.tx tx t e) 1;have hw:=h.wr tx t e;have hf:(encI λn=>(s.cx n).map λ_=>Value.pointer (some ⟨pt n,0,none⟩)) (Y tx)=some (.pointer (some ⟨pt tx,0,none⟩)):=by rw[oo,e];rfl
 have H:Hid (XR own c w p s mo ph mv mm pt mw sl):=h;have bB:=h.opn;have HR:Hid _:=hR;have HT:=bR hT;have HN:=bR hN;have HL:=bR hl;have cd:=bR be;have Q:=bR bw;have P:=bR an;have j:=bR y;have a1:=bR C;have M:=bR Z;have ci:=bR bS;have hn:(t.nw:Int)≠0:=by omega
 have dk:((t.nw:Int) == 0)=false:=by simpa using hn
 have c3:s.now<2000:=l.2;have cT:0<=s.now:=l.1;have N:=bR l;have HV:Hid (s.nv+10<1000000/\s.nm+10<1000000):=⟨bv,bq⟩;clear h hR bw hn l bv bq hT hN hl be an y C Z bS
 go_enter func36,ntmps36
 go_wp2_with (first
  |(at_lookup;refine lP _ rfl _ _ 99 rfl 3 129 jP underlying99 (oY _) mo s.dm _ rfl bB (.int .i64 tx) _ rfl U.out _ hf ?_)
  |(at_len;refine rN _ rfl _ 130 rfl 9 138 underlying130 (mw tx) t.nw _ rfl hw ?_)
  |(go_at_call 71;refine R7 H.out tx t e j.out M.out (λ_ w1 a3=>?_) (λho=>bx ho ci.out);have o:=bR a3;have H1:Hid (XR own c w1 p s mo ph mv mm pt mw sl):=H.out.kept a3;have c7:w1.cell? ⟨p,2,none⟩=some (.int .i64 s.now):=ct H1.out.store 2;clear a3)
  |(go_at_call 72;refine O6 (pt tx) (mw tx) t.nw t.wr (s.now+1) _ (ct (H1.out.tx tx t e) 1) (H1.out.wr tx t e) P.out Q.out j.out (by have:=N.out;omega) ?_;intro w2 wv ws bl bb b3 b6 W B;have D:=bR bl;have r:=bR b6;have ck:=bR b3;have cc:=bR bb;have f:=bR W;have cg:=bR B;clear bl bb b3 b6 W B)
  |(go_at_call 46;refine R3 (H1.out.outer D.out) ((HT.out.kept o.out).kept D.out) (HN.out.outer (HT.out.kept o.out)) wv ws cc.out ck.out (λe=>by have h1:=f.out;have h2:=Q.out;rw[e]at h1;simp at h1;omega) r.out.nodup (by have:=f.out;have:=P.out;omega) (λx hx=>⟨j.out x.1 (by rw[r.out.at_ x hx];rfl),a1.out x.1 x.2 (r.out.at_ x hx)⟩) (λb eb=>mZ (cg.out b eb)) HL.out cd.out N.out M.out HV.out.1 HV.out.2 ?_;intro w3 a0 cA l3 cb ca bm bA bp b5 am ad g;rw[IR _ t _ _ _ ws r.out]at g;have cm:=bR g;have ce:=bR bm;have ch:=bR bA;have cf:=bR bp;have cl:=bR b5;have ba:=bR am;have a9:=bR ad;have a4:=g.opn;have de:w3.cell? ⟨p,7,none⟩=some (.map (some mo)):=ct g.store 7;have co:w3.cell? ⟨p,2,none⟩=some (.int .i64 (s.now+1)):=ct g.store 2;have cw:p≠mo:=dK (own:=a0) (by rw[g.dc,g.dQ];simp);have cu:Hid _:=KM s.cx tx pt;clear g bm bA bp b5 am ad)
  |(at_delete;refine Rq _ rfl _ _ 99 3 rfl 129 jP underlying99 mo s.dm _ rfl a4 (.int .i64 tx) _ rfl U.out cu.out ?_;intro w4 a7 a;have dd:w4.cell? ⟨p,2,none⟩=some (.int .i64 (s.now+1)):=(World.cell?_of_block (w:=w3) (lG a _ cw)).trans co)
  |go_in)
 have cr:(encI λn=>(s.cx n).map λ_=>Value.pointer (some ⟨pt n,0,none⟩)) (Y tx)=some (.pointer (some ⟨pt tx,0,none⟩)):=hf;have a8:cH w4 prog 3 mo (s.dm-1) (encI λn=>((cN s.cx tx none) n).map λ_=>Value.pointer (some ⟨pt n,0,none⟩)):=by have h5:=a7;rw[show(comm { s with log:=l3 } t (λ_=>false) cb ca).cx=s.cx from rfl]at h5;rw[cr]at h5;exact h5
 have bf:=cm.out.Pe (λb hb=>lG a b hb) (cN s.cx tx none) (s.dm-1) a8 Qn;refine HR.out w4 a0 cA cb ca l3 ws ?_ (λb hb=>?_) (by have:=ba.out;have:=f.out;omega) (by have:=a9.out;have:=f.out;omega) r.out f.out cf.out cl.out bf
 .refine((((o.out.na (λ_ h=>h.elim)).trans D.out (λ_ _ h=>h.elim)).trans ce.out (λb hb e=>?_)).trans (Kp.ml (S:=λb=>b=mo) a rfl) (λb hb cq=>by rw[cq,H.out.dQ]));rw[jk (aR hb o.out.size)]at e;exact e
 .rw[ch.out b (aR (aR hb o.out.size) D.out.size),jk (aR hb o.out.size)]
end
end
section
open Go.RowKit
structure GO (s:XS)(n:Int)(t:XT):Prop where
 num:1<=n/\n<=s.begun
 ft:s.cJ<=t.ft/\t.ft<=s.now
 nw:t.nw<=10
 keys:∀k,(t.wr k).isSome=true->dy k=true
 pos:∀k,(t.wr k).isSome=true->0<t.nw
 oT:∀k v,t.wr k=some v->v.1.size<=20
structure dj (s:XS):Prop where
 now:0<=s.now/\s.now<=2000
 cJ:0<=s.cJ/\s.cJ<=s.now
 begun:0<=s.begun
 up:∀k,(s.bU k).Pairwise (·<·)
 bU:∀k m,m∈s.bU k->1<=m/\m<=s.now
 cE:∀k m,(s.cE k m).isSome=true↔m∈s.bU k
 key:∀k,s.bU k≠[]->dy k=true
 tx:∀n t,s.cx n=some t->GO s n t
 nm:(s.nm:Int)<=10*s.now
 nv:(s.nv:Int)<=10*s.now
 mW:(s.log.lg.length:Int)<=s.now+s.cJ
 jQ:∀b∈s.log.lg,b.length<=400
 sy:s.log.sy<=bytesOf (cG s.log.lg)
def tp:∀{l:List Int} {a b:Int},l.Pairwise (·<·)->(∀m∈l,a<m/\m<=b)->(l.length:Int)<=(b-a).toNat
 |[],_,_,_,_=>by simp only[ax];omega
 |x::r,a,b,h,hm=>by obtain⟨g,j⟩:=List.pairwise_cons.1 h;have o:=hm x (by simp);have:=tp (a:=x) (b:=b) j (λm f=>⟨g m f,(hm m (aD _ f)).2⟩);rw[ai];omega
def rL{a:Int}(h:-9223372036854775808<=a/\a<=9223372036854775807):(Lit.int .i64 a).wf=true:=by have e0:IntKind.i64.min = -9223372036854775808:=rfl;simp[Lit.wf];omega
section
variable {s:XS}
def dj.len (h:dj s)(k:Ac):(s.bU k).length<=2000:=by have f:=tp (a:=0) (b:=s.now) (h.up k) (λm hm=>by have:=h.bU k m hm;omega);have:=h.now;omega
def dj.MC (h:dj s)(k:Ac):A5 s k:=by have a:=h.len k;have f:=h.now;exact⟨by omega,h.up k,λm hm=>⟨rL (by have:=h.bU k m hm;omega),(h.cE k m).2 hm⟩⟩
def dj.keysW(h:dj s){n:Int}{t:XT}(e:s.cx n=some t):∀k,(t.wr k).isSome=true->k.size<=8:=λk a=>jB k ((h.tx n t e).keys k a)
def dj.keysM (h:dj s):∀k,s.bU k≠[]->k.size<=8:=λk a=>jB k (h.key k a)
def dj.zn (h:dj s):s.cx (s.begun+1)=none:=by
 cases e:s.cx (s.begun+1)with
 |none=>rfl
 |some t=>have:=(h.tx _ _ e).num;omega
def dj.begin (h:dj s)(n:Nat):dj { s with begun:=s.begun+1,cx:=cN s.cx (s.begun+1) (some ⟨s.now,λ_=>none,0⟩),dm:=n }:=by
 have hb:=h.begun;have f:=h.cJ;refine⟨h.now,h.cJ,by show 0<=s.begun+1;omega,h.up,h.bU,h.cE,h.key,λn t e=>?_,h.nm,h.nv,h.mW,h.jQ,h.sy⟩
 by_cases en:n=s.begun+1
 .subst en;simp only[gH,aH]at e;subst e;exact⟨⟨by omega,Int.le_refl _⟩,⟨f.2,Int.le_refl _⟩,by simp,λk a=>(by cases a),λk a=>(by cases a),λk v a=>(by cases a)⟩
 .simp only[xk _ en]at e;have:=h.tx n t e;exact⟨⟨this.num.1,by show n<=s.begun+1;have:=this.num;omega⟩,this.ft,this.nw,this.keys,this.pos,this.oT⟩
def dj.write(h:dj s){t t':XT}(e:s.cx tx=some t){key:Ac}{v:Ac × Bool}(y:dy key=true)(hv:v.1.size<=20)(g:gI t key v=some t'):dj { s with cx:=cN s.cx tx (some t') }:=by
 have ht:=h.tx tx t e;refine⟨h.now,h.cJ,h.begun,h.up,h.bU,h.cE,h.key,λn t1 e1=>?_,h.nm,h.nv,h.mW,h.jQ,h.sy⟩
 by_cases en:n=tx
 .subst en;simp only[gH,aH]at e1;subst e1;have a:∀k,((cV t.wr key (some v)) k).isSome=true->dy k=true:=λk l=>by
   by_cases j:k=key
   .subst j;exact y
   .rw[jI _ j]at l;exact ht.keys k l
  have f:∀k u,(cV t.wr key (some v)) k=some u->u.1.size<=20:=λk u o=>by
   by_cases j:k=key
   .subst j;rw[kj]at o;cases o;exact hv
   .rw[jI _ j]at o;exact ht.oT k u o
  unfold gI at g;split at g
  .rename_i r
   cases g;exact⟨ht.num,ht.ft,ht.nw,a,λk _=>ht.pos key r,f⟩
  .split at g
   .cases g;exact⟨ht.num,ht.ft,by show t.nw+1<=10;omega,a,λk _=>by show 0<t.nw+1;omega,f⟩
   .cases g
 .simp only[xk _ en]at e1;have:=h.tx n t1 e1;exact⟨this.num,this.ft,this.nw,this.keys,this.pos,this.oT⟩
def fH (s:XS)(wr:Ac->Option (Ac × Bool))(cx:Int->Option XT)(dm nv nm:Nat):XS:=
 { s with now:=s.now+1,bU:=λk=>if(wr k).isSome=true then s.bU k++[s.now+1]else s.bU k,cE:=λk m=>if m=s.now+1/\(wr k).isSome=true then wr k else s.cE k m,cx:=cx,dm:=dm,nv:=nv,nm:=nm }
def IN (s:XS)(t:XT)(nv nm:Nat)(cx:Int->Option XT)(n:Nat):{ comm s t (λ_=>false) nv nm with cx:=cx,dm:=n }=fH s t.wr cx n nv nm:=by simp[comm,fH]
def dj.IS(h:dj s){t:XT}(e:s.cx tx=some t)(W:s.now<2000){nv nm:Nat}(S:nv<=s.nv+t.nw)(R:nm<=s.nm+t.nw)(n:Nat){l:XL}(Q:mI s t.wr l):dj (fH { s with log:=l } t.wr (cN s.cx tx none) n nv nm):=by
 obtain⟨ws,y,M,g,C⟩:=Q;have ht:=h.tx tx t e;have D:=h.now;have r:=h.cJ;have U:=ht.nw;refine⟨⟨by show 0<=s.now+1;omega,by show s.now+1<=2000;omega⟩,⟨r.1,by show s.cJ<=s.now+1;omega⟩,h.begun,λk=>?_,λk m hm=>?_,λk m=>?_,λk B=>?_,λn t1 e1=>?_,?_,?_,?_,?_,?_⟩
 .simp only[fH];split
  .rw[List.pairwise_append];exact⟨h.up k,by simp,λa P b hb=>by simp at hb;have:=h.bU k a P;omega⟩
  .exact h.up k
 .simp only[fH]at hm ⊢;split at hm
  .rcases aM.1 hm with f|f
   .have:=h.bU k m f;omega
   .simp at f;omega
  .have:=h.bU k m hm;omega
 .simp only[fH]
  by_cases j:(t.wr k).isSome=true
  .rw[if_pos j]
   by_cases em:m=s.now+1
   .subst em;simp[j]
   .simp only[em,false_and,if_false,aM,au,or_false];exact h.cE k m
  .rw[if_neg j,if_neg (λh=>j h.2)];exact h.cE k m
 .simp only[fH]at B;split at B
  .rename_i j;exact ht.keys k j
  .exact h.key k B
 .by_cases en:n=tx
  .subst en;simp[fH,gH]at e1
  .simp only[fH,xk _ en]at e1;have:=h.tx n t1 e1;exact⟨this.num,⟨this.ft.1,by show t1.ft<=s.now+1;have:=this.ft;omega⟩,this.nw,this.keys,this.pos,this.oT⟩
 .have:=h.nm;show(nm:Int)<=10*(s.now+1);omega
 .have:=h.nv;show(nv:Int)<=10*(s.now+1);omega
 .have:=h.mW;show(l.lg.length:Int)<=s.now+1+s.cJ;rw[g];simp;omega
 .intro b hb;have o:b∈l.lg:=hb;rw[g]at o;rcases aM.1 o with f|f
  .exact h.jQ b f
  .simp at f;subst f;have:=xY (s.now+1).toNat ws (λx N=>⟨jB x.1 (ht.keys x.1 (by rw[y.at_ x N];rfl)),ht.oT x.1 x.2 (y.at_ x N)⟩);omega
 .show l.sy<=bytesOf (cG l.lg);rw[g,C];exact aX h.sy (ye _ _)
end
end
section
open Go.RowKit Go.Maps Go.Lib
def RS.AF (l r:Aj)(n:Nat)(a:l.length=n):(⟨l++r,false⟩:RS).take n=(some l,⟨r,false⟩):=by subst a;simp[RS.take]
def RS.tG (b:UInt8)(r:Aj):(⟨b::r,false⟩:RS).one=(b.toNat,⟨r,false⟩):=by
 have h:=RS.AF [b] r 1 rfl;unfold RS.one;rw[show(b::r)=[b]++r from rfl,h]
 rfl
def vS (t:Nat)(ht:t<4294967296):iT (cP t)=t:=by unfold iT cP;simp only[List.getD_cons_zero,List.getD_cons_succ,lj];omega
def RS.mf (t:Nat)(ht:t<4294967296)(r:Aj):(⟨cP t++r,false⟩:RS).four=(t,⟨r,false⟩):=by have h:=RS.AF (cP t) r 4 rfl;unfold RS.four;rw[h];simp only[vS t ht]
def FD (x:Ac):fE x.data.toList=x:=by cases x;rfl
def RS.FP (x:Ac)(g:x.size<=255)(r:Aj):(⟨fF x++r,false⟩:RS).text=(x.data.toList,⟨r,false⟩):=by
 have a:=RS.tG (u8 x.size) (x.data.toList++r);have e:(u8 x.size).toNat=x.size:=by rw[lj];omega
 rw[e]at a;have f:=RS.AF x.data.toList r x.size rfl;unfold RS.text;rw[show fF x++r=u8 x.size::(x.data.toList++r)from rfl,a];simp only[f,aC]
def RS.Da (x:Ac)(a:dy x=true)(r:Aj):(⟨fF x++r,false⟩:RS).key=(x,⟨r,false⟩):=by have f:=jB x a;unfold RS.key;rw[RS.FP x (by omega)];simp[FD,a]
def RS.F9 (v:Ac × Bool)(hv:v.1.size<=20)(f:v.2=true->v.1=eb)(r:Aj):(⟨ko v++r,false⟩:RS).cE=(v,⟨r,false⟩):=by
 obtain⟨x,g⟩:=v;cases g with
 |true=>
  have:x=eb:=f rfl;subst this;have h:=RS.tG 1 r;unfold RS.cE;rw[show ko (eb,true)++r=1::r from rfl,h]
  rfl
 |false=>have h:=RS.tG 0 (fF x++r);have a:x.size<=20:=hv;unfold RS.cE;rw[show ko (x,false)++r=0::(fF x++r)from rfl,h];simp[RS.FP x (by omega),FD,a]
def pN (x:Ac × Ac × Bool):Prop:=dy x.1=true/\x.2.1.size<=20/\(x.2.2=true->x.2.1=eb)
def RS.Gq (ws:List (Ac × Ac × Bool))(h:∀x∈ws,pN x)(r:Aj):∀k,k<=ws.length->(⟨ws.flatMap gp++r,false⟩:RS).writes k=(ws.take k,⟨(ws.drop k).flatMap gp++r,false⟩)
 |0,_=>by simp[RS.writes]
 |k+1,y=>by
  have o:=RS.Gq ws h r k (by omega);obtain⟨x,j⟩:∃x,ws[k]?=some x:=⟨ws[k],aQ (by omega)⟩;obtain⟨g,f⟩:=ak.1 j;have a:=h x (aI j);have l:ws.drop k=x::ws.drop (k+1):=by rw[<- f];exact(List.getElem_cons_drop ..).symm
  have e:(ws.drop k).flatMap gp++r=fF x.1++(ko x.2++((ws.drop (k+1)).flatMap gp++r)):=by rw[l];simp[gp]
  show((RS.writes _ k).1++[((RS.writes _ k).2.key.1,(RS.writes _ k).2.key.2.cE.1)],(RS.writes _ k).2.key.2.cE.2)=_;rw[o];dsimp only;rw[e,RS.Da x.1 a.1];dsimp only;rw[RS.F9 x.2 a.2.1 a.2.2];rw[aE g,f]
def xj (c r:Aj):fe (cQ c++r) c.length=some (c,r):=by
 have a:(cQ c++r).take c.length=c:=by simp[cQ]
 have f:((cQ c++r).drop c.length).take 4=cP (dO c):=by simp only[cQ,bn,List.drop_left];rw[bc (by simp[eG])];exact aN (by simp[eG])
 have g:(cQ c++r).drop (c.length+4)=r:=by rw[<- ld,List.drop_left]
 unfold fe;rw[a,f,g,vS _ (uf c)];rw[if_neg];rintro(h|h)
 .rw[aj,ld]at h;omega
 .exact h rfl
end
section
open Go.RowKit Go.Maps Go.Lib
def RS.FK{s:RS}(h:(s.take n).2.wr=false):s.wr=false:=by
 unfold RS.take at h;split at h
 .cases h
 .rename_i a
  cases f:s.wr with
  |false=>rfl
  |true=>exact bx (Or.inl f) a
def RS.zx {s:RS}(h:s.one.2.wr=false):s.wr=false:=RS.FK h
def RS.FW {s:RS}(h:s.text.2.wr=false):s.wr=false:=RS.zx (RS.FK h)
def RS.LQ {s:RS}(h:s.key.2.wr=false):s.wr=false/\dy s.key.1=true:=by
 unfold RS.key at h ⊢;dsimp only at h ⊢;split at h
 .rename_i a
  exact⟨RS.FW h,a⟩
 .cases h
def RS.Q0 {s:RS}(h:s.cE.2.wr=false):s.wr=false/\s.cE.1.1.size<=20/\(s.cE.1.2=true->s.cE.1.1=eb):=by
 by_cases a:s.one.1=0
 .have e:s.cE=((fE s.one.2.text.1,false),if(fE s.one.2.text.1).size<=20 then s.one.2.text.2 else s.one.2.text.2.bad):=by unfold RS.cE;rw[if_pos a]
  rw[e]at h ⊢;dsimp only at h ⊢;split at h
  .rename_i g
   exact⟨RS.zx (RS.FW h),g,λe=>by cases e⟩
  .cases h
 .by_cases f:s.one.1=1
  .have e:s.cE=((eb,true),s.one.2):=by unfold RS.cE;rw[if_neg a,if_pos f]
   rw[e]at h ⊢;exact⟨RS.zx h,by show eb.size<=20;decide,λ_=>rfl⟩
  .have e:s.cE=((eb,false),s.one.2.bad):=by unfold RS.cE;rw[if_neg a,if_neg f]
   rw[e]at h;cases h
def RS.Gr {s:RS}:∀{n:Nat},(s.writes n).2.wr=false->∀x∈(s.writes n).1,pN x
 |0,_,x,a=>by cases a
 |n+1,h,x,a=>by
  have f:=RS.Q0 h;have g:=RS.LQ f.1;rcases aM.1 a with a|a
  .exact RS.Gr g.1 x a
  .rw[au]at a;subst a;exact⟨g.2,f.2⟩
def sg (k:Nat)(ws:List W3):Prop:=(k=72/\ws=[])\/(k=67/\(ws.map Prod.fst).Pairwise blt/\1<=ws.length/\ws.length<=10/\∀x∈ws,pN x)
def nU.ok{body:Aj}(h:nU body k t ws):sg k ws:=by
 rcases h with⟨a,_,_,f,_⟩|⟨a,_,_,f,g,j,l,o⟩
 .exact Or.inl ⟨a,f⟩
 .refine Or.inr ⟨a,j,l,o,?_⟩;rw[f];refine RS.Gr ?_;have:(pA body).2.done=true:=g;unfold RS.done at this;simp at this;exact this.1
def kx.ok:∀{l:List dS} {bs rest:Aj},kx bs l rest->∀r∈l,sg r.k r.ws
 |[],_,_,_,r,f=>by cases f
 |a::l,bs,rest,⟨m,⟨_,c,_,h⟩,g⟩,r,f=>by
  rcases bE.1 f with rfl|f
  .exact h.ok
  .exact kx.ok g r f
def NR {l:List Ac}(h:l.Pairwise blt):l.Nodup:=h.imp (λ{a b} f e=>by subst e;exact Bt _ f)
def ql (r:dS)(s s':XS):Prop:=
 ∃l:XL,l.sy=s.log.sy/\((r.k=72/\l.lg=s.log.lg++[oe r.t]/\s'={ s with cJ:=r.t,log:=l })\/
  (r.k≠72/\l.lg=s.log.lg++[dg r.t r.ws]/\∃nv nm,nv<=s.nv+r.ws.length/\nm<=s.nm+r.ws.length/\s'=comm { s with log:=l } ⟨0,eJ r.ws,0⟩ (λ_=>false) nv nm))
def lX:List dS->XS->XS->Prop
 |[],s,s'=>s'=s
 |r::l,s,s'=>gB s r.k r.t=true/\∃a,ql r s a/\lX l a s'
def lX.snoc {r:dS}{j:XS}:∀{l:List dS} {s f:XS},lX l s f->gB f r.k r.t=true->ql r f j->lX (l++[r]) s j
 |[],s,f,h,hm,g=>by have h:f=s:=h;subst h;exact⟨hm,j,g,rfl⟩
 |a::l,s,f,⟨o,q,y,B⟩,hm,g=>⟨o,q,y,lX.snoc B hm g⟩
section
variable {s s':XS}
def Gn{k:Ac}(h:(eJ ws k).isSome=true):∃x∈ws,x.1=k:=by rw[AW,List.any_eq_true]at h;obtain⟨x,a,e⟩:=h;exact⟨x,a,by simpa using e⟩
def Bv(h:∀x∈ws,pN x)(f:ws.length<=10):(dg t ws).length<=400:=by have:=xY t ws (λx a=>⟨jB x.1 (h x a).1,(h x a).2.1⟩);omega
def dj.ym (ok:dj s)(B:∀n,s.cx n=none){r:dS}(hr:sg r.k r.ws)(hm:gB s r.k r.t=true)(W:ql r s s'):dj s'/\(∀n,s'.cx n=none)/\s'.bk=s.bk/\s'.begun=s.begun:=by
 obtain⟨l,P,h⟩:=W;have S:=ok.now;have a2:=ok.cJ;have a3:=ok.mW;rcases h with⟨Q,f,rfl⟩|⟨Q,f,nv,nm,ad,Z,rfl⟩
 .simp only[gB,Q,if_true,av,bC]at hm;refine⟨⟨S,⟨by show 0<=(r.t:Int);omega,hm.2⟩,ok.begun,ok.up,ok.bU,ok.cE,ok.key,λn x e=>?_,ok.nm,ok.nv,?_,λb hb=>?_,?_⟩,B,rfl,rfl⟩
  .have M:s.cx n=some x:=e;rw[B]at M;cases M
  .show(l.lg.length:Int)<=s.now+r.t;rw[f];simp;omega
  .have j:b∈l.lg:=hb;rw[f]at j;rcases aM.1 j with o|o
   .exact ok.jQ b o
   .rw[au]at o;subst o;rw[Bw];omega
  .show l.sy<=bytesOf (cG l.lg);rw[f,P];exact aX ok.sy (ye _ _)
 .rcases hr with⟨D,_⟩|⟨D,am,Y,R,N⟩
  .exact bx D Q
  .rw[gB,if_neg Q]at hm;simp only[av,bC]at hm;have hw:∀k,(eJ r.ws k).isSome=true->dy k=true:=λk h=>by obtain⟨x,hx,rfl⟩:=Gn h;exact(N x hx).1
   refine⟨⟨⟨by show 0<=s.now+1;omega,by show s.now+1<=2000;omega⟩,⟨a2.1,by show s.cJ<=s.now+1;omega⟩,ok.begun,λk=>?_,λk m y=>?_,λk m=>?_,λk C=>?_,λn t1 e1=>?_,?_,?_,?_,λb hb=>?_,?_⟩,B,rfl,rfl⟩
   .simp only[comm,Bool.not_false,Bool.and_true];split
    .rw[List.pairwise_append];exact⟨ok.up k,by simp,λa U b hb=>by simp at hb;have:=ok.bU k a U;omega⟩
    .exact ok.up k
   .simp only[comm,Bool.not_false,Bool.and_true]at y ⊢;split at y
    .rcases aM.1 y with D|D
     .have:=ok.bU k m D;omega
     .simp at D;omega
    .have:=ok.bU k m y;omega
   .simp only[comm,Bool.not_false,Bool.and_true]
    by_cases g:(eJ r.ws k).isSome=true
    .rw[if_pos g]
     by_cases em:m=s.now+1
     .subst em;simp[g]
     .simp only[em,false_and,if_false,aM,au,or_false];exact ok.cE k m
    .rw[if_neg g,if_neg (λh=>g h.2)];exact ok.cE k m
   .simp only[comm,Bool.not_false,Bool.and_true]at C;split at C
    .rename_i g;exact hw k g
    .exact ok.key k C
   .have M:s.cx n=some t1:=e1;rw[B]at M;cases M
   .have:=ok.nm;show(nm:Int)<=10*(s.now+1);omega
   .have:=ok.nv;show(nv:Int)<=10*(s.now+1);omega
   .show(l.lg.length:Int)<=s.now+1+s.cJ;rw[f];simp;omega
   .have j:b∈l.lg:=hb;rw[f]at j;rcases aM.1 j with o|o
    .exact ok.jQ b o
    .rw[au]at o;subst o;exact Bv N R
   .show l.sy<=bytesOf (cG l.lg);rw[f,P];exact aX ok.sy (ye _ _)
end
end
section
open Go.RowKit Go.Maps Go.Lib
section
variable {own own':Nat->da}{c:Nat}{w w':Z}{p:Nat}{s:XS}
variable {R:Al}
def R4 (h:XE own c w p s)(ok:dj s)(hT:db w)(hN:fG own c)(r:dS)(hr:sg r.k r.ws)(N:r.t<4294967296)(o:r.k=72->r.u = ae){base:Nat}(hw:WR base w r.u r.ws)(C:∀b,r.u.ownBlock=some b->(own b).c≠c)(hm:gB s r.k r.t=true)
  (hR:∀w' own' s',Kp (λb=>(own b).c=c) w w'->(∀b,b<w.heap.size->own' b=own b)->XE own' c w' p s'->ql r s s'->R (.returned (.tuple #[])) w') :
  Calls prog 46 #[ab p,.agg #[.int .u8 r.k,Y r.t,r.u]] w R:=by
 obtain⟨mo,ph,mv,mm,pt,mw,sl,h⟩:=h;have a1:=ok.now;have a2:=ok.cJ;have a3:=ok.mW;have a4:=ok.nv;have a5:=ok.nm
 by_cases j:r.k=72
 .rw[j,o j];refine R0 h hT hN r.t N (by omega) ok.jQ (λw' own' W k S f g l=>hR w' own' _ k S ⟨mo,ph,mv,mm,pt,mw,sl,l⟩ ⟨W,g,Or.inl ⟨j,f,rfl⟩⟩)
 .rcases hr with⟨D,_⟩|⟨D,U,y,M,B⟩
  .exact bx D j
  .rw[D];rw[gB,if_neg j]at hm;simp only[av,bC]at hm;have hu:r.u.oneCell'=true:=by obtain⟨a,cap,e⟩:=eM hw;rw[e];rfl
   refine Gs h hT hN r.u r.ws hu hw.rd (λe=>by rw[e]at y;simp at y) (NR U) M (λx l=>⟨jB x.1 (B x l).1,(B x l).2.1⟩) C (by omega) ok.jQ ⟨a1.1,hm.2⟩ (λk=>by have:=ok.len k;omega) (by omega) (by omega) r.t hm.1 (λw' own' Z W nv nm k S f g Q P l=>hR w' own' _ k S ⟨mo,ph,mv,mm,pt,mw,Z,l⟩ ⟨W,g,Or.inr ⟨j,f,nv,nm,Q,P,rfl⟩⟩)
def Cy {α:Type}(f:α->List D)(g:∀a,(f a).length=3):∀(l:List α) (i:Nat) (a:α),l[i]?=some a->∀j,j<3->(l.flatMap f)[i*3+j]?=(f a)[j]?
 |[],_,_,h,_,_=>by simp at h
 |y::r,0,a,h,j,o=>by simp at h;subst h;rw[List.flatMap_cons,az (by rw[g];omega)];simp
 |y::r,i+1,a,h,j,o=>by have B:=Cy f g r i a (by simpa using h) j o;rw[List.flatMap_cons,List.getElem?_append_right (by rw[g];omega),g];rw[show(i+1)*3+j-3=i*3+j by omega];exact B
def jZ.kp{base:Nat}{l:List dS}{S:Nat->Prop}(h:jZ base w v l)(k:Kp S w w')(f:∀b,base<=b->b<w.heap.size->¬S b):jZ base w' v l:=
 ⟨dR h.row k (λb e=>f b (h.row.lt b e).1 (h.row.lt b e).2),λr a=>dR (h.wr r a) k (λb e=>f b ((h.wr r a).lt b e).1 ((h.wr r a).lt b e).2),h.cJ,h.lt⟩
def jZ.cell {base g n cap:Nat}{l:List dS}(h:jZ base w (ag g n cap) l){i:Nat}{r:dS}(j:l[i]?=some r) :
  w.cell? ⟨g,i*3,none⟩=some (.int .u8 r.k)/\w.cell? ⟨g,i*3+1,none⟩=some (Y r.t)/\w.cell? ⟨g,i*3+2,none⟩=some r.u:=by
 have a:=World.ownsRow.cells h.row (g:=g) rfl;have f:=Cy dS.cells (λ_=>rfl) l i r j;refine⟨?_,?_,?_⟩
 .have:=a (i*3+0) _ (f 0 (by omega));rw[addr_add,ao]at this;exact this
 .have:=a (i*3+1) _ (f 1 (by omega));rw[addr_add,ao]at this;exact this
 .have:=a (i*3+2) _ (f 2 (by omega));rw[addr_add,ao]at this;exact this
def kE (bs:Aj)(num:Nat)(s a:XS)(b:Bool):Prop:=
 (gO bs≠some num/\a=s/\b=false)\/∃l rest,A0 bs num l rest/\
  ((∃(i:Nat) (r:dS),l[i]?=some r/\lX (l.take i) s a/\gB a r.k r.t=false/\b=false)\/(lX l s a/\b=(decide (rest=[]) && decide (l.length=4))))
structure uD (own:Nat->da)(c:Nat)(w1:Z)(p:Nat)(s:XS)(l:List dS)(i:Nat)(wr:Z)(own':Nat->da)(s':XS):Prop where
 x:XE own' c wr p s'
 ok:dj s'
 cx:∀n,s'.cx n=none
 bk:s'.bk=s.bk
 od:s'.begun=s.begun
 done:lX (l.take i) s s'
 kp:Kp (λb=>(own b).c=c) w1 wr
 old:∀b,b<w1.heap.size->own' b=own b
end
end
section
open Go.RowKit Go.Maps Go.Lib
section
variable {own own':Nat->da}{c:Nat}{w w':Z}{p:Nat}{s:XS}
variable {R:Al}
def uD.step {own:Nat->da}{w1 wr B:Z}{l:List dS}{i:Nat}{a:Nat->da}{j o:XS}{r:dS}(h:uD own c w1 p s l i wr own' j)(D:l[i]?=some r)(U:sg r.k r.ws)(hm:gB j r.k r.t=true)
  {y:Z} (M:An wr y) (Y:Kp (λb=>(own' b).c=c) y B) (S:∀b,b<y.heap.size->a b=own' b) (W:XE a c B p o) (C:ql r j o):uD own c w1 p s l (i+1) B a o:=by
 obtain⟨N,P,Q,R⟩:=h.ok.ym h.cx U hm C;have g:i<l.length:=(ak.1 D).1;refine⟨W,N,P,Q.trans h.bk,R.trans h.od,?_,(h.kp.trans (M.mono (S':=λb=>(own b).c=c) (λ_ _ e=>e.elim)) (λ_ _ e=>e)).trans Y (λb hb e=>?_),λb hb=>?_⟩
 .have e:l.take (i+1)=l.take i++[r]:=by rw[aE g,(ak.1 D).2]
  rw[e];exact h.done.snoc hm C
 .have f:own' b=own b:=h.old b hb;rw[f]at e;exact e
 .have:=h.kp.size;have:=M.size;rw[S b (by omega)];exact h.old b hb
def GA (h:XE own c w p s)(k:An w w'):XE own c w' p s:=by obtain⟨f,ph,g,a,pt,j,sl,h⟩:=h;exact⟨f,ph,g,a,pt,j,sl,h.kept k⟩
def db.Db (h:db w)(k:Kp (λb=>(own b).c=c) w w')(a:fG own c):db w':=
 h.block (k.block 0 h.lt.1 a.1) (k.block 1 h.lt.2 a.2)
def FG (h:db w)(f:fG own c)(a:∀b,b<w.heap.size->own' b=own b):fG own' c:=by unfold fG;rw[a 0 h.lt.1,a 1 h.lt.2];exact f
def Gx (h:XE own c w p s)(ok:dj s)(bq:∀n,s.cx n=none)(hT:db w)(hN:fG own c)(v:D)(bs:Aj)(g:Nat)(hv:eS w v bs g)(hl:bs.length<=1100000)(num:Nat)(ce:num<4294967296)
  (hR:∀w' own' W (b:Bool),Kp (λb=>(own b).c=c) w w'->(∀b,b<w.heap.size->own' b=own b)->XE own' c w' p W->dj W->(∀n,W.cx n=none)->W.bk=s.bk->W.begun=s.begun->kE bs num s W b->R (.returned (.bool b)) w') :
  Calls prog 41 #[ab p,v,Y num] w R:=by
 have H:=bR h;have OK:=bR ok;have ad:=bR bq;have HT:=bR hT;have HN:=bR hN;have HV:=bR hv;have HL:=bR hl;have HR:=bR hR;clear h ok bq hT hN hv hl hR
 go_enter func41,ntmps41
 go_wp2_with (first
  |(go_at_call 75;refine O0 v bs g w HV.out HT.out HL.out ?_ ?_)
  |fail)
 .intro e w1 y;have f:=bR (HR.out w1 own s false (y.na (λ_ h=>h.elim)) (λ_ _=>rfl) (by obtain⟨mo,ph,mv,mm,pt,mw,sl,h⟩:=H.out;exact⟨mo,ph,mv,mm,pt,mw,sl,h.kept y⟩) OK.out ad.out rfl rfl (Or.inl ⟨by rw[e];simp,rfl,rfl⟩));clear e y
  by_cases q:num=0
  .subst q
   go_wp2_with fail
   go_loopw [23] (λN wr=>N = Y 0/\wr=w1) (λ_ _=>0)
   case atStart=>exact⟨rfl,rfl⟩
   case round=>
    obtain⟨rfl,rfl⟩:=hrel
    go_wp2_with fail
    exact f.out
  .have q':((0:Int) == num)=false:=by simp;omega
   clear q
   go_wp2_with fail
   exact f.out
 .intro n l rest v1 w1 a1 y o;obtain⟨pu,cu,rfl⟩:=eM o.row;have ca:Hid (XE (outer own c w.heap.size) c w1 p s):=by obtain⟨mo,ph,mv,mm,pt,mw,sl,h⟩:=H.out;exact⟨mo,ph,mv,mm,pt,mw,sl,h.outer y⟩
  have be:=bR (HT.out.kept y);have a8:=bR (HN.out.outer HT.out);have Q:=bR y;have P:=bR a1;have a0:=bR o;have ci:(l.length:Int)<=4:=by have:=a1.le;omega
  clear a1 y o
  by_cases q:n=num
  .subst q
   go_wp2_with fail
   go_loopw [23] (λN wr=>∃(i:Nat) (own':Nat->da) (W:XS),i<=l.length/\N = Y i/\uD (outer own c w.heap.size) c w1 p s l i wr own' W) (λN _=>l.length-(intOf N).toNat)
   case atStart=>exact⟨0,_,s,aZ _,rfl,ca.out,OK.out,ad.out,rfl,rfl,rfl,Kp.refl _ _,λ_ _=>rfl⟩
   case round=>
    obtain⟨i,B,s2,hi,rfl,hM⟩:=hrel;have a:=bR hM;have a7:Hid (Kp (λb=>(own b).c=c) w wr):=(Q.out.na (λ_ h=>h.elim)).trans hM.kp (λb hb e=>by rw[jk hb]at e;exact e);have U:Hid (∀b,b<w.heap.size->B b=own b):=λb hb=>by rw[hM.old b (aR hb Q.out.size),jk hb]
    clear hM
    by_cases a4:i<l.length
    .have cd:(i:Int)<l.length:=by omega
     obtain⟨gr,cr,ch,er,_,_⟩:=iz a0.out.row (by omega);injection er with er _ cb
     subst er;obtain⟨r,S⟩:∃r,l[i]?=some r:=⟨l[i],aQ a4⟩;have o:=a0.out.kp a.out.kp (λb h1 _ e=>mZ h1 e);obtain⟨c0,c1,c2⟩:=o.cell S;have j:=aI S;have an:=bR (P.out.EM.ok r j);have ba:=bR (o.lt r j);have b6:=bR (o.cJ r j);have bb:=bR (o.wr r j);have b7:Hid (∀b,r.u.ownBlock=some b->(B b).c≠c):=λb e=>by have h1:=(a0.out.wr r j).lt b e;rw[a.out.old b h1.2];exact mZ h1.1
     obtain⟨a3,c3,eu⟩:=eM bb.out;have a9:=bR S;have am:Hid (r.k<256):=by show _<_;rcases an.out with⟨h,_⟩|⟨h,_⟩<;>omega
     have cf:(r.k:Int)<256:=by have:=am.out;omega
     have cg:(r.t:Int)<4294967296:=by have:=ba.out;omega
     rw[eu]at c2;obtain⟨mo,ph,mv,mm,pt,mw,sl,bw⟩:=a.out.x;have kB:=Kp.al (λ_=>False) wr (.cells #[.int .u8 r.k,Y r.t,.slice a3 r.ws.length c3] 110);have bB:=bI wr (.cells #[.int .u8 r.k,Y r.t,.slice a3 r.ws.length c3] 110);have bf:=bR (bw.kept kB);have KB:=bR kB;have BB:=bR bB;have EU:=bR eu;clear o j bw kB bB S a4 cb eu
     by_cases hm:gB s2 r.k r.t=true
     .go_wp2_with (first
       |(go_at_call 76;refine Gu bf.out a.out.ok.now r.k r.t am.out a3 r.ws.length c3 ?_;intro w3 C;rw[hm];have K3:=bR (KB.out.trans C (λ_ _ h=>h));have b3:=(C.block _ (bX BB.out) (λe=>e)).trans BB.out;have d0:w3.cell? ⟨wr.heap.size,0,none⟩=some (.int .u8 r.k):=ct b3 0;have d1:w3.cell? ⟨wr.heap.size,1,none⟩=some (.int .i64 r.t):=ct b3 1;have d2:w3.cell? ⟨wr.heap.size,2,none⟩=some (.slice a3 r.ws.length c3):=ct b3 2;clear C b3)
       |(go_at_call 46;rw[<- EU.out];refine R4 (GA a.out.x K3.out) a.out.ok (be.out.Db a.out.kp a8.out |>.kept K3.out) (FG be.out a8.out a.out.old) r an.out ba.out b6.out (dR bb.out K3.out (λ_ _ e=>e)) b7.out hm ?_;intro w4 bS s4 bm bv bA bl;have b5:=bR (a.out.step a9.out an.out hm K3.out bm bv bA bl);clear bm bv bA bl)
       |fail)
      go_roundw
      case rel=>exact⟨i+1,bS,s4,by omega,by go_num,b5.out⟩
      case measure=>simp[intOf];omega
     .have bp:gB s2 r.k r.t=false:=by simpa using hm
      clear hm
      go_wp2_with (first
       |(go_at_call 76;refine Gu bf.out a.out.ok.now r.k r.t am.out a3 r.ws.length c3 ?_;intro w3 C;rw[bp];have K3:=bR (KB.out.trans C (λ_ _ h=>h));clear C)
       |fail)
      exact HR.out _ B s2 false (a7.out.trans (K3.out.na (λ_ h=>h.elim)) (λ_ _ h=>h)) U.out (GA a.out.x K3.out) a.out.ok a.out.cx a.out.bk a.out.od (Or.inr ⟨l,rest,P.out,Or.inl ⟨i,r,a9.out,a.out.done,bp,rfl⟩⟩)
    .have cc:i=l.length:=by omega
     subst cc;have M:lX l s s2:=by have:=a.out.done;rw[List.take_length]at this;exact this
     have Z:=bR (λb hb=>HR.out wr B s2 b a7.out U.out a.out.x a.out.ok a.out.cx a.out.bk a.out.od (Or.inr ⟨l,rest,P.out,Or.inr ⟨M,hb⟩⟩));clear M hi a4
     by_cases q0:rest=[]
     .have e0:decide (rest=[])=true:=by simpa using q0
      by_cases q4:l.length=4
      .have f:=bR (Z.out true (by simp[q0,q4]));have e4:((l.length:Int) == 4)=true:=by simp;omega
       rw[e0];clear q0 q4
       go_wp2_with fail
       exact f.out
      .have f:=bR (Z.out false (by simp[q4]));have e4:((l.length:Int) == 4)=false:=by simp;omega
       rw[e0];clear q0 q4
       go_wp2_with fail
       exact f.out
     .have e0:decide (rest=[])=false:=by simpa using q0
      have f:=bR (Z.out false (by simp[q0]));rw[e0];clear q0
      go_wp2_with fail
      exact f.out
  .have q':((n:Int) == num)=false:=by simp;omega
   have f:=bR (HR.out w1 own s false (Q.out.na (λ_ h=>h.elim)) (λ_ _=>rfl) (by obtain⟨mo,ph,mv,mm,pt,mw,sl,h⟩:=H.out;exact⟨mo,ph,mv,mm,pt,mw,sl,h.kept Q.out⟩) OK.out ad.out rfl rfl (Or.inl ⟨by rw[P.out.num];simpa using q,rfl,rfl⟩));clear q
   go_wp2_with fail
   exact f.out
end
end
section
open Go.RowKit Go.Maps Go.Lib
def fx:List (Aj)->Nat->List (Aj)
 |[],_=>[]
 |f::r,n=>if n=0 then []else f.take n::fx r (n-f.length)
structure FR (base:Nat)(w:Z)(v:D)(fs:List (Aj))(lv:List D):Prop where
 row:w.ownsRow base 48 1 v fs.length lv
 at_:∀(i:Nat) u f,lv[i]?=some u->fs[i]?=some f->BR base w u f
 apart:∀(i j:Nat) u v b,lv[i]?=some u->lv[j]?=some v->u.ownBlock=some b->v.ownBlock=some b->i=j
def FR.len{base:Nat}{w:Z}{fs:List (Aj)}(h:FR base w v fs lv):lv.length=fs.length:=by simpa using h.row.1
def FR.nil (base:Nat)(w:Z):FR base w (ae) [] []:=⟨World.ownsRow_nil _ _ _ _,λi u f a=>by simp at a,λi j u v b a=>by simp at a⟩
def FR.kept{base:Nat}{w w':Z}{fs:List (Aj)}(h:FR base w v fs lv)(a:An w w'):FR base w' v fs lv:=
 ⟨dR h.row a (λ_ _ e=>e),λi u f j g=>(h.at_ i u f j g).kept a,h.apart⟩
def FR.snoc{base:Nat}{w w1:Z}{fs:List (Aj)}{f:Aj}(h:FR base w1 v fs lv)(N:BR w.heap.size w1 u f)(R:∀b,v.ownBlock=some b->b<w.heap.size)(r:∀(i:Nat) x,lv[i]?=some x->∀b,x.ownBlock=some b->b<w.heap.size)
  (hb:base<=w.heap.size) (D:l.ownsRow base 48 1 v' (fs.length+1) (lv++[u])) (W:Kp (λb=>v.ownBlock=some b) w1 l):FR base l v' (fs++[f]) (lv++[u]):=by
 have hl:=h.len;refine⟨by simpa using D,λi x g a C=>?_,λi j x y b a hy P Q=>?_⟩
 .rcases Nat.lt_trichotomy i lv.length with o|o|o
  .rw[az o]at a;rw[az (by omega)]at C;have S:=h.at_ i x g a C;refine S.kp W (λb e e2=>?_);obtain⟨c1,q1⟩:=S.block e;obtain⟨c2,q2⟩:=nc h.row e2;exact j5 q1 q2 (by decide) rfl
  .subst o;simp at a;rw[hl]at C;simp at C;subst a;subst C;exact BR.mono (N.kp W (λb e e2=>by have U:=(N.lt b e).1;have B:=R b e2;omega)) hb
  .rw[bh (by simp;omega)]at a;cases a
 .have last:∀(i:Nat) x,(lv++[u])[i]?=some x->(i<lv.length/\lv[i]?=some x)\/(i=lv.length/\x=u):=λi x a=>by
   rcases Nat.lt_trichotomy i lv.length with o|o|o
   .rw[az o]at a;exact Or.inl ⟨o,a⟩
   .subst o;simp at a;exact Or.inr ⟨rfl,a.symm⟩
   .rw[bh (by simp;omega)]at a;cases a
  rcases last i x a with⟨U,B⟩|⟨U,B⟩<;>rcases last j y hy with⟨Y,M⟩|⟨Y,M⟩
  .exact h.apart i j x y b B M P Q
  .subst M;have:=r i x B b P;have:=(N.lt b Q).1;omega
  .subst B;have:=r j y M b Q;have:=(N.lt b P).1;omega
  .omega
def JR (w:Z)(a:D)(fs:List (Aj))(lv:List D):Prop:=w.ownsRow 0 48 1 a fs.length lv/\(∀(i:Nat) u f,lv[i]?=some u->fs[i]?=some f->BR 0 w u f)
def bytesOf_take (fs:List (Aj))(k:Nat)(f:Aj)(h:fs[k]?=some f):bytesOf (fs.take (k+1))=bytesOf (fs.take k)+f.length:=by obtain⟨a,rfl⟩:=ak.1 h;rw[aE a,yc];simp[bytesOf]
def Ij (fs:List (Aj))(k:Nat):bytesOf (fs.take k)<=bytesOf fs:=by
 conv=>rhs;rw[<- List.take_append_drop k fs]
 rw[yc];omega
def Cv:∀(fs:List (Aj)) (n k:Nat) (f:Aj),fs[k]?=some f->bytesOf (fs.take k)<n->fx (fs.take (k+1)) n=fx (fs.take k) n++[f.take (n-bytesOf (fs.take k))]
 |[],_,_,_,h,_=>by simp at h
 |g::r,n,0,f,h,j=>by
  simp at h;subst h;have:n≠0:=by simp[bytesOf]at j;omega
  simp[fx,this,bytesOf]
 |g::r,n,k+1,f,h,j=>by
  have l:r[k]?=some f:=by simpa using h
  have hb:bytesOf ((g::r).take (k+1))=g.length+bytesOf (r.take k):=by rw[List.take_succ_cons,qz]
  rw[hb]at j;have a:n≠0:=by omega
  rw[List.take_succ_cons,List.take_succ_cons];show(if n=0 then []else g.take n::fx (r.take (k+1)) (n-g.length))=(if n=0 then []else g.take n::fx (r.take k) (n-g.length))++_;rw[if_neg a,if_neg a,Cv r (n-g.length) k f l (by omega),qz];rw[List.cons_append,Nat.sub_sub]
def Ct:∀(fs:List (Aj)) (n k:Nat),n<=bytesOf (fs.take k)->fx fs n=fx (fs.take k) n
 |[],_,_,_=>by simp
 |g::r,n,0,h=>by
  have:n=0:=by simpa [bytesOf]using h
  subst this;simp[fx]
 |g::r,n,k+1,h=>by rw[List.take_succ_cons,qz]at h;rw[List.take_succ_cons];show(if n=0 then []else g.take n::fx r (n-g.length))=(if n=0 then []else g.take n::fx (r.take k) (n-g.length));rw[Ct r (n-g.length) k (by omega)]
section
variable {R:Al}
def Fw (p o:Nat)(fv:D)(fs:List (Aj))(lv:List D)(w:Z)(c0:w.cell? ⟨p,o,none⟩=some fv)(hJ:JR w fv fs lv)(hl:bytesOf fs<=1000000000)(ad:fs.length<=1100000)
  (Q:R (.returned (Y (bytesOf fs:Nat))) w) :
  Calls prog 74 #[.pointer (some ⟨p,o,none⟩)] w R:=by
 obtain⟨a,r⟩:=hJ;have M:=bR r;have B:=bR a;have HR:=bR Q;have HL:=bR hl;have C:(fs.length:Int)<=1100000:=by omega
 have h:lv.length=fs.length:=by simpa using a.1
 have l:=bR h
 by_cases P:fs.length=0
 .have e0:fs=[]:=aA P;subst e0;obtain⟨pf,cap,rfl⟩:=eM a;clear a r Q hl P h ad C
  go_enter func74,ntmps74
  go_wp2_with fail
  go_loop [3,11] (λv3 j=>v3 = Y 0/\j = Y 0) (λ_ _=>0)
  case atStart=>exact⟨rfl,rfl⟩
  case round=>
   obtain⟨rfl,rfl⟩:=hrel
   go_wp2_with fail
   exact HR.out
 .obtain⟨g,cap,a0,rfl,_,_⟩:=iz a (by omega);clear a r Q hl P h
  go_enter func74,ntmps74
  go_wp2_with fail
  go_loop [3,11] (λv3 j=>∃k:Nat,k<=fs.length/\j = Y k/\v3 = Y (bytesOf (fs.take k):Nat)) (λ_ j=>fs.length-(intOf j).toNat)
  case atStart=>exact⟨0,aZ _,rfl,rfl⟩
  case round=>
   obtain⟨k,hk,rfl,rfl⟩:=hrel
   by_cases y:k<fs.length
   .obtain⟨f,W⟩:∃f,fs[k]?=some f:=⟨fs[k],aQ y⟩;obtain⟨u,hu⟩:∃u,lv[k]?=some u:=⟨lv[k]'(by rw[l.out];exact y),aQ (by rw[l.out];exact y)⟩;have hc:=ng B.out k u hu;obtain⟨pu,an,rfl⟩:=eM (M.out k u f hu W);have N:=bR (bytesOf_take fs k f W);have U:bytesOf (fs.take k)+f.length<=1000000000:=by have:=Ij fs (k+1);have:=HL.out;have:=N.out;omega
    generalize bytesOf (fs.take k)=S at U N ⊢;clear W hu
    go_wp2_with fail
    go_round
    case rel=>exact⟨k+1,by omega,by go_num,by rw[N.out];rfl⟩
    case measure=>simp[intOf];omega
   .have am:k=fs.length:=by omega
    subst am;rw[List.take_length]
    go_wp2_with fail
    exact HR.out
end
end
section
open Go.RowKit Go.Maps Go.Lib
def Rp{ops:Am}{rest:List Oper}(w:Z)(r:o.guard=none)(s x:Ae)
  (P:o.op = .call { callee:=.builtin .append,args:=#[s,x],argTypes:=#[37,37] })
  (base:Nat) (v:D) (n:Nat) (xs:List D) (R:a.eval s=v) (f:w.ownsRow base 48 1 v n xs) (g:Nat) (u:D) (U:a.eval x = ag g 1 1) (S:w.cell? ⟨g,0,none⟩=some u) (h1:u.oneCell'=true) (hl:n<=1100000) (hb:base<=w.heap.size)
  (h:∀v' w',w'.ownsRow base 48 1 v' (n+1) (xs++[u])->Kp (λb=>v.ownBlock=some b) w w'->(v'.ownBlock=v.ownBlock\/v'.ownBlock=some w.heap.size)->wpList prog ops Q rest (a.put o.dst v') w') :
  wpList prog ops Q (o::rest) a w:=by
 obtain⟨W,N,B,C,M⟩:=info_parts C4;refine wpList_append_own_at _ r s x 37 P base 48 W (ae) 1 24 underlying37 N B C M rfl (by decide) v n xs R f ⟨g,0,none⟩ 1 1 [u] U rfl (λj y l=>?_) (by simpa using h1) (by unfold maxLen;omega) (by omega) hb (λv' w' Y r2 _ r4=>h v' w' Y (Kp.jh r2 (λ_ e=>e)) r4)
 match j,l with
 |0,l=>simp at l;subst l;rw[addr_add];exact S
def Cu:∀(fs:List (Aj)) (n:Nat),(fx fs n).length<=fs.length
 |[],_=>by simp[fx]
 |f::r,n=>by have:=Cu r (n-f.length);unfold fx;split<;>simp<;>omega
def Qz (bs:Aj):(bs.map λb=>(b.toNat:Int)).map (Value.int .u8)=bs.map b8:=by simp[b8,Function.comp_def]
section
variable {R:Al}
def II (g o cap:Nat)(bs:Aj)(w:Z)(y:bs.length<=1000000000)(r:∀j,j<bs.length->w.cell? ⟨g,o+j,none⟩=some (b8 (bs.getD j 0)))
  (l:∀v' w',BR w.heap.size w' v' bs->An w w'->R (.returned v') w') :
  Calls prog 130 #[.slice (some ⟨g,o,none⟩) bs.length cap] w R:=by
 refine(bytes_Clone_at ⟨g,o,none⟩ bs.length cap (bs.map λb=>(b.toNat:Int)) w (by simp) (by omega) (λi f=>?_)).mono ?_
 .rw[addr_add,r i f];simp[b8,List.getD,aQ f]
 .rintro e w' ⟨v',rfl,a,_,h⟩;refine l v' w' ?_ (Kp.qW h _);rw[Qz]at a;exact a
structure GI (w:Z)(fs:List (Aj))(n k:Nat)(wr:Z)(v5:D)(lv':List D):Prop where
 kp:An w wr
 fr:FR w.heap.size wr v5 (fx (fs.take k) n) lv'
def Kx (p o:Nat)(fv:D)(fs:List (Aj))(lv:List D)(n:Nat)(w:Z)(c0:w.cell? ⟨p,o,none⟩=some fv)(hJ:JR w fv fs lv)(a3:∀f∈fs,f≠[])(hl:bytesOf fs<=1000000000)(a0:fs.length<=1100000)(hn:n<=1000000000)
  (hR:∀v' r w',FR w.heap.size w' v' (fx fs n) r->An w w'->R (.returned v') w') :
  Calls prog 77 #[.pointer (some ⟨p,o,none⟩),Y n] w R:=by
 obtain⟨l,am⟩:=hJ;have bA:=bR am;have bb:=bR l;have HR:=bR hR;have HL:=bR hl;have b7:=bR a3;have bl:(fs.length:Int)<=1100000:=by omega
 have N:lv.length=fs.length:=by simpa using l.1
 have U:=bR N;have b3:=bR a0
 by_cases h0:fs.length=0
 .have e0:fs=[]:=aA h0;subst e0;obtain⟨pf,cap,rfl⟩:=eM l;clear l am hR hl h0 N a0 bl a3
  go_enter func77,ntmps77
  go_wp2_with fail
  go_loop [5,14] (λv5 P=>v5 = ae/\P = Y 0) (λ_ _=>0)
  case atStart=>exact⟨rfl,rfl⟩
  case round=>
   obtain⟨rfl,rfl⟩:=hrel
   go_wp2_with fail
   exact HR.out _ [] _ (FR.nil _ _) (Kp.refl _ _)
 .obtain⟨g,cap,cu,rfl,_,_⟩:=iz l (by omega);clear l am hR hl h0 N a3 a0
  go_enter func77,ntmps77
  go_wp2_with fail
  go_loopw [1,5,14] (λv1 v5 P wr=>∃(k:Nat) (r:List D),k<=fs.length/\P = Y k/\v1 = Y (n-bytesOf (fs.take k):Nat)/\GI w fs n k wr v5 r) (λ_ _ P _=>fs.length-(intOf P).toNat)
  case atStart=>exact⟨0,[],aZ _,rfl,by simp[bytesOf],Kp.refl _ _,FR.nil _ _⟩
  case round=>
   obtain⟨k,r,hk,rfl,rfl,hM⟩:=hrel
   by_cases a1:k<fs.length
   .obtain⟨f,hf⟩:∃f,fs[k]?=some f:=⟨fs[k],aQ a1⟩;obtain⟨u,hu⟩:∃u,lv[k]?=some u:=⟨lv[k]'(by rw[U.out];exact a1),aQ (by rw[U.out];exact a1)⟩;have an:=ng bb.out k u hu;have hc:wr.cell? ⟨g,k,none⟩=some u:=(hM.kp.cell (bH _ _ an) (λe=>e)).trans an;have B:=b7.out f (aI hf);have S:=(bA.out k u f hu hf);obtain⟨gu,M,rfl⟩:=S.form B;obtain⟨pu,cc,eu,bw⟩:=(S.kept hM.kp).rd;obtain⟨cv,ou,be,bf⟩:=bw B;have ch:f.length<=M:=by
     rcases S.2 with⟨e,_⟩|⟨_,c2,_,e,_,_,h2,_⟩
     .cases e
     .injection e with _ _ e3;omega
    rw[be]at eu;injection eu with ad cd ce
    injection ad with ad
    injection ad with e1 e2 e3
    subst e1;subst e2;subst ce;clear cd be e3;have bB:=bR bf;have C:=bR hM;have HF:=bR hf;have cq:f.length<=1000000000:=by have:=za (aI hf);have:=HL.out;omega
    have cw:(k:Int)<fs.length:=by omega
    clear an S hM hu hf bw bf
    by_cases hz:n-bytesOf (fs.take k)=0
    .have HZ:=bR hz;rw[hz]
     go_wp2_with fail
     refine HR.out _ r _ ?_ C.out.kp;rw[Ct fs n k (by have:=HZ.out;omega)];exact C.out.fr
    .have HZ:=bR hz;have HE:Hid (∃q,n-bytesOf (fs.take k)=q+1):=⟨n-bytesOf (fs.take k)-1,by show _=_;omega⟩;obtain⟨q,hq⟩:=HE.out;have HQ:=bR hq;rw[hq];have cA:(((q+1:Nat):Int) == 0)=false:=by simp;omega
     have a9:Hid (∃m:Nat,m=min (q+1) f.length):=⟨_,rfl⟩;obtain⟨m,hm⟩:=a9.out;have cr:min ((q:Int)+1) (f.length:Int)=(m:Int):=by omega
     have ba:=bR hm;have cm:(m:Int)<=f.length:=by omega
     have bq:(m:Int)<=(q:Int)+1:=by omega
     have cz:(m:Int)<=M:=by omega
     have a:Hid ((f.take m).length=m):=by show _=_;rw[aw];omega
     have bS:Hid (∀j,j<(f.take m).length->wr.cell? ⟨gu,0+j,none⟩=some (b8 ((f.take m).getD j 0))):=λj hj=>by
      have ci:j<m:=by rw[a.out]at hj;exact hj
      rw[bB.out j (by omega)];simp[List.getD,ci]
     clear hz hq hm;have b6:=bR bq;have b5:=bR B;clear cm bq B
     go_wp2_with (first
      |(go_at_call 130;have W:=II (R:=λe w1=>∃v1,e = .returned v1/\BR wr.heap.size w1 v1 (f.take m)/\An wr w1) gu 0 M (f.take m) wr (by have:=a.out;omega) bS.out (λv1 w1 h1 h2=>⟨v1,rfl,h1,h2⟩);rw[a.out]at W;refine W.mono ?_;rintro e w1 ⟨v1,rfl,a7,bm⟩;have cb:=bR a7;have Q:=bR bm;obtain⟨g1,y,rfl⟩:=a7.form (by intro e;have h1:=a.out;rw[e]at h1;have h2:=ba.out;have h3:=List.length_pos_iff.2 b5.out;simp at h1;omega);rw[a.out];clear a7 bm W)
      |(at_builtin;refine Rp _ rfl _ _ rfl w.heap.size u5 _ r rfl (C.out.fr.kept (Q.out.trans (Kp.al _ _ _) (λ_ _ h=>h))).row w1.heap.size (.slice (some ⟨g1,0,none⟩) m y) rfl (ct (bI w1 _) 0) rfl (by have:=Cu (fs.take k) n;have:=List.length_take_le k fs;have:=b3.out;omega) (by have:=C.out.kp.size;have:=Q.out.size;simp;omega) ?_;intro v2 w2 bv bp cl;have ca:=bR bv;have a8:=bR bp;clear bv bp cl)
      |go_in)
     have hB:=bytesOf_take fs k f HF.out;have hQ:=HQ.out;have cf:=ba.out;have h5:=b6.out;have hw:wrap64 ((q:Int)+1-m)=(q:Int)+1-m:=by unfold wrap64;omega
     refine⟨⟨k+1,r++[ag g1 m y],by omega,by go_num,?_,?_,?_⟩,by simp[intOf];omega⟩
     .rw[hw,show((q:Int)+1-m)=((n-bytesOf (fs.take (k+1)):Nat):Int) by omega]
     .exact((C.out.kp.trans Q.out (λ_ _ h=>h)).trans (Kp.al _ _ _) (λ_ _ h=>h)).trans a8.out (λb hb e=>by have:=(C.out.fr.row.lt b e).1;omega)
     .have a4:=Cv fs n k f HF.out (by omega);rw[a4];have co:f.take (n-bytesOf (fs.take k))=f.take m:=by rw[hQ,cf];exact List.take_eq_take_min
      rw[co];have cg:BR wr.heap.size (w1.alloc (.cells #[ag g1 m y] 48)) (ag g1 m y) (f.take m):=by have h:=cb.out;rw[a.out]at h;exact h.kept (Kp.al _ _ _)
      exact FR.snoc (w:=wr) (C.out.fr.kept (Q.out.trans (Kp.al _ _ _) (λ_ _ h=>h))) cg (λb e=>(C.out.fr.row.lt b e).2) (λi x hx b e=>((C.out.fr.at_ i x _ hx (aQ (by rw[<- C.out.fr.len];exact(ak.1 hx).1))).lt b e).2) C.out.kp.size ca.out a8.out
   .have ck:k=fs.length:=by omega
    subst ck
    go_wp2_with fail
    refine HR.out _ r _ ?_ hM.kp;have:=hM.fr;rw[List.take_length]at this;exact this
end
end
section
open Go.RowKit Go.Maps Go.Lib
def yE:∀(fs:List (Aj)),(∀f∈fs,f≠[])->∀n,bytesOf fs<=n->fx fs n=fs
 |[],_,_,_=>rfl
 |f::r,h,n,a=>by rw[qz]at a;have j:0<f.length:=List.length_pos_iff.2 (h f (by simp));unfold fx;rw[if_neg (by omega),aN (by omega),yE r (λx g=>h x (aD _ g)) _ (by omega)]
section
variable {R:Al}
def LA (p o:Nat)(r:D)(fs:List (Aj))(lv:List D)(w:Z)(c0:w.cell? ⟨p,o,none⟩=some r)(M:JR w r fs lv)(l:∀f∈fs,f≠[])(Q:bytesOf fs<=1000000000)(j:fs.length<=1100000)
  (N:∀v' a w',FR w.heap.size w' v' fs a->An w w'->R (.returned v') w') :
  Calls prog 43 #[.pointer (some ⟨p,o,none⟩)] w R:=by
 have C:=bR M;have S:=bR N;have y:=bR Q;have g:=bR j;have h:=bR l;have B:=bR c0;clear M N Q j l c0
 go_enter func43,ntmps43
 go_wp2_with (first
  |(go_at_call 74;refine Fw p o r fs lv _ B.out C.out y.out g.out ?_)
  |(go_at_call 77;refine Kx p o r fs lv (bytesOf fs) _ B.out C.out h.out y.out g.out y.out ?_;intro v' a w' P U;rw[yE fs h.out _ (aW _)]at P)
  |fail)
 exact S.out v' a w' P U
def LH (p o:Nat)(cs:Ak)(T:Af)(f:D)(fs:List (Aj))(lv:List D)(w:Z)(hp:w.heap[p]?=some (.cells cs T (0,0)))(c0:cs[o]?=some f)(M:o+2<cs.size)(h:JR w f fs lv)(l:bytesOf fs<=1000000000)(a:fs.length<=1100000)
  (j:R (.returned (.tuple #[])) (w.setCell ⟨p,o+2,none⟩ (Y (bytesOf fs:Nat)))) :
  Calls prog 40 #[.pointer (some ⟨p,o,none⟩)] w R:=by
 have y:=bR h;have C:=bR j;have B:=bR l;have g:=bR a;have r:Hid (w.cell? ⟨p,o,none⟩=some f):=(ct hp o).trans c0;have c2:w.cell? ⟨p,o+2,none⟩=some cs[o+2]:=(ct hp (o+2)).trans (aP M);have N:=dA hp (o+2);clear h j l a c0 hp
 go_enter func40,ntmps40
 go_wp2_with (first
  |(go_at_call 74;refine Fw p o f fs lv _ r.out y.out B.out g.out ?_)
  |fail)
 refine bodyPost_ret (results_none rfl _ _ _) rfl ?_;exact C.out
end
end
section
open Go.RowKit Go.Maps Go.Lib
def p8 (s:XS):XS:={ s with log:={ s.log with sy:=bytesOf (cG s.log.lg) } }
section
variable {own own':Nat->da}{c:Nat}{w w':Z}{p:Nat}{s:XS}
variable {R:Al}
def dj.files (ok:dj s):(∀f∈cG s.log.lg,f≠[])/\bytesOf (cG s.log.lg)<=1000000000/\(cG s.log.lg).length<=1100000:=by have g:=ok.now;have a2:=ok.cJ;have h:=ok.mW;have j:=yd s.log.lg 400 ok.jQ;have l:s.log.lg.length*417<=5000*417:=Nat.mul_le_mul_right _ (by omega);refine⟨λf a=>(Cp s.log.lg (by omega) ok.jQ f a).1,by omega,?_⟩;rw[oq];omega
def dj.p8 (ok:dj s):dj (p8 s):=
 ⟨ok.now,ok.cJ,ok.begun,ok.up,ok.bU,ok.cE,ok.key,λn t e=>⟨(ok.tx n t e).num,(ok.tx n t e).ft,(ok.tx n t e).nw,(ok.tx n t e).keys,(ok.tx n t e).pos,(ok.tx n t e).oT⟩,ok.nm,ok.nv,ok.mW,ok.jQ,aW _⟩
def R5 (h:XE own c w p s)(ok:dj s)
  (f:∀w',Kp (λb=>(own b).c=c) w w'->w'.heap.size=w.heap.size->XE own c w' p (p8 s)->R (.returned (.tuple #[])) w') :
  Calls prog 40 #[.pointer (some ⟨p,3,none⟩)] w R:=by
 obtain⟨j,ph,l,g,pt,o,sl,h⟩:=h;obtain⟨f1,f2,f3⟩:=ok.files;refine LH p 3 _ 102 s.log.lf (cG s.log.lg) s.log.lv w h.store rfl (by simp) ⟨h.log.nz,h.log.my⟩ f2 f3 ?_;have hb:∀b,b≠p->(w.setCell ⟨p,3+2,none⟩ (Y (bytesOf (cG s.log.lg):Nat))).heap[b]?=w.heap[b]?:=λb hb=>Below.heap_setCell w _ _ b hb
 refine f _ (Kp.sc w _ _ (by show(own p).c=c;rw[h.dc])) (by simp[World.setCell]) ⟨j,ph,l,g,pt,o,sl,h.Ao _ (λb _ _ a _ _=>hb b (λe=>by subst e;rw[h.dc]at a;exact a rfl)) (λ_ _=>rfl) ?_ ?_⟩
 .rw[vF h.store];rfl
 .exact⟨h.log.jD,(h.log.frame (λb _ _ a=>hb b (oB h.dc a (by omega))) (λ_ _ _ _=>rfl)).nz,h.log.jT,(h.log.frame (λb _ _ a=>hb b (oB h.dc a (by omega))) (λ_ _ _ _=>rfl)).my⟩
end
end
end Go.Proofs.YthbdpfccfcceiaaGreatDoor
