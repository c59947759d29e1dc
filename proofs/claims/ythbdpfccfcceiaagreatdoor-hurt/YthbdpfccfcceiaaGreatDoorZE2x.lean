/-
  Of hurt_card.
-/
import Derived.Test.YthbdpfccfcceiaaGreatDoorZB1x
set_option linter.all false
namespace Go.Proofs.YthbdpfccfcceiaaGreatDoor
open Go.Conc
variable {i n s:Nat}{o:Oper}{es:Array Event}{m:Mode}{q:Question}{d:Bool}
def iJ (Wg:Nat)(l:Loc):Prop:=∃a:Addr,l = .cell a/\a.block=Wg
def xL (a:Touch):Prop:=(∃r,a.loc = .obj r)/\a.write=false/\a.kind = .atomic
def uF (a:Touch):Prop:=∀r,a.loc = .obj r->a.write=true->a.kind≠.plain
structure PT (bW Zo Rd:Loc->Prop)(Wg z B:Nat)(t:Trace):Prop where
 clean:∀said,¬Race said t
 zero:∀i a,touchAt t i=some a->a.loc.isMemory=true->Knows t 0 i\/(bW a.loc/\a.kind = .atomic)\/(t.g? i=some z/\((Zo a.loc/\a.kind≠.atomic)\/(Rd a.loc/\a.write=false/\a.kind≠.atomic)\/(iJ Wg a.loc/\a.kind = .atomic)\/xL a/\t.heard i))
 child:∀i a,touchAt t i=some a->a.loc.isMemory=true->Knows t z i\/(bW a.loc/\a.kind = .atomic)\/(t.g? i=some 0/\¬Zo a.loc/\(Rd a.loc->a.write=false)/\(iJ Wg a.loc->a.kind≠.plain)/\uF a)
 over:∀i g,t.g? i=some g->g≠0->g≠z->t.counts i->∃j,t.g? j=some 0/\HappensBefore t i j
 seen:∀op∈t,op.act.low B
section
variable {bW Zo Rd:Loc->Prop}{Wg z B:Nat}{t u:Trace}
def g?_old {i:Nat}(h:i<t.size):(t++u).g? i=t.g? i:=by simp[Trace.g?,getElem?_append_old h]
def wq {z:Nat}(h:∀i g,t.g? i=some g->g≠0->g≠z->t.counts i->∃j,t.g? j=some 0/\HappensBefore t i j)(Q:∀op∈u,op.g=0\/op.g=z\/op.act.touch?=none) :
  ∀i g,(t++u).g? i=some g->g≠0->g≠z->(t++u).counts i->∃j,(t++u).g? j=some 0/\HappensBefore (t++u) i j:=by
 intro i g D B P C;obtain⟨x,R,S⟩:=id C;obtain⟨op,a,l⟩:=touch_of R;rcases getElem?_append_cases a with⟨M,N⟩|⟨_,f⟩
 .obtain⟨j,o,hb⟩:=h i g (by rw[<- g?_old (u:=u) M];exact D) B P ((counts_old M).1 C);have r:j<t.size:=by unfold Trace.g? at o;obtain⟨y,U,_⟩:=aB.1 o;exact lt_size_of_getElem? U
  exact⟨j,by rw[g?_old r];exact o,hb_app u hb⟩
 .have:g=op.g:=by simpa [Trace.g?,a]using D.symm
  rcases Q op f with e|e|e
  .exact bx (this.trans e) B
  .exact bx (this.trans e) P
  .rw[e]at l;cases l
def PT.mono {f:Nat}(h:PT bW Zo Rd Wg z B t)(g:B<=f):PT bW Zo Rd Wg z f t:=⟨h.clean,h.zero,h.child,h.over,λop a=>MemAct.low_mono g (h.seen op a)⟩
def Ok0 (bW Zo Rd:Loc->Prop)(Wg B:Nat)(x:MemAct):Prop:=
 (∀b,x.touch?=some b->(bW b.loc->b.kind≠.plain)/\¬Zo b.loc/\(Rd b.loc->b.write=false)/\(iJ Wg b.loc->b.kind≠.plain)/\uF b)/\x.low B
def ku (bW Zo Rd:Loc->Prop)(Wg B:Nat)(x:MemAct):Prop:=
 (∀b,x.touch?=some b->b.loc.isMemory=true->(bW b.loc->b.kind≠.plain)/\((Zo b.loc/\b.kind≠.atomic)\/(Rd b.loc/\b.write=false/\b.kind≠.atomic)\/(iJ Wg b.loc/\b.kind = .atomic)))/\x.low B
def hear{i:Nat}(f:i<t.size){a:Touch}{p q r:Prop}(h:p\/q\/r\/xL a/\t.heard i):p\/q\/r\/xL a/\(t++u).heard i:=
 h.imp id (·.imp id (·.imp id λk=>⟨k.1,(heard_old f).2 k.2⟩))
def PT.app0 (h:PT bW Zo Rd Wg z B t)(y:∀op∈u,op.g=0/\Ok0 bW Zo Rd Wg B op.act):PT bW Zo Rd Wg z B (t++u):=by
 refine⟨λsaid=>noRace_append (h.clean said) (λop f=>(y op f).1) λi a M op f b hb hc=>?_,λi a M hm=>?_,λi a M hm=>?_,wq h.over λop f=>.inl (y op f).1,seen_app h.seen λop f=>(y op f).2.2⟩
 .obtain⟨k1,S,U,W,Z⟩:=(y op f).2.1 b hb;obtain⟨c1,c2,Q,c4⟩:=hc;rw[<- c1]at k1 S U W;have D:a.kind = .atomic->b.kind = .plain:=λe=>by
   rw[e]at c4;rcases c4 with x|x|⟨_,x,_⟩
   .cases x
   .exact x
   .cases x
  rcases h.zero i a M c2 with j|⟨hs,j⟩|⟨_,⟨j,_⟩|⟨j,N,_⟩|⟨j,N⟩|⟨⟨⟨r,hr⟩,N,Y⟩,_⟩⟩
  .exact j
  .exact bx (D j) (k1 hs)
  .exact bx j S
  .rw[N,U j]at Q;simp at Q
  .exact bx (D N) (W j)
  .rw[N]at Q;exact bx (D Y) (Z r (c1 ▸ hr) (by simpa using Q))
 .obtain⟨x,P,l⟩:=touch_of M;rcases getElem?_append_cases P with⟨R,C⟩|⟨_,o⟩
  .exact(h.zero i a (by rw[touchAt_of C];exact l) hm).imp (·.app u) λk=>k.imp id λk=>⟨by rw[g?_old R];exact k.1,hear R k.2⟩
  .have:=knows_own P;rw[(y x o).1]at this;exact .inl this
 .obtain⟨x,P,l⟩:=touch_of M;rcases getElem?_append_cases P with⟨R,C⟩|⟨_,o⟩
  .exact(h.child i a (by rw[touchAt_of C];exact l) hm).imp (·.app u) λk=>k.imp id λk=>⟨by rw[g?_old R];exact k.1,k.2⟩
  .obtain⟨_,S,U,W,Z⟩:=(y x o).2.1 a l;exact .inr (.inr ⟨by simp[Trace.g?,P,(y x o).1],S,U,W,Z⟩)
def PT.uS (h:PT bW Zo Rd Wg z B t)(o:∀op∈u,op.g=z/\ku bW Zo Rd Wg B op.act):PT bW Zo Rd Wg z B (t++u):=by
 refine⟨λsaid=>noRace_append (h.clean said) (λop f=>(o op f).1) λi a y op f b hb S=>?_,λi a y hm=>?_,λi a y hm=>?_,wq h.over λop f=>.inr (.inl (o op f).1),seen_app h.seen λop f=>(o op f).2.2⟩
 .obtain⟨c1,c2,P,c4⟩:=S;obtain⟨Q,R⟩:=(o op f).2.1 b hb (by rw[<- c1];exact c2);rw[<- c1]at Q R;have N:a.kind = .atomic->b.kind = .plain:=λe=>by
   rw[e]at c4;rcases c4 with x|x|⟨_,x,_⟩
   .cases x
   .exact x
   .cases x
  rcases h.child i a y c2 with M|⟨Y,M⟩|⟨_,m2,m3,m4,_⟩
  .exact M
  .exact bx (N M) (Q Y)
  .rcases R with⟨hz,_⟩|⟨W,Z,_⟩|⟨U,ht⟩
   .exact bx hz m2
   .rw[Z,m3 W]at P;simp at P
   .rw[ht]at c4;rcases c4 with x|x|⟨_,_,x⟩
    .exact bx x (m4 U)
    .cases x
    .cases x
 .obtain⟨x,C,j⟩:=touch_of y;rcases getElem?_append_cases C with⟨D,r⟩|⟨_,l⟩
  .exact(h.zero i a (by rw[touchAt_of r];exact j) hm).imp (·.app u) λk=>k.imp id λk=>⟨by rw[g?_old D];exact k.1,hear D k.2⟩
  .exact .inr (.inr ⟨by simp[Trace.g?,C,(o x l).1],((o x l).2.1 a j hm).2.imp id (·.imp id .inl)⟩)
 .obtain⟨x,C,j⟩:=touch_of y;rcases getElem?_append_cases C with⟨D,r⟩|⟨_,l⟩
  .exact(h.child i a (by rw[touchAt_of r];exact j) hm).imp (·.app u) λk=>k.imp id λk=>⟨by rw[g?_old D];exact k.1,k.2⟩
  .have:=knows_own C;rw[(o x l).1]at this;exact .inl this
def zr(h:¬Race d t)(P:∀op∈u,op.act.touch?=none):¬Race d (t++u):=by
 rintro⟨i,j,g,⟨a,b,D,hb,M⟩,S,U⟩;obtain⟨x,Q,o⟩:=touch_of D;obtain⟨y,R,f⟩:=touch_of hb;rcases getElem?_append_cases R with⟨C,r⟩|⟨C,B⟩
 .have N:i<t.size:=Nat.lt_trans g C;have l:t[i]?=some x:=by rw[<- getElem?_append_old (u:=u) N];exact Q
  exact h ⟨i,j,g,⟨a,b,by simp[Trace.act?,l,o],by simp[Trace.act?,r,f],M⟩,λe=>S (hb_app u e),λe=>U (hb_app u e)⟩
 .rw[P y B]at f;cases f
def PT.mute (h:PT bW Zo Rd Wg z B t)(o:∀op∈u,op.act.touch?=none)(D:∀op∈u,op.act.low B):PT bW Zo Rd Wg z B (t++u):=by
 refine⟨λsaid=>zr (h.clean said) o,λi a r hm=>?_,λi a r hm=>?_,wq h.over λop y=>.inr (.inr (o op y)),seen_app h.seen D⟩
 .obtain⟨x,C,f⟩:=touch_of r;rcases getElem?_append_cases C with⟨l,g⟩|⟨_,j⟩
  .exact(h.zero i a (by rw[touchAt_of g];exact f) hm).imp (·.app u) λk=>k.imp id λk=>⟨by rw[g?_old l];exact k.1,hear l k.2⟩
  .rw[o x j]at f;cases f
 .obtain⟨x,C,f⟩:=touch_of r;rcases getElem?_append_cases C with⟨l,g⟩|⟨_,j⟩
  .exact(h.child i a (by rw[touchAt_of g];exact f) hm).imp (·.app u) λk=>k.imp id λk=>⟨by rw[g?_old l];exact k.1,k.2⟩
  .rw[o x j]at f;cases f
def PT.grow (h:PT bW Zo Rd Wg z B t){k:Nat}(C:B<=k):PT bW (λl=>Zo l\/iJ k l) Rd Wg z B t:=by
 refine⟨h.clean,λi a j hm=>(h.zero i a j hm).imp id λx=>x.imp id λx=>⟨x.1,x.2.imp (λy=>⟨.inl y.1,y.2⟩) id⟩,λi a j hm=>(h.child i a j hm).imp id λx=>x.imp id λx=>⟨x.1,λe=>e.elim x.2.1 ?_,x.2.2⟩,h.over,h.seen⟩;rintro⟨c,e,r⟩;obtain⟨op,o,f⟩:=touch_of j;have g:=h.seen op (Array.mem_of_getElem? o);have:a.loc.low B:=by
  revert g f
  cases op.act with
  |access e=>intro f g;simp only[MemAct.touch?,aH]at f;subst f;exact g
  |mark m=>cases m<;>intro f g<;>simp[MemAct.touch?]at f<;>(subst f;exact g)
  |_=>intro f;simp[MemAct.touch?]at f
 rw[e]at this;have:c.block<B:=this;omega
def PT.MV(h:PT bW Zo Rd Wg z B t)(hd:Deaf t z=0)(hS:∀l,bW l->∃a:Addr,l = .cell a){op:MemOp}(P:op.g=z){c:Nat}{x:Bool}(U:op.act=MemAct.ofEvent ⟨.obj c,x,true⟩)(hc:c<B):PT bW Zo Rd Wg z B (t++#[op])/\Deaf (t++#[op]) z=0:=by
 have Y:Deaf (t++#[op]) z=0:=by rw[Deaf_push,hd];cases x<;>simp[deafStep,U,MemAct.ofEvent]
 refine⟨?_,Y⟩;have C:∀o∈#[op],o.act.low B:=λo f=>by
  have:o=op:=by simpa using f
  rw[this,U];cases x<;>exact hc
 cases x with
 |true=>
  refine h.mute (λo f=>?_) C;have:o=op:=by simpa using f
  rw[this,U]
  rfl
 |false=>
  have R:op.act.touch?=some ⟨.obj c,false,.atomic⟩:=by rw[U];rfl
  have f:(t++#[op])[t.size]?=some op:=by simp
  have j:∀o∈#[op],o=op:=λo f=>by simpa using f
  refine⟨λsaid=>noRace_append (h.clean said) (g:=z) (λo f=>by rw[j o f,P]) λi a N o f b hb W=>?_,λi a N hm=>?_,λi a N hm=>?_,wq h.over λo f=>.inr (.inl (by rw[j o f];exact P)),seen_app h.seen C⟩
  .rw[j o f,R]at hb;cases hb;obtain⟨c1,c2,Z,c4⟩:=W;dsimp only at c1 Z c4;rcases h.child i a N c2 with hk|⟨hs,hk⟩|⟨_,_,_,_,m5⟩
   .exact hk
   .obtain⟨a',e⟩:=hS _ hs;rw[c1]at e;cases e
   .have hw:a.write=true:=by simpa using Z
    have hp:a.kind = .plain:=by
     rcases c4 with x|x|⟨_,_,x⟩
     .exact x
     .cases x
     .cases x
    exact bx hp (m5 c c1 hw)
  .obtain⟨y,S,r⟩:=touch_of N;rcases getElem?_append_cases S with⟨Q,D⟩|⟨Q,M⟩
   .exact(h.zero i a (by rw[touchAt_of D];exact r) hm).imp (·.app _) λk=>k.imp id λk=>⟨by rw[g?_old Q];exact k.1,hear Q k.2⟩
   .have e:i=t.size:=by have:=lt_size_of_getElem? S;simp at this;omega
    subst e;rw[j y M,R]at r;cases r;exact .inr (.inr ⟨by simp[Trace.g?,P],.inr (.inr (.inr ⟨⟨⟨c,rfl⟩,rfl,rfl⟩,⟨z,by simp[Trace.g?,P],by rw[deaf_old (aW _)];exact hd⟩⟩))⟩)
  .obtain⟨y,S,r⟩:=touch_of N;rcases getElem?_append_cases S with⟨Q,D⟩|⟨_,M⟩
   .exact(h.child i a (by rw[touchAt_of D];exact r) hm).imp (·.app _) λk=>k.imp id λk=>⟨by rw[g?_old Q];exact k.1,k.2⟩
   .have:=knows_own S;rw[j y M,P]at this;exact .inl this
end
section
variable {bW Zo Rd:Loc->Prop}{Wg z B:Nat}{t u:Trace}
abbrev iw (z:Nat)(fn fn':Ag)(pos pos':String):Trace:=#[{ g:=0,fn:=fn,pos:=pos,act:=.go z },{ g:=z,fn:=fn',pos:=pos',act:=.start }]
def sM (fn fn':Ag)(pos pos':String)(g:Nat):(t++iw z fn fn' pos pos').deaf g (t.size+1)=Deaf t g/\Deaf (t++iw z fn fn' pos pos') g=Deaf t g:=by
 have e0:(t++iw z fn fn' pos pos')[t.size]?=some { g:=0,fn:=fn,pos:=pos,act:=.go z }:=by rw[Array.getElem?_append_right (aW _)];simp
 have e1:(t++iw z fn fn' pos pos')[t.size+1]?=some { g:=z,fn:=fn',pos:=pos',act:=.start }:=by rw[Array.getElem?_append_right (Nat.le_succ _)];simp
 have d0:(t++iw z fn fn' pos pos').deaf g (t.size+1)=Deaf t g:=by rw[Trace.deaf,e0];exact deaf_old (aW _)
 refine⟨d0,?_⟩;have:(t++iw z fn fn' pos pos').size=t.size+2:=by simp
 rw[Deaf,this,Trace.deaf,e1];exact d0
def PT.fork (h:Past bW B t)(M:Deaf t z=0)(fn fn':Ag)(pos pos':String):PT bW (λ_=>False) Rd Wg z B (t++iw z fn fn' pos pos'):=by
 have e0:(t++iw z fn fn' pos pos')[t.size]?=some { g:=0,fn:=fn,pos:=pos,act:=.go z }:=by rw[Array.getElem?_append_right (aW _)];simp
 have e1:(t++iw z fn fn' pos pos')[t.size+1]?=some { g:=z,fn:=fn',pos:=pos',act:=.start }:=by rw[Array.getElem?_append_right (Nat.le_succ _)];simp
 have mute:∀op∈iw z fn fn' pos pos',op.act.touch?=none:=by intro op f;simp[iw]at f;rcases f with rfl|rfl<;>rfl
 have l:HappensBefore (t++iw z fn fn' pos pos') t.size (t.size+1):=
  .single (.inr ⟨.spawn (child:=z) (by rw[act?_of e0]) (by rw[act?_of e1]) (by simp[Trace.g?,e1]),⟨0,by simp[Trace.g?,e0],by rw[deaf_old (aW _)];exact h.hears⟩,⟨z,by simp[Trace.g?,e1],by rw[(sM fn fn' pos pos' z).1,M]⟩⟩)
 have old:∀i a,touchAt (t++iw z fn fn' pos pos') i=some a->touchAt t i=some a:=by
  intro i a o;obtain⟨x,P,j⟩:=touch_of o;rcases getElem?_append_cases P with⟨Q,r⟩|⟨_,y⟩
  .rw[touchAt_of r];exact j
  .rw[mute x y]at j;cases j
 refine⟨λsaid=>zr (h.clean said) mute,λi a o hm=>?_,λi a o hm=>?_,λi g N C _ D=>?_,seen_app h.seen ?_⟩
 .exact(h.known i a (old i a o) hm).imp (·.app _) .inl
 .refine(h.known i a (old i a o) hm).imp (λk=>?_) .inl;exact⟨t.size+1,_,e1,rfl,.inr ((k.hb_new (aW _) e0 rfl).trans l)⟩
 .exact handedOver_app h.over (λop f=>.inr (mute op f)) i g N C D
 .intro op f;simp[iw]at f;rcases f with rfl|rfl<;>trivial
def PT.join(h:PT bW Zo Rd Wg z B t){a:Addr}{r q:Nat}(hr:t.act? r=some (.mark (.releaseMerge a)))(ad:t.g? r=some z)(Y:t.heard r)(M:∀i,r<i->t.g? i=some z->¬t.counts i)
  (hq:t.act? q=some (.mark (.acquire a))) (Q:t.g? q=some 0) (W:t.heard q) (Z:r<q) (U:∀k,r<k->k<q->t.act? k≠some (.mark (.release a))) (hd:Deaf t 0=0):Past (λl=>bW l\/iJ Wg l) B t:=by
 have j:HappensBefore t r q:=.single (.inr ⟨.marked Z (.inr hr) hq U,Y,W⟩);obtain⟨y,hy,am⟩:=aB.1 Q;have D:∀i,t.g? i=some z->t.counts i->HappensBefore t i q:=by
  intro i hi o;rcases Nat.lt_or_ge i r with C|a0
  .exact .trans (.single (.inl ⟨C,z,hi,ad⟩)) j
  .rcases Nat.lt_or_ge r i with C|an
   .exact bx o (M i C hi)
   .obtain rfl:i=r:=by omega
    exact j
 refine⟨h.clean,λi b hb hm=>?_,λi g R h0 o=>?_,hd,h.seen⟩
 .rcases h.zero i b hb hm with f|⟨hs,f⟩|⟨R,f⟩
  .exact .inl f
  .exact .inr ⟨.inl hs,f⟩
  .by_cases o:t.counts i
   .exact .inl ⟨q,y,hy,am,.inr (D i R o)⟩
   .have N:b.kind = .atomic:=by refine Classical.byContradiction λhn=>o ⟨b,hb,hm,.inl hn⟩
    rcases f with⟨_,f⟩|⟨_,_,f⟩|⟨f,S⟩|⟨_,f⟩
    .exact bx N f
    .exact bx N f
    .exact .inr ⟨.inr f,S⟩
    .exact bx ⟨b,hb,hm,.inr f⟩ o
 .by_cases P:g=z
  .subst P;exact⟨q,Q,D i R o⟩
  .exact h.over i g R h0 P o
end
section
open Relation (TransGen)
abbrev jJ (v:Z)(τ:Nat->Question->Nat)(d:Nat):Z:=on v τ d
section
variable {Q:Ad}{X:Ag->Prop}{T:dq}{Fin:Ai->Z->Prop}{fr fr':Ai}{cs cs':List Ai}{v v':Z}{x y z:Ai × List Ai × Z}
def Tr.child (h:Tr Q X T Fin x.1 x.2.1 x.2.2)(r:Sub Q Fin y x):Tr Q X T Fin y.1 y.2.1 y.2.2:=by obtain⟨o,B,d,es,g⟩:=r;obtain⟨_,hb⟩:=h.unfold;obtain⟨_,hb⟩:=hb.resolve_left o;obtain⟨f,a,C,l,e,t⟩:=hb B d;rw[g]at e;simp only[GStep.go.injEq]at e;obtain⟨e1,e2,_⟩:=e;have j:y.1=f:=congrArg Goroutine.frame e1;have a2:y.2.1=a:=congrArg Goroutine.callers e1;rw[j,a2,e2];exact t
def gU (Q:Ad)(Fin:Ai->Z->Prop)(x y:Ai × List Ai × Z):Prop:=x=y\/TransGen (Sub Q Fin) y x
def gU.refl:gU Q Fin x x:=.inl rfl
def mB{α:Type}{r:α->α->Prop}{a b c:α}(h:TransGen r a b)(k:TransGen r b c):TransGen r a c:=by
 induction k with
 |single k=>exact .tail h k
 |tail _ k f=>exact .tail f k
def gU.trans (h:gU Q Fin x y)(k:gU Q Fin y z):gU Q Fin x z:=by
 rcases h with rfl|h
 .exact k
 .rcases k with rfl|k
  .exact .inr h
  .exact .inr (mB k h)
def gU.sub (h:Sub Q Fin y x):gU Q Fin x y:=.inr (.single h)
def oR (h:TransGen (Sub Q Fin) y x):Tr Q X T Fin x.1 x.2.1 x.2.2->Tr Q X T Fin y.1 y.2.1 y.2.2:=by
 induction h with
 |single h=>exactλt=>t.child h
 |tail _ k a=>exactλt=>a (t.child k)
def gU.tr (h:gU Q Fin x y)(t:Tr Q X T Fin x.1 x.2.1 x.2.2):Tr Q X T Fin y.1 y.2.1 y.2.2:=by
 rcases h with rfl|h
 .exact t
 .exact oR h t
def gU.go(a:cs≠[])(τ:Nat->Question->Nat)(d:Nat)(h:stepG Q true (G fr cs) (on v τ d) = .go (G fr' cs') v' es):gU Q Fin (fr,cs,v) (fr',cs',v'):=
 .sub ⟨λe=>a e.1,τ,d,es,h⟩
def Tr.goes (t:Tr Q X T Fin fr cs v)(a:cs≠[])(τ:Nat->Question->Nat)(d:Nat):∃fr' cs' v' es,stepG Q true (G fr cs) (jJ v τ d) = .go (G fr' cs') v' es/\Tr Q X T Fin fr' cs' v'/\gU Q Fin (fr,cs,v) (fr',cs',v'):=by
 obtain⟨_,hb⟩:=t.unfold;obtain⟨_,hb⟩:=hb.resolve_left λe=>a e.1
 obtain⟨fr',cs',v',es,e,f⟩:=hb τ d;exact⟨fr',cs',v',es,e,f,.go a τ d e⟩
def Tr.oper(t:Tr Q X T Fin fr cs v)(M:cs≠[]){ops:Am}{rest:List Nat}{k:List Item}(hm:fr.mode = .run)(r:fr.kind = .normal)(y:fr.todo = .inRegion ops (i::rest)::k)(P:ops[i]?=some o)
  (S:Region.wanted o (yielded ops fr.tmps)=true) (N:∀c,o.op≠.defer c) (τ:Nat->Question->Nat) (d:Nat) (hp:∀e v',(execOp fr.eval o).run Q (jJ v τ d) = .halt e v'->nP e):∃nx v',(execOp fr.eval o).run Q (jJ v τ d) = .ok nx v':=by
 obtain⟨fr',cs',v',es,e,Y,_⟩:=t.goes M τ d;rw[uc hm y P S N]at e;have f:=Sem.runT_eq Q (execOp fr.eval o) (jJ v τ d) #[];cases C:(execOp fr.eval o).run Q (jJ v τ d)with
 |ok nx B=>exact⟨nx,B,rfl⟩
 |halt h B=>
  exfalso
  have a:=hp h B C;rw[C]at f;cases h with
  |panic W=>rw[sC r f]at e;simp only[GStep.go.injEq]at e;have D:fr.raise [{ v:=W,recovered:=false }]=fr':=congrArg Goroutine.frame e.1;have a2:=Y.unfold.1.mode;rw[<- D]at a2;simp only[Frame.raise,hm]at a2;rcases a2 with a2|a2<;>cases a2
  |stuck Z=>obtain⟨U,l,j⟩:=py (cs:=cs) r f;rw[j]at e;cases e
  |unsupported u=>
   have R:∀g,u≠.initOrder g:=λg h=>by subst h;exact a.elim
   obtain⟨U,l,j⟩:=uV (cs:=cs) R r f;rw[j]at e;cases e
  |_=>exact a.elim
end
end
section
open Relation (TransGen)
abbrev bP:=@stepG_seq
abbrev bJ:=@stepG_region_end
section
variable {Q:Ad}{X:Ag->Prop}{T:dq}{Fin:Ai->Z->Prop}{fr fr':Ai}{cs cs':List Ai}{v v':Z}{x y z:Ai × List Ai × Z}
def eF (Fin:Ai->Z->Prop):Prop:=∀fr v a d,Fin fr v->Fin fr (on v a d)
def Ru (Q:Ad)(Fin:Ai->Z->Prop)(x y:Ai × List Ai × Z):Prop:=∃a d,gU Q Fin x (y.1,y.2.1,on y.2.2 a d)
def Sub.on (hF:eF Fin)(h:Sub Q Fin y x)(τ:Nat->Question->Nat)(d:Nat):Sub Q Fin y (x.1,x.2.1,jJ x.2.2 τ d):=by obtain⟨g,a,f,es,e⟩:=h;exact⟨λk=>g ⟨k.1,hF _ (jJ x.2.2 τ d) x.2.2.tape x.2.2.drawn k.2⟩,a,f,es,e⟩
def gU.on (hF:eF Fin)(h:gU Q Fin x y)(τ:Nat->Question->Nat)(d:Nat):Ru Q Fin (x.1,x.2.1,jJ x.2.2 τ d) y:=by
 rcases h with rfl|h
 .exact⟨τ,d,.inl rfl⟩
 .refine⟨y.2.2.tape,y.2.2.drawn,.inr ?_⟩;show TransGen (Sub Q Fin) y _;cases h with
  |single h=>exact .single (h.on hF τ d)
  |tail h k=>exact .tail h (k.on hF τ d)
def Ru.refl:Ru Q Fin x x:=⟨x.2.2.tape,x.2.2.drawn,.inl rfl⟩
def Ru.trans (hF:eF Fin)(h:Ru Q Fin x y)(k:Ru Q Fin y z):Ru Q Fin x z:=by obtain⟨g,d,h⟩:=h;obtain⟨j,l,k⟩:=k;obtain⟨a,d2,f⟩:=k.on hF g d;exact⟨a,d2,h.trans f⟩
def Ru.tr (hF:eF Fin)(h:Ru Q Fin x y)(t:Tr Q X T Fin x.1 x.2.1 x.2.2):Tr Q X T Fin y.1 y.2.1 y.2.2:=by obtain⟨a,d,h⟩:=h;exact Tr.on (v:=jJ y.2.2 a d) hF (h.tr t) y.2.2.tape y.2.2.drawn
def Ru.go(a:cs≠[])(τ:Nat->Question->Nat)(d:Nat){τ':Nat->Question->Nat}{d':Nat}(h:stepG Q true (G fr cs) (on v τ d) = .go (G fr' cs') (on v' τ' d') es):Ru Q Fin (fr,cs,v) (fr',cs',v'):=
 ⟨τ',d',gU.go a τ d h⟩
def bV (Q:Ad)(Fin:Ai->Z->Prop)(x y:Ai × List Ai):Prop:=∀v,Ru Q Fin (x.1,x.2,v) (y.1,y.2,v)
def bV.refl {x:Ai × List Ai}:bV Q Fin x x:=λ_=>.refl
def bV.trans (hF:eF Fin){x y z:Ai × List Ai}(h:bV Q Fin x y)(k:bV Q Fin y z):bV Q Fin x z:=λv=>(h v).trans hF (k v)
def bV.go(a:cs≠[])(h:∀w,stepG Q true (G fr cs) w = .go (G fr' cs') w es):bV Q Fin (fr,cs) (fr',cs'):=
 λv=>Ru.go a v.tape v.drawn (τ':=v.tape) (d':=v.drawn) (h (on v v.tape v.drawn))
variable {b:Ai}{a:Act}{k:List Item}
def bV.skip (f:cs≠[]):bV Q Fin (b.at a (.code .skip::k),cs) (b.at a k,cs):=.go f λ_=>stepG_skip
def bV.seq(f:cs≠[]){x y:Code}:bV Q Fin (b.at a (.code (.seq x y)::k),cs) (b.at a (.code x::.code y::k),cs):=.go f λ_=>bP
def bV.cond(f:cs≠[]){c:Ae}{x y:Code}{t:Bool}(h:a.eval c = .bool t):bV Q Fin (b.at a (.code (.cond c x y)::k),cs) (b.at a (.code (if t then x else y)::k),cs):=.go f λ_=>stepG_cond h
def bV.region(f:cs≠[]){id:Nat}{ops:Am}:bV Q Fin (b.at a (.code (.region id ops false)::k),cs) (b.at a (.inRegion ops (List.range ops.size)::k),cs):=.go f λ_=>stepG_region
def bV.fM (f:cs≠[]){ops:Am}:bV Q Fin (b.at a (.inRegion ops []::k),cs) (b.at a k,cs):=.go f λ_=>bJ
def bV.block(f:cs≠[]){id:Nat}{c:Code}:bV Q Fin (b.at a (.code (.block id c)::k),cs) (b.at a (.code c::.inBlock id::k),cs):=.go f λ_=>stepG_block
def bV.loop(f:cs≠[]){c:Code}:bV Q Fin (b.at a (.code (.loop c)::k),cs) (b.at a (.code c::.inLoop c::k),cs):=.go f λ_=>stepG_loop
def bV.inLoop(f:cs≠[]){c:Code}:bV Q Fin (b.at a (.inLoop c::k),cs) (b.at a (.code c::.inLoop c::k),cs):=.go f λ_=>stepG_inLoop
def bV.exit(f:cs≠[]){id:Nat}{k':List Item}(h:exitTo id k=some k'):bV Q Fin (b.at a (.code (.exit id)::k),cs) (b.at a k',cs):=.go f λ_=>stepG_exit h
def bV.ret (f:cs≠[]):bV Q Fin (b.at a (.code .ret::k),cs) ({ b.at a (.code .ret::k)with mode:=.returning },cs):=.go f λ_=>stepG_ret'
def bV.fin (f:cs≠[]):bV Q Fin (b.at a [],cs) ({ b.at a []with mode:=.returning },cs):=.go f λ_=>stepG_end
def bV.value(f:cs≠[]){ops:Am}{rest:List Nat}{x:D}(j:ops[i]?=some o)(g:o.guard=none)(h:b.kind≠.early)(l:∀w,(execOp a.eval o).run Q w = .ok (.value x) w) :
  bV Q Fin (b.at a (.inRegion ops (i::rest)::k),cs) (b.at (a.put o.dst x) (.inRegion ops rest::k),cs):=λv=>
 Ru.go f v.tape v.drawn (τ':=v.tape) (d':=v.drawn) (stepG_value j (by simp[Region.wanted,g]) h (l (on v v.tape v.drawn)))
def Az{P:Ad}{w:Z}{ops:Am}{rest:List Nat}{f:Ag}{fn:Func}{c:Code}{args:Array Ae}{ats:Array Af}(D:ops[i]?=some o)(B:o.guard=none)(C:b.kind≠.early)(j:o.op = .call { callee:=.value (.func f),args,argTypes:=ats })
  (y : P.funcs[f]? = some fn) (h : (fn.name == "runtime.NumGoroutine") = false) (hb : fn.body = some c) :
  stepG P true (G (b.at a (.inRegion ops (i::rest)::k)) cs) w = .go (G ((base f).at { tmps:=args.map a.eval++Array.replicate (fn.ntmps-args.size) undef,defers:=[] } [.code c]) (b.at a (.inRegion ops (i::rest)::k)::cs)) w #[]:=by
 have:=goes_call (P:=P) (main:=true) (b:=b) (a:=a) (k:=k) (cs:=cs) (w:=w) (rest:=rest)
  (K:=λg r es=>stepG P true (G (b.at a (.inRegion ops (i::rest)::k)) cs) w = .go g r es->stepG P true (G (b.at a (.inRegion ops (i::rest)::k)) cs) w = .go (G ((base f).at { tmps:=args.map a.eval++Array.replicate (fn.ntmps-args.size) undef,defers:=[] } [.code c]) (b.at a (.inRegion ops (i::rest)::k)::cs)) w #[])
  D (by simp[Region.wanted,B]) C j y h hb (λe=>by rw[e,Array.size_map])
 cases l:stepG P true (G (b.at a (.inRegion ops (i::rest)::k)) cs) w with
 |go g r es=>rw[l]at this;exact this rfl
 |_=>rw[l]at this;exact this.elim
def bV.call(j:cs≠[]){ops:Am}{rest:List Nat}{f:Ag}{fn:Func}{c:Code}{args:Array Ae}{ats:Array Af}(B:ops[i]?=some o)(r:o.guard=none)(y:b.kind≠.early)(h:o.op = .call { callee:=.value (.func f),args,argTypes:=ats })
  (l : Q.funcs[f]? = some fn) (g : (fn.name == "runtime.NumGoroutine") = false) (hb : fn.body = some c) :
  bV Q Fin (b.at a (.inRegion ops (i::rest)::k),cs) ((base f).at { tmps:=args.map a.eval++Array.replicate (fn.ntmps-args.size) undef,defers:=[] } [.code c],b.at a (.inRegion ops (i::rest)::k)::cs):=
 .go j λ_=>Az B r y h l g hb
/-! ### a drawn bit -/
def cp (d : Option Nat)(o : Op) : Oper := ⟨d,o,0, "",#[],none⟩
def je (s:Nat):Am:=#[cp (some s) (.move (.const (.bool true))),cp (some s) (.move (.const (.bool false)))]
def Fa (m:Bool)(s t:Nat):Region.schedule m (je s) t=if t % 2=0 then [0,1]else [1,0]:=by
 have a:Region.departs (je s)=false:=by simp[Region.departs,je,cp]
 have e:Region.schedule m (je s) t=Region.linearise .any (je s) t:=by simp[Region.schedule,a]
 rw[e];rcases Nat.mod_two_eq_zero_or_one t with h|h
 .simp[Region.linearise,Region.linearise.go,je,cp,h,Nat.mod_one,List.range_succ,aU]
 .simp[Region.linearise,Region.linearise.go,je,cp,h,Nat.mod_one,List.range_succ,aU]
def Ru.bit(hF:eF Fin)(f:cs≠[])(g:b.kind≠.early){id:Nat}(t:Bool):bV Q Fin (b.at a (.code (.region id (je s) true)::k),cs) (b.at ((a.put (some s) (.bool (!t))).put (some s) (.bool t)) k,cs):=by
 intro v;have h:Ru Q Fin (b.at a (.code (.region id (je s) true)::k),cs,v) (b.at a (.inRegion (je s) (if t then [1,0]else [0,1])::k),cs,v):=by refine Ru.go f (λ_ _=>if t then 1 else 0) 0 (τ':=λ_ _=>if t then 1 else 0) (d':=1) (es:=#[]) ?_;simp only[G,stepG,stepG.exec,Frame.at,Bool.not_true,bg,if_false,choose,Sem.run,Question.forced,Question.cut,Fa];cases t<;>simp[on]
 refine h.trans hF ?_;cases t
 .exact((bV.value f (o:=cp (some s) (.move (.const (.bool true)))) rfl rfl g λ_=>rfl).trans hF ((bV.value f (o:=cp (some s) (.move (.const (.bool false)))) rfl rfl g λ_=>rfl).trans hF (bV.fM f))) v
 .exact((bV.value f (o:=cp (some s) (.move (.const (.bool false)))) rfl rfl g λ_=>rfl).trans hF ((bV.value f (o:=cp (some s) (.move (.const (.bool true)))) rfl rfl g λ_=>rfl).trans hF (bV.fM f))) v
end
end
def kV (jf:Ag):Oper:=cp none (.call ⟨.value (.func jf),#[],#[]⟩)
def dC (jf:Ag):Code:=.region 0 #[kV jf] false
def iS:Int:=1152921504606846976
def C9:Am:=#[cp none (.box bad (.const (.agg #[]))),cp (some 0) (.binOp .add 3 (.tmp 0) (.const (Y 1)) 3)]
def vP:Code:=
 .seq (.region 1 (je 1) true) (.cond (.tmp 1) (.exit 0)
  (.seq (.region 2 #[cp (some 2) (.binOp .lss 3 (.tmp 0) (.const (Y iS)) 3)] false)
   (.cond (.tmp 2) (.region 3 C9 false) (.exit 0))))
def vO:Code:=.seq (.region 4 #[cp (some 0) (.move (.const (Y 0)))] false) (.block 0 (.loop vP))
structure lY (Q:Ad)(jf:Ag)(fn:Func):Prop where
 at_:Q.funcs[jf]?=some fn
 name : (fn.name == "runtime.NumGoroutine") = false
 body:fn.body=some vO
 ntmps:fn.ntmps=3
 results:fn.results=#[]
def JF (jf:Ag)(c:Nat)(fr:Ai):Prop:=∃x y,fr=(base jf).at ⟨#[Y c,x,y],[]⟩ [.code vP,.inLoop vP,.inBlock 0]
def lA:Obj:=.cells #[] bad (0,0)
def cy (v:Z)(o:Obj):Z:={ v with heap:=v.heap.push o }
section
variable {Q:Ad}{Fin:Ai->Z->Prop}{fr:Ai}{cs:List Ai}{v:Z}{jf:Ag}{fn:Func}{b:Ai}{a:Act}{k:List Item}{c:Nat}
def base_kind (f:Ag):(base f).kind≠.early:=by simp[base]
def lY.enter (f:lY Q jf fn)(hF:eF Fin)(j:cs≠[])(l:b.kind≠.early):∃g,JF jf 0 g/\bV Q Fin (b.at a (.inRegion #[kV jf] [0]::k),cs) (g,b.at a (.inRegion #[kV jf] [0]::k)::cs):=by
 refine⟨_,⟨undef,undef,rfl⟩,?_⟩;have h:=bV.call (Q:=Q) (Fin:=Fin) (b:=b) (a:=a) (k:=k) (ops:=#[kV jf]) (i:=0) (rest:=[]) (o:=kV jf) (args:=#[]) j rfl rfl l rfl f.at_ f.name f.body;have e:(#[].map a.eval++Array.replicate (fn.ntmps-(#[]:Array Ae).size) undef:Ak)=#[undef,undef,undef]:=by rw[f.ntmps];simp;rfl
 rw[e]at h;refine h.trans hF ((bV.seq (by simp)).trans hF ((bV.region (by simp)).trans hF ((bV.value (by simp) (o:=cp (some 0) (.move (.const (Y 0)))) rfl rfl (base_kind jf) λ_=>rfl).trans hF ((bV.fM (by simp)).trans hF ((bV.block (by simp)).trans hF (bV.loop (by simp)))))))
def JF.leave (f:lY Q jf fn)(hF:eF Fin)(h:JF jf c fr):bV Q Fin (fr,b.at a (.inRegion #[kV jf] [0]::k)::cs) (b.at a (.inRegion #[kV jf] []::k),cs):=by
 obtain⟨x,y,rfl⟩:=h;refine(bV.seq (by simp)).trans hF ((Ru.bit hF (by simp) (base_kind jf) true).trans hF ((bV.cond (by simp) (t:=true) rfl).trans hF ((bV.exit (by simp) (k':=[]) rfl).trans hF ((bV.fin (by simp)).trans hF ?_))));refine .go (by simp) (es:=#[]) λw=>?_;rw[stepG_leave (b:=base jf) rfl rfl f.at_ (results_none f.results _ Q w) (events_results_none f.results _ _)]
 rfl
def JF.push (hF:eF Fin)(h:JF jf c fr)(g:(c:Int)<iS)(a:cs≠[])(v:Z):∃f,JF jf (c+1) f/\Ru Q Fin (fr,cs,v) (f,cs,cy v lA):=by
 obtain⟨x,y,rfl⟩:=h;refine⟨_,⟨.bool false,.bool true,rfl⟩,?_⟩;refine(((bV.seq a).trans hF ((Ru.bit hF a (base_kind jf) false).trans hF ((bV.cond a (t:=false) rfl).trans hF ((bV.seq a).trans hF ((bV.region a).trans hF ((bV.value a (o:=cp (some 2) (.binOp .lss 3 (.tmp 0) (.const (Y iS)) 3)) (x:=.bool true) rfl rfl (base_kind jf) λw=>?_).trans hF ((bV.fM a).trans hF
  ((bV.cond a (t:=true) rfl).trans hF (bV.region a))))))))) v).trans hF ?_
 .simp[execOp,cp,binOp,eqGuard,Op.intCmp,Act.eval,Act.put,g]
 refine Ru.trans hF (y:=((base jf).at ⟨#[Y c,.bool false,.bool true],[]⟩ [.inRegion C9 [1],.inLoop vP,.inBlock 0],cs,cy v lA)) ?_ ?_
 .exact Ru.go a v.tape v.drawn (τ':=v.tape) (d':=v.drawn) (stepG_value (o:=cp none (.box bad (.const (.agg #[])))) (v:=ab v.heap.size) (w':=cy v lA) rfl rfl (base_kind jf) rfl)
 .refine((bV.value a (o:=cp (some 0) (.binOp .add 3 (.tmp 0) (.const (Y 1)) 3)) (x:=Y ((c+1:Nat):Int)) rfl rfl (base_kind jf) λw=>?_).trans hF ((bV.fM a).trans hF (bV.inLoop a))) _;simp[execOp,cp,binOp,eqGuard,Op.intArith,Act.eval];have j:(c:Int)<1152921504606846976:=g;rw[IntKind.wrap_i64];omega
end
def qn (w:Z):Prop:=∀p a x,∃h,w.farLoad p a x = .error h
def Ht.no {Lk:Loop->Prop}{v:Z}(h:Ht Lk v):qn v:=λp a x=>(Cl h p a x).imp λ_ h=>h.1
def Rows (U:Addr->Prop)(w:Z):Prop:=∀a,U a->∃c e f,w.heap[a.block]?=some (Obj.cells c e f)
structure gK (U:Addr->Prop)(w w':Z):Prop where
 size:w.heap.size<=w'.heap.size
 old:∀(k:Nat) o,w.heap[k]?=some o->w'.heap[k]?=some o\/∃c e fz c',o = .cells c e fz/\w'.heap[k]?=some (.cells c' e fz)/\c'.size=c.size/\∀i:Nat,¬U ⟨k,i,none⟩->c'[i]?=c[i]?
section
variable {U:Addr->Prop}{w w' w2:Z}
def gK.refl:gK U w w:=⟨aW _,λ_ _ h=>.inl h⟩
def gK.trans (h:gK U w w')(k:gK U w' w2):gK U w w2:=by
 refine⟨aX h.size k.size,λr o M=>?_⟩;rcases h.old r o M with e|⟨c,e,f,j,rfl,e1,e2,e3⟩
 .exact k.old r o e
 .rcases k.old r _ e1 with a | ⟨d,a,D,l,e4,y,B,C⟩
  .exact .inr ⟨c,e,f,j,rfl,a,e2,e3⟩
  .cases e4;exact .inr ⟨c,e,f,l,rfl,y,B.trans e2,λi g=>(C i g).trans (e3 i g)⟩
def gK.cell(h:gK U w w'){a:Addr}{x:D}(f:w.cell? a=some x)(y:¬U a):w'.cell? a=some x:=by
 unfold World.cell? at f ⊢;cases g:w.heap[a.block]? with
 |none=>rw[g]at f;cases f
 |some o=>
  rw[g]at f;cases o with
  |cells c e C=>
   dsimp only at f;split at f
   .cases f
   .rename_i l
    rcases h.old _ _ g with e1|⟨c1,e1,r,B,e0,e2,e3,e4⟩
    .rw[e1];dsimp only;rw[if_neg l];exact f
    .cases e0;rw[e2];dsimp only;rw[if_neg l];have j:a.spot=none:=by cases h:a.spot<;>simp_all
     rw[e4 a.off (by obtain⟨b,o,s⟩:=a;cases j;exact y)];exact f
  |_=>cases f
def gK.push (o:Obj):gK U w (cy w o):=⟨by simp[cy],λk x a=>.inl (by have:=(aO.1 a).1;simp only[cy];rw[aq,if_neg (by omega)];exact a)⟩
def gK.set{a:Addr}{x:D}(y:U a):gK U w (w.setCell a x):=by
 refine⟨by simp[World.setCell],λk o f=>?_⟩
 by_cases j:a.block=k
 .subst j;cases o with
  |cells c e l=>
   refine .inr ⟨c,e,l,if a.spot.isSome then c else c.setIfInBounds a.off x,rfl,by simp[World.setCell,aV,f],by split<;>simp,λi r=>?_⟩;split
   .rfl
   .rename_i B
    refine aS λe=>r ?_;have g:a.spot=none:=by cases h:a.spot<;>simp_all
    obtain⟨b,o,s⟩:=a;cases g;cases e;exact y
  |_=>exact .inl (by simp[World.setCell,aV,f])
 .exact .inl (by simp[World.setCell,aV,j,f])
def Rows.oh (h:Rows U w)(j:gK U w w'):Rows U w':=by
 intro a g;obtain⟨c,e,r,l⟩:=h a g;rcases j.old _ _ l with e1|⟨_,e2,f,o,_,e1,_⟩
 .exact⟨_,_,_,e1⟩
 .exact⟨_,_,_,e1⟩
end
section
variable {P:Ad}{α β:Type}{U:Addr->Prop}{Post:α->Prop}{PostB:β->Prop}
def Mk (P:Ad)(U:Addr->Prop)(Post:α->Prop)(s:Sem α):Prop:=∀w es,Rows U w->∀a w' f,s.runT P w es=(.ok a w',f)->
 Post a/\gK U w w'/\∃g,f=es++g/\∀e∈g,e.write=true->∃b,e.loc = .cell b/\U b
def Mk.pure {a:α}(h:Post a):Mk P U Post (Pure.pure a:Sem α):=by intro w es hv a w' f e;cases e;exact⟨h,.refl,#[],by simp,by simp⟩
def Mk.bind {s:Sem α}{f:α->Sem β}(h:Mk P U Post s)(k:∀a,Post a->Mk P U PostB (f a)):Mk P U PostB (s >>= f):=by
 intro w es hv b w' l e;have:=Sem.runT_bind' P s f w es;rw[show(s >>= f)=s.bind f from rfl]at e;rw[this]at e;cases C:s.runT P w es with
 |mk r o=>
  rw[C]at e;cases r with
  |halt h B=>cases e
  |ok a B=>
   obtain⟨M,D,y,rfl,N⟩:=h w es hv a B o C;obtain⟨Q,R,j,rfl,S⟩:=k a M B _ (hv.oh D) b w' l e;refine⟨Q,D.trans R,y++j,by simp,λx g=>?_⟩;rcases Array.mem_append.1 g with g|g
   .exact N x g
   .exact S x g
def Mk.halt{h:Halt}:Mk P U Post (Sem.halt h:Sem α):=by intro w es hv a w' f e;cases e
def Mk.program {f:Ad->Sem β}(k:Mk P U PostB (f P)):Mk P U PostB (Sem.program f):=k
def Mk.choose{f:Nat->Sem β}(k:∀n,Mk P U PostB (f n)):Mk P U PostB (Sem.choose q f):=by
 intro w es hv b w' a e;simp only[Sem.runT]at e;split at e
 .exact k _ w es hv b w' a e
 .obtain⟨h,g,r⟩:=k _ { w with drawn:=w.drawn+1 } es hv b w' a e;exact⟨h,⟨g.size,g.old⟩,r⟩
def Mk.shape{r:Nat}{f:Option (Af × Nat)->Sem β}(k:∀n,Mk P U PostB (f n)):Mk P U PostB (Sem.shape r f):=λw es hv b w' a e=>k _ w es hv b w' a e
def Mk.frozen {r:Addr}{f:Bool->Sem β}(k:∀n,Mk P U PostB (f n)):Mk P U PostB (Sem.frozen r f):=λw es hv b w' a e=>k _ w es hv b w' a e
def Mk.Me{a:Addr}{f:D->Sem β}(k:∀n,Mk P U PostB (f n)):Mk P U PostB (Sem.load m a f):=by
 intro w es hv b w' j e;simp only[Sem.runT]at e;split at e
 .obtain⟨l,o,h,rfl,r⟩:=k _ w _ hv b w' j e;refine⟨l,o,#[_]++h,by rw[<- Array.append_assoc,Array.push_eq_append],λx g=>?_⟩;rcases Array.mem_append.1 g with g|g
  .simp only[aL,au]at g;subst g;simp
  .exact r x g
 .split at e
  .obtain⟨l,o,h,rfl,r⟩:=k _ w _ hv b w' j e;refine⟨l,o,_++h,Array.append_assoc,λx g=>?_⟩;rcases Array.mem_append.1 g with g|g
   .obtain⟨y,_,rfl⟩:=Array.mem_map.1 g;simp
   .exact r x g
  .cases e
def Mk.store0{a:Addr}{x:D}{f:Sem β}(r:U a)(k:Mk P U PostB f):Mk P U PostB (Sem.store m a x f):=by
 intro w es hv b w' l e;have key:(match w.cell? a with
  | some _ => if w.frozen? a then(.halt (.unsupported (.unsafePointer "a write to bytes that a string shares")) w,es)else f.runT P (w.setCell a x) (es.push ⟨.cell a,true,m == .atomic⟩)
  |none=>match w.farStore P a x (m == .atomic)with
   |.ok (w,g)=>f.runT P w (es++g.toArray.map (⟨.cell ·,true,m == .atomic⟩))
   |.error h=>(.halt h w,es))=(Result.ok b w',l):=by
  cases x<;>first|exact e | (simp only[Sem.runT]at e;cases e)
 split at key
 .split at key
  .cases key
  .obtain⟨N,Q,o,rfl,R⟩:=k _ _ (hv.oh (gK.set r)) b w' l key;refine⟨N,(gK.set r).trans Q,#[_]++o,by rw[<- Array.append_assoc,Array.push_eq_append],λy j=>?_⟩;rcases Array.mem_append.1 j with j|j
   .simp only[aL,au]at j;subst j;exactλ_=>⟨a,rfl,r⟩
   .exact R y j
 .rename_i C
  exfalso
  have:∃h,w.farStore P a x (m == .atomic) = .error h:=by unfold World.farStore;obtain⟨c,e,S,M⟩:=hv a r;rw[M];exact⟨_,rfl⟩
  obtain⟨h,B⟩:=this;rw[B]at key;cases key
def Mk.ML{c:Ak}{t:Af}{g:Nat × Nat}{f:Nat->Sem β}(k:∀n,Mk P U PostB (f n)):Mk P U PostB (Sem.new (.cells c t g) f):=by intro w es hv b w' a e;obtain⟨h,j,r⟩:=k w.heap.size (cy w (.cells c t g)) es (hv.oh (gK.push _)) b w' a e;exact⟨h,(gK.push _).trans j,r⟩
def Mk.post {f:α->Prop}{s:Sem α}(h:Mk P U Post s)(k:∀a,Post a->f a):Mk P U f s:=λw es hv a w' g e=>⟨k _ (h w es hv a w' g e).1,(h w es hv a w' g e).2⟩
abbrev eR (P:Ad)(U:Addr->Prop)(s:Sem α):Prop:=Mk P U (λ_=>True) s
def Mk.stuck{why:String}:Mk P U Post (Go.stuck why:Sem α):=Mk.halt
def Mk.load{a:Addr}:eR P U (Go.load a m):=Mk.Me λ_=>Mk.pure trivial
def Mk.yh:eR P U (Go.choose q):=Mk.choose λ_=>Mk.pure trivial
def Mk.yH {a:Addr}:eR P U (Go.frozen a):=Mk.frozen λ_=>Mk.pure trivial
def Mk.PO{a:Nat}:eR P U (Go.shape a):=Mk.shape λ_=>Mk.pure trivial
def Mk.typeInfo (t:Af):eR P U (Go.typeInfo t):=by
 refine Mk.program ?_;rw[show ∀f:Ad->Sem TypeInfo,(Sem.pure P).bind f=f P fromλ_=>rfl];split
 .exact .pure trivial
 .exact .stuck
def Mk.underlying (t:Af):Mk P U (λd=>P.underlying t=some d) (Go.underlying t):=by
 refine Mk.program ?_;rw[show ∀f:Ad->Sem TypeDesc,(Sem.pure P).bind f=f P fromλ_=>rfl];split
 .rename_i h;exact .pure h
 .exact .stuck
def Mk.zeroValue (t:Af):eR P U (Go.zeroValue t):=by
 refine Mk.bind (.typeInfo t) λb _=>?_;split
 .exact .pure trivial
 .exact .halt
def Mk.sizeOf (t:Af):Mk P U (λn=>P.cellsOf t=n) (Go.sizeOf t):=by
 refine Mk.program ?_;show Mk P U _ ((match P.info? t with|some i=>Pure.pure i|none=>Go.stuck _) >>= _);cases h:P.info? t with
 |none=>exact Mk.bind (Post:=λ_=>False) .stuck λ_ h=>h.elim
 |some i=>exact Mk.bind (Post:=λx=>x=i) (.pure rfl) λx a=>.pure (by subst a;simp[Program.cellsOf,h])
def Mk.isAgg (t:Af):eR P U (Go.isAgg t):=by refine Mk.bind (.underlying t) λb _=>?_;split<;>exact .pure trivial
def Mk.loadCellsFrom (a:Addr):∀(n i:Nat) (f:Ak),Mk P U (λc=>c.size=f.size+n) (Go.loadCellsFrom a i n f)
 |0,_,_=>.pure rfl
 |n+1,i,_=>Mk.bind .load λ_ _=>(Mk.loadCellsFrom a n (i+1) _).post λc h=>by rw[h,Array.size_push];omega
def Mk.loadCells (a:Addr)(n:Nat):Mk P U (λc=>c.size=n) (Go.loadCells a n):=(Mk.loadCellsFrom a n 0 #[]).post λc h=>by simpa using h
def Mk.storeCells (a:Addr):∀(vs:List D) (i:Nat),(∀j,j<vs.length->U (a.add (i+j)))->eR P U (Go.storeCells a vs i)
 |[],_,_=>.pure trivial
 |_::rest,i,h=>Mk.bind (Post:=λ_=>True) (Mk.store0 (by simpa using h 0 (by simp)) (.pure trivial)) λ_ _=>Mk.storeCells a rest (i+1) λj f=>by
  have:=h (j+1) (by simpa using f)
  rwa [show i+(j+1)=i+1+j from by omega]at this
def Mk.loadVar (t:Af)(a:Addr):eR P U (Go.loadVar t a):=by
 refine Mk.bind (.isAgg t) λb _=>?_;split
 .exact Mk.bind (.sizeOf t) λ_ _=>Mk.bind (.loadCells a _) λ_ _=>.pure trivial
 .exact .load
def Mk.newRow (t:Af)(c:Ak):eR P U (Go.newRow t c):=Mk.bind (Post:=λ_=>True) (Mk.ML λ_=>.pure trivial) λ_ _=>.pure trivial
end
def uN (x:D)(a:Addr):Prop:=∃b l c,x = .slice (some b) l c/\a.block=b.block/\b.off<=a.off/\a.off<b.off+c
section
variable {P:Ad}{U:Addr->Prop}
def Mk.val{s:Sem D}(h:eR P U s):eR P U (s >>= λx=>(Pure.pure (Next.value x):Sem Next)):=Mk.bind h λ_ _=>.pure trivial
def Mk.lenOf (x:D):Mk P U (λn=>(∃b c,x = .slice b n c)\/∃s:Ac,x = .string s/\s.size=n) (Builtin.lenOf x):=by
 unfold Builtin.lenOf;split
 .exact .pure (.inl ⟨_,_,rfl⟩)
 .exact .pure (.inr ⟨_,rfl,rfl⟩)
 .exact .stuck
def Mk.firstCells{x:D}(a:(∃b c,x = .slice b n c)\/∃s:Ac,x = .string s/\s.size=n):Mk P U (λc=>c.size<=n) (Builtin.firstCells 1 n x):=by
 unfold Builtin.firstCells;split
 .exact(Mk.loadCells _ _).post λc h=>by omega
 .exact .pure (by simp)
 .rename_i s
  refine .pure ?_;rcases a with⟨b,c,e⟩|⟨f,e,h⟩
  .cases e
  .cases e;have:((s.extract 0 n).data.map λb=>Value.int .u8 b.toNat).size=(s.extract 0 n).size:=Array.size_map ..;rw[this,ByteArray.size_extract];omega
 .exact .stuck
def Mk.Kw{x:D}:eR P U (Builtin.firstCells s n x):=by
 unfold Builtin.firstCells;split
 .exact(Mk.loadCells _ _).post λc h=>trivial
 .exact .pure trivial
 .exact .pure trivial
 .exact .stuck
def Mk.askRoom (n:Nat):eR P U (Go.askRoom n):=by
 unfold Go.askRoom;split
 .intro w es hv a h g e;cases e;refine⟨trivial,.refl,#[_],by rw[Array.push_eq_append],λx f=>?_⟩;simp only[aL,au]at f;subst f;simp
 .exact .pure trivial
def Mk.elemOf (t:Af):eR P U (Go.elemOf t):=by
 refine Mk.bind (.underlying t) λb _=>?_;split
 .exact .pure trivial
 .exact .stuck
def Mk.EZ{α:Type}{Post:α->Prop}{e:RuntimeError}:Mk P U Post (Go.runtimePanic e:Sem α):=by refine Mk.program ?_;rw[show ∀f:Ad->Sem α,(Sem.pure P).bind f=f P fromλ_=>rfl];cases e<;>first|exact Mk.halt|exact Mk.bind (Mk.elemOf _) λ_ _=>Mk.bind (Mk.newRow _ _) λ_ _=>Mk.halt
def Mk.uo{α:Type}{Post:α->Prop}{e:Unsupported}:Mk P U Post (Go.unsupported e:Sem α):=Mk.halt
def Mk.mark (m:Mark):eR P U (Go.mark m):=by intro w es hv a h g e;cases e;refine⟨trivial,.refl,#[_],by rw[Array.push_eq_append],λx f=>?_⟩;simp only[aL,au]at f;subst f;simp
def Mk.holdsCells (a:Addr)(n:Nat):eR P U (Builtin.holdsCells a n):=by unfold Builtin.holdsCells;refine Mk.bind .PO λs _=>?_;split<;>exact .pure trivial
def Mk.mayShare (s l n:Nat)(b:Option Addr)(x:D):eR P U (Builtin.mayShare s l n b x):=by
 unfold Builtin.mayShare
 repeat' (first|with_reducible exact Mk.pure trivial|with_reducible exact Mk.holdsCells _ _|with_reducible exact Mk.yH|with_reducible refine Mk.bind (Post:=λ_=>True) ?_ λ_ _=>?_|dsimp only|split)
def Mk.append{ats:Array Af}{t:Af}{args:Ak}{x:D}{st xt e:Af}{k:TypeDesc}(h0:args[0]?=some x)(Q:ats[0]?=some st)(R:P.underlying st=some (.slice e))(B:P.cellsOf e=1)(S:ats[1]?=some xt)(M:P.underlying xt=some k)(g:∀i,k≠.int i)(r:∀a,uN x a->U a):eR P U (Builtin.append_ ats t args):=by
 unfold Builtin.append_;dsimp only;simp only[h0,Q,S];cases Y:args[1]? with
 |none=>exact .stuck
 |some y=>
  dsimp only;refine Mk.bind (.underlying st) λd f=>?_;rw[R]at f;cases f;dsimp only;split
  .rename_i base l c
   refine Mk.bind (.sizeOf e) λn h=>?_;rw[B]at h;subst h;refine Mk.bind (.underlying xt) λd f=>?_;rw[M]at f;cases f;refine Mk.bind (Post:=λb=>b=false) (.pure (by cases k<;>first|rfl|exact bx rfl (g _))) λb hb=>?_;subst hb;simp only[bg,if_false,Bool.not_false,if_true];refine Mk.bind (.lenOf y) λm hm=>?_;split
   .rename_i N
    refine Mk.bind (Mk.firstCells hm) λW o=>?_;split
    .rename_i b
     refine Mk.bind (Mk.storeCells _ _ _ λj C=>r _ ⟨b,l,c,rfl,?_⟩) λ_ _=>.pure trivial
     simp only[Array.length_toList]at C;have e1:((b.add (l*1)).add (0+j)).block=b.block:=by simp only[Addr.add];split<;>split<;>rfl
     have e2:((b.add (l*1)).add (0+j)).off=b.off+(l+j):=by simp only[Addr.add];split<;>split<;>simp_all<;>omega
     exact⟨e1,by omega,by omega⟩
    .exact .pure trivial
   .repeat' (first|with_reducible exact Mk.pure trivial|with_reducible exact Mk.EZ|with_reducible exact Mk.uo|with_reducible exact Mk.yh|with_reducible exact Mk.typeInfo _|with_reducible exact Mk.zeroValue _|with_reducible exact Mk.askRoom _|with_reducible exact Mk.Kw|with_reducible exact Mk.newRow _ _|with_reducible exact Mk.mayShare _ _ _ _ _|with_reducible exact Mk.mark _|with_reducible refine Mk.bind (Post:=λ_=>True) ?_ λ_ _=>?_|dsimp only|split)
  .exact .stuck
def iX (P:Ad):Op->Bool
 |.move _ | .assign _ | .box .. | .load .. | .buildSlice ..=>true
 |.fieldAddr s _ i=>match P.underlying s with
  |some (.struct a)=>match a[i]? with
   |some f=>P.cellsOf f.type != 0
   |none=>true
  |_=>true
 |.convert s d _=>match P.underlying s,P.underlying d with
  |some (.int _),some (.int _)=>true
  |_,_=>false
 |.binOp op ..=>op == .shr
 |.call c=>match c.callee with
  |.builtin b=>match b,c.argTypes[0]? with
   |.len,some t=>match P.underlying t with
    |some .string=>true
    |_=>false
   |_,_=>false
  |_=>false
 |_=>false
def Mk.sureAddr (x:D):eR P U (Instr.sureAddr x):=by
 unfold Instr.sureAddr;split
 .exact .pure trivial
 .exact .stuck
def Mk.fieldAt{s:Af}(h:iX P (.fieldAddr s (.tmp 0) i)=true)(x:D):eR P U (Instr.fieldAt s x i):=by
 unfold Instr.fieldAt;refine Mk.bind (.underlying s) λd g=>?_;unfold iX at h;dsimp only at h;rw[g]at h;split
 .split
  .rename_i f j
   simp only[j,bne_iff_ne,ne_eq]at h;refine Mk.bind (.sureAddr x) λa _=>Mk.bind (Post:=λ_=>True) ?_ λ_ _=>.pure trivial
   unfold Go.fieldPlace;refine Mk.bind (.sizeOf f.type) λn l=>?_;rw[if_neg (by rw[<- l];exact h)];exact .pure trivial
  .exact .stuck
 .exact .stuck
def Mk.buildSlice (t:Af)(n:Nat)(ps:Array (Nat × D)):eR P U (Instr.buildSlice t n ps):=by
 unfold Instr.buildSlice;refine Mk.bind (.underlying t) λd a=>?_;split
 .refine Mk.bind (.sizeOf _) λm _=>?_
  repeat' (first|with_reducible exact Mk.pure trivial|with_reducible exact Mk.stuck|with_reducible exact Mk.uo|with_reducible exact Mk.zeroValue _|with_reducible exact Mk.newRow _ _|with_reducible refine Mk.bind (Post:=λ_=>True) ?_ λ_ _=>?_|dsimp only|split)
 .exact .stuck
def Mk.convert {s d:Af}(h:iX P (.convert s d (.tmp 0))=true)(x:D):eR P U (Go.convert s d x):=by
 unfold Go.convert;refine Mk.bind (.underlying s) λa f=>Mk.bind (.underlying d) λb hb=>?_;unfold iX at h;dsimp only at h;simp only[f,hb]at h;split at h
 .rename_i g j e1 e2
  cases e1;cases e2;cases x<;>(try dsimp only)
  all_goals first|exact Mk.pure trivial|exact Mk.uo|skip
  .unfold Conv.floatToInt;dsimp only;split
   .split
    .exact Mk.pure trivial
    .exact Mk.bind .yh λ_ _=>.pure trivial
   .exact Mk.bind .yh λ_ _=>.pure trivial
  .rename_i a
   cases a<;>exact Mk.uo
 .cases h
def Mk.shr {t:Af}(x y:Ae)(a b:D):eR P U (Go.eqGuard .shr t x y a b >>= λ_=>Go.binOp .shr t a b):=by
 refine Mk.bind (Post:=λ_=>True) (.pure trivial) λ_ _=>?_;cases a<;>cases b<;>first|exact Mk.stuck|exact Mk.uo|skip
 .rename_i k n f g
  show Mk P U _ (Op.shift .shr k n f g);unfold Op.shift
  repeat' (first|with_reducible exact Mk.pure trivial|with_reducible exact Mk.stuck|with_reducible exact Mk.EZ|dsimp only|split)
 .rename_i k n f g
  show Mk P U _ (if k≠f then Go.stuck _ else Op.floatCmp .shr k n g);split<;>exact Mk.stuck
 .rename_i k a b f c d
  show Mk P U _ (if k≠f then Go.stuck _ else Op.complexOp .shr k a b c d);split<;>exact Mk.stuck
def Mk.len {ats:Array Af}{t:Af}(h0:ats[0]?=some t)(f:P.underlying t=some .string)(g:Af)(args:Ak):eR P U (Builtin.len_ ats g args):=by
 unfold Builtin.len_;rw[h0];cases h:args[0]? with
 |none=>exact .stuck
 |some x=>dsimp only;refine Mk.bind (.underlying t) λd a=>?_;rw[f]at a;cases a;cases x<;>first|exact .pure trivial|exact .stuck
def Mk.op (ρ:Ae->D)(o:Oper)(h:iX P o.op=true):eR P U (Go.execOp ρ o):=by
 obtain⟨j,op,C,pos,g,l⟩:=o;unfold Go.execOp;dsimp only at h ⊢;cases op with
 |move x=>exact .pure trivial
 |assign x=>exact .pure trivial
 |box t x=>exact Mk.val (Mk.bind (Mk.newRow _ _) λ_ _=>.pure trivial)
 |load t a=>exact Mk.val (Mk.bind (Mk.sureAddr _) λa _=>Mk.loadVar _ _)
 |buildSlice t n M=>exact Mk.val (Mk.buildSlice _ _ _)
 |fieldAddr s x i=>exact Mk.val (Mk.fieldAt h _)
 |convert s d x=>exact Mk.val (Mk.convert h _)
 |binOp op t x y k=>
  have:op = .shr:=by simpa [iX]using h
  subst this;exact Mk.val (Mk.shr _ _ _ _)
 |call c=>
  unfold iX at h;dsimp only at h;show eR P U (Go.resolve ρ c C >>= λd=>Go.invoke d.target d.args);unfold Go.resolve;split at h
  .rename_i b f
   rw[f];split at h
   .rename_i t r
    split at h
    .rename_i B
     exact Mk.val (Mk.len r B _ _)
    .cases h
   .cases h
  .cases h
 |_=>cases h
def Mk.Ng(ρ:Ae->D)(o:Oper){args:Array Ae}{ats:Array Af}{x:Ae}{st xt e:Af}{k:TypeDesc}(g:o.op = .call ⟨.builtin .append,args,ats⟩)(h0:args[0]?=some x)(C:ats[0]?=some st)(M:P.underlying st=some (.slice e))(y:P.cellsOf e=1)(N:ats[1]?=some xt)(B:P.underlying xt=some k)(f:∀i,k≠.int i)(r:∀a,uN (ρ x) a->U a):eR P U (Go.execOp ρ o):=by obtain⟨j,op,Q,pos,h,l⟩:=o;dsimp only at g;subst g;exact Mk.val (Mk.append (x:=ρ x) (by simp[h0]) C M y N B f r)
end
end Go.Proofs.YthbdpfccfcceiaaGreatDoor
