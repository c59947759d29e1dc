/-
  Of hurt_card.
-/
import Derived.Test.YthbdpfccfcceiaaGreatDoorA0
import Derived.RunT
import Derived.Conc.Events
import Derived.Conc.Beside
set_option linter.all false
namespace Go.Proofs.YthbdpfccfcceiaaGreatDoor
set_option maxHeartbeats 1000000
variable {a:Addr}{o:Obj}{f:Obj->Obj}{b:Option Obj}{u:Unsupported}
abbrev bad:Af:=1000000
def pn (a b:Option Obj):Prop:=a=b\/(∃x t,a=some (Obj.view x t))/\∃y u,b=some (Obj.view y u)
def pn.map{a:Option Obj}(h:pn a b)(g:∀x t,f (.view x t) = .view x t):pn (a.map f) (b.map f):=by
 rcases h with rfl|⟨⟨x,t,rfl⟩,y,u,rfl⟩
 .exact .inl rfl
 .exact .inr ⟨⟨x,t,by simp[g]⟩,y,u,by simp[g]⟩
def pn.eq{a:Option Obj}(h:pn a b)(f:∀x t,a≠some (Obj.view x t)):a=b:=by
 rcases h with rfl|⟨⟨x,t,rfl⟩,_⟩
 .rfl
 .exact bx rfl (f x t)
def ju:Obj->Prop
 |.pending .. | .loop _ | .deferred _ | .view ..=>True
 |_=>False
def blank:Obj->Prop
 |.cells c e _=>c.size=0/\e=bad
 |.view ..=>True
 |_=>False
structure Base where
 n:Nat
 m:Nat
 nm:n<=m
 eH:Nat->Option Obj
 kind:∀k o,eH k=some o->ju o
 low:∀k o,eH k=some o->k<m
def plain (n:Nat):Base:=⟨n,n,aW _,λ_=>none,λ_ _ h=>(by cases h),λ_ _ h=>by cases h⟩
structure cM (G0:Base)(N:Nat)(S:Nat->Prop)(w v:Z):Prop where
 size:v.heap.size=w.heap.size
 same:∀k:Nat,¬S k->pn v.heap[k]? w.heap[k]?
 hole:∀k,S k->∃fz,v.heap[k]?=some (.cells #[] bad fz)
 eH:∀k,S k->(∀a l,w.heap[k]?≠some (Obj.number a l))/\∀a t,w.heap[k]?≠some (Obj.view a t)
 high:∀k,S k->G0.n<=k/\(k<G0.m->∃o,G0.eH k=some o)
 agree:∀i,i<N->∀q,v.tape (v.drawn+i) q=w.tape (w.drawn+i) q
 os:v.os=w.os
 output:v.output=w.output
 fix:∀k o,G0.eH k=some o->w.heap[k]?=some o\/∃o',v.heap[k]?=some o'/\¬blank o'
structure Ht (Lk:Loop->Prop)(v:Z):Prop where
 iW:∀(k:Nat) c e,v.heap[k]?≠some (Obj.pending c e)
 loop:∀(k:Nat) l,v.heap[k]?=some (Obj.loop l)->Lk l
 kR:∀(k:Nat) ds,v.heap[k]?=some (Obj.deferred (some ds))->ds=[]
 vw:∀(k:Nat) a t,v.heap[k]?=some (Obj.view a t)->a=⟨k,0,none⟩/\t=bad
def tE (Lk:Loop->Prop):Obj->Prop
 |.pending ..=>False
 |.loop l=>Lk l
 |.deferred (some a)=>a=[]
 |.view ..=>False
 |_=>True
def qX (Lk:Loop->Prop):Obj->Prop
 |.cells ..=>False
 |o=>tE Lk o
def qX.ok{Lk:Loop->Prop}(h:qX Lk o):tE Lk o:=by cases o<;>first|exact h.elim|exact h
def qX.nb{Lk:Loop->Prop}(h:qX Lk o):¬blank o:=by cases o<;>first|exact h.elim|exactλb=>b
def fX (S:Nat->Prop)(n:Nat)(e:Event):Prop:=
 match e.loc with
 |.cell a=>¬S a.block/\a.block<n
 |.obj r=>r<n
 |.mark m=>m = .noRoom
 |_=>False
def nP:Halt->Prop
 |.blocked | .waiting | .goexit | .exit _ | .fatal _ | .throw _=>False
 |.unsupported (.initOrder _)=>False
 |_=>True
def fX.mono{S:Nat->Prop}{n m:Nat}{e:Event}(h:fX S n e)(a:n<=m):fX S m e:=by
 obtain⟨l,x,y⟩:=e;cases l<;>simp only[fX]at h ⊢
 .exact⟨h.1,aR h.2 a⟩
 .exact aR h a
 .exact h
section
variable (P:Ad)(F:Array Func)(G0:Base)(Lk:Loop->Prop)
abbrev imag:Ad:={ P with funcs:=F }
def GM {α:Type}(s:Sem α)(N:Nat)(S:Nat->Prop)(w:Z)(es:Array Event)(a:α)(v':Z)(c:Nat):Prop:=
 ∃f g,s.runT P w es=(.ok a f,es++g)/\cM G0 (N-c) S f v'/\w.heap.size<=f.heap.size/\(f.drawn=w.drawn+c/\f.tape=w.tape)/\∀e∈g,fX S f.heap.size e
def Fits {α:Type}(E:α->Prop)(s:Sem α)(N:Nat)(S:Nat->Prop)(w v:Z)(es:Array Event):Result α->Prop
 |.ok a f=>E a\/∃c,(f.drawn=v.drawn+c/\f.tape=v.tape)/\Ht Lk f/\(c<=N->GM P G0 s N S w es a f c)
 |.halt h f=>nP h/\Ht Lk f
def eY {α:Type}(E:α->Prop)(S:Nat->Prop)(s:Sem α):Prop:=∀(N:Nat) (w v:Z) (a:Array Event),cM G0 N S w v->Ht Lk v->Fits P G0 Lk E s N S w v a (s.run (imag P F) v)
def bT {α:Type}(E:α->Prop)(s:Sem α):Prop:=∀S:Nat->Prop,eY P F G0 Lk E S s
abbrev Tame {α:Type}(s:Sem α):Prop:=bT P F G0 Lk (λ_=>False) s
end
section
variable {P:Ad}{F:Array Func}{G0:Base}{N:Nat}{Lk:Loop->Prop}{α β:Type}{E:α->Prop}{S:Nat->Prop}{w v:Z}
def cM.lt (h:cM G0 N S w v){k:Nat}(a:S k):k<w.heap.size:=by obtain⟨f,e⟩:=h.hole k a;rw[<- h.size];exact(aO.1 e).1
def Fits.still {s:Sem α}{es:Array Event}{a:α}{v' w':Z}{new:Array Event}(hv:v'.drawn=v.drawn/\v'.tape=v.tape)(ht:Ht Lk v')(j:w'.drawn=w.drawn/\w'.tape=w.tape)
  (g:s.runT P w es=(.ok a w',es++new)) (h:cM G0 N S w' v') (l:w.heap.size<=w'.heap.size) (f:∀e∈new,fX S w'.heap.size e):Fits P G0 Lk E s N S w v es (.ok a v'):=
 .inr ⟨0,hv,ht,λ_=>⟨w',new,g,h,l,j,f⟩⟩
def Fits.as {s g:Sem α}{es:Array Event}{r:Result α}(h:Fits P G0 Lk E s N S w v es r)(e:g.runT P w es=s.runT P w es):Fits P G0 Lk E g N S w v es r:=by
 revert h
 cases r with
 |halt _ _=>exact id
 |ok a M=>exactλh=>h.imp id λ⟨c,j,l,o⟩=>⟨c,j,l,λy=>by obtain⟨D,f,B,C⟩:=o y;exact⟨D,f,by rw[e];exact B,C⟩⟩
def bT.pure (a:α):bT P F G0 Lk E (Pure.pure a:Sem α):=by intro S N w v f g ht;refine Fits.still ⟨rfl,rfl⟩ ht ⟨rfl,rfl⟩ (new:=#[]) ?_ g (aW _) (by simp);show(Sem.pure a).runT P w f=_;simp[Sem.runT]
def bT.halt{h:Halt}(hm:nP h):bT P F G0 Lk E (Sem.halt h:Sem α):=λ_ _ _ _ _ _ ht=>⟨hm,ht⟩
def bT.stuck (why:String):bT P F G0 Lk E (Go.stuck why:Sem α):=.halt trivial
def bT.unsupported(a:∀g,u≠.initOrder g):bT P F G0 Lk E (Go.unsupported u:Sem α):=.halt (by cases u<;>first|trivial|exact bx rfl (a _))
def bT.goPanic (x:D):bT P F G0 Lk E (Go.goPanic x:Sem α):=.halt trivial
def eY.bind {s:Sem β}{f:β->Sem α}(h:eY P F G0 Lk (λ_=>False) S s)(hf:∀b,eY P F G0 Lk E S (f b)):eY P F G0 Lk E S (s >>= f):=by
 intro N w v j l ht;have U:=λN w j l=>h N w v j l ht
 have e1:(s >>= f).run (imag P F) v=(s.run (imag P F) v).andThen λa R=>(f a).run (imag P F) R:=Sem.run_bind' _ s f v
 have e2:∀w j,(s >>= f).runT P w j=match s.runT P w j with
   |(.ok a R,B)=>(f a).runT P R B
   |(.halt h R,B)=>(.halt h R,B):=λw j=>Sem.runT_bind' P s f w j
 rw[e1];cases hr:s.run (imag P F) v with
 |halt h v'=>have:=U N w j l;rw[hr]at this;exact this
 |ok b D=>
  rw[hr]at U;obtain⟨c1,⟨d1,Q⟩,t1,k1⟩:=(U N w j l).resolve_left id;rw[Result.andThen_ok];have follow:∀(M:Nat) (r:Z) (C:Array Event),cM G0 M S r D->Fits P G0 Lk E (f b) M S r D C ((f b).run (imag P F) D):=λM r C an=>hf b M r D C an t1
  by_cases am:c1<=N
  .obtain⟨r,n1,r1,s1,z1,⟨Y,a1⟩,a4⟩:=k1 am;have g:=follow (N-c1) r (j++n1) s1;cases o:(f b).run (imag P F) D with
   |halt h v'=>rw[o]at g;exact g
   |ok a v2=>
    rw[o]at g;rcases g with g|⟨c2,⟨d2,y⟩,t2,k2⟩
    .exact .inl g
    .refine .inr ⟨c1+c2,⟨by rw[d2,d1,Nat.add_assoc],by rw[y,Q]⟩,t2,λhc=>?_⟩;obtain⟨w2,n2,r2,s2,z2,⟨ad,a3⟩,a7⟩:=k2 (by omega);refine⟨w2,n1++n2,?_,by rw[<- Nat.sub_sub];exact s2,aX z1 z2,⟨by rw[ad,Y,Nat.add_assoc],by rw[a3,a1]⟩,λe he=>?_⟩
     .rw[e2,r1];simp only[];rw[r2,Array.append_assoc]
     .rcases Array.mem_append.1 he with h|h
      .exact(a4 e h).mono z2
      .exact a7 e h
  .
   have sv:cM G0 c1 S { w with tape:=v.tape,drawn:=v.drawn } v:=⟨l.size,l.same,l.hole,l.eH,l.high,λ_ _ _=>rfl,l.os,l.output,l.fix⟩;obtain⟨W,⟨a8,_⟩,_,a0⟩:=(U c1 _ j sv).resolve_left id;obtain⟨r,n1,_,s1,_⟩:=a0 (by omega);have g:=follow (c1-W) r j s1;cases o:(f b).run (imag P F) D with
   |halt h v'=>rw[o]at g;exact g
   |ok a v2=>
    rw[o]at g;rcases g with g|⟨c2,⟨d2,y⟩,t2,k2⟩
    .exact .inl g
    .exact .inr ⟨c1+c2,⟨by rw[d2,d1,Nat.add_assoc],by rw[y,Q]⟩,t2,λhc=>bx hc (by omega)⟩
def bT.bd {s:Sem β}{f:β->Sem α}(h:Tame P F G0 Lk s)(a:∀b,bT P F G0 Lk E (f b)):bT P F G0 Lk E (s >>= f):=λS=>eY.bind (h S) λb=>a b S
def eY.program {f:Ad->Sem α}(j:f (imag P F)=f P)(h:eY P F G0 Lk E S (f P)):eY P F G0 Lk E S (Go.program >>= f):=by
 intro N w v a l ht;have g:=h N w v a l ht;have e1:(Go.program >>= f).run (imag P F) v=(f P).run (imag P F) v:=by rw[<- j];rfl
 rw[e1];exact g.as rfl
def bT.program {f:Ad->Sem α}(a:f (imag P F)=f P)(h:bT P F G0 Lk E (f P)):bT P F G0 Lk E (Go.program >>= f):=λS=>eY.program a (h S)
def bT.choose (q:Question):bT P F G0 Lk (λ_=>False) (Go.choose q):=by
 intro S N w v h a ht;simp only[Go.choose,Sem.run];cases g:q.forced with
 |true=>exact Fits.still ⟨rfl,rfl⟩ ht ⟨rfl,rfl⟩ (new:=#[]) (by simp only[Sem.runT,g,if_true,Array.append_empty]) a (aW _) (by simp)
 |false=>
  refine .inr ⟨1,⟨rfl,rfl⟩,⟨ht.iW,ht.loop,ht.kR,ht.vw⟩,λj=>⟨{ w with drawn:=w.drawn+1 },#[],?_,⟨a.size,a.same,a.hole,a.eH,a.high,λi l q=>?_,a.os,a.output,a.fix⟩,aW _,⟨rfl,rfl⟩,by simp⟩⟩
  .have:=a.agree 0 (by omega) q;simp only[Nat.add_zero]at this;simp only[Sem.runT,g,this,bg,if_false,Array.append_empty]
  .have:=a.agree (1+i) (by omega) q;rw[<- Nat.add_assoc,<- Nat.add_assoc]at this;exact this
def cM.push (h:cM G0 N S w v)(o:Obj):cM G0 N S { w with heap:=w.heap.push o } { v with heap:=v.heap.push o }:=by
 have old:∀(x:Array Obj) (k:Nat) z,x[k]?=some z->(x.push o)[k]?=some z:=λx k z e=>by have:=(aO.1 e).1;rw[aq,if_neg (by omega)];exact e
 refine⟨by simp[h.size],λk f=>?_,λk f=>?_,λk f=>?_,h.high,h.agree,h.os,h.output,λk z j=>(h.fix k z j).imp (old _ _ _) λ⟨x,e1,e2⟩=>⟨x,old _ _ _ e1,e2⟩⟩
 .rw[aq,aq,h.size];split
  .exact .inl rfl
  .exact h.same k f
 .obtain⟨g,e⟩:=h.hole k f;have:=h.lt f;exact⟨g,by rw[aq,h.size,if_neg (by omega),e]⟩
 .have:=h.lt f;have e:(w.heap.push o)[k]?=w.heap[k]?:=by rw[aq,if_neg (by omega)]
  exact⟨λa l=>by rw[e];exact(h.eH k f).1 a l,λa t=>by rw[e];exact(h.eH k f).2 a t⟩
def Ht.push(h:Ht Lk v)(f:tE Lk o):Ht Lk { v with heap:=v.heap.push o }:=by
 refine⟨λk c e x=>?_,λk l x=>?_,λk g x=>?_,λk a t x=>?_⟩<;>(rw[aq]at x;split at x)
 .cases x;exact f
 .exact h.iW k c e x
 .cases x;exact f
 .exact h.loop k l x
 .cases x;exact f
 .exact h.kR k g x
 .cases x;exact f.elim
 .exact h.vw k a t x
def bT.newObj(g:tE Lk o):bT P F G0 Lk (λ_=>False) (Go.newObj o):=by intro S N w v h f ht;refine Fits.still ⟨rfl,rfl⟩ (ht.push g) (w':={ w with heap:=w.heap.push o }) ⟨rfl,rfl⟩ (new:=#[]) ?_ (f.push o) (by simp) (by simp);simp only[Go.newObj,Sem.runT,f.size,Array.append_empty]
def cM.set(h:cM G0 N S w v){r:Nat}(l:¬S r)(j:¬blank o):cM G0 N S { w with heap:=w.heap.setIfInBounds r o } { v with heap:=v.heap.setIfInBounds r o }:=by
 have ne:∀k,S k->r≠k:=λk a e=>l (e ▸ a)
 refine⟨by simp[h.size],λk a=>?_,λk a=>?_,λk a=>?_,h.high,h.agree,h.os,h.output,λk z g=>?_⟩
 .simp only[Array.getElem?_setIfInBounds,h.size];split
  .exact .inl rfl
  .exact h.same k a
 .simp only[aS (ne k a)];exact h.hole k a
 .simp only[aS (ne k a)];exact h.eH k a
 .by_cases e:r=k
  .subst e
   by_cases f:r<v.heap.size
   .exact .inr ⟨o,aT f,j⟩
   .exfalso
    rcases h.fix r z g with e|⟨x,e,_⟩
    .exact f (by rw[h.size];exact(aO.1 e).1)
    .exact f (aO.1 e).1
  .simp only[aS e];exact h.fix k z g
def cM.Cw(h:cM G0 N S w v)(r:Nat){g:Obj->Obj}(l:∀o,ju o->f o=o)(y:∀o,¬blank o->¬blank (g o))(k:Nat)(o:Obj)(a:G0.eH k=some o):(w.heap.modify r f)[k]?=some o\/∃j,(v.heap.modify r g)[k]?=some j/\¬blank j:=by
 refine(h.fix k o a).imp (λe=>?_) λ⟨x,e1,e2⟩=>?_
 .rw[aV,e];split
  .simp[l o (G0.kind k o a)]
  .rfl
 .rw[aV,e1];split
  .exact⟨_,rfl,y x e2⟩
  .exact⟨_,rfl,e2⟩
def Ht.set(h:Ht Lk v){r:Nat}(f:tE Lk o):Ht Lk { v with heap:=v.heap.setIfInBounds r o }:=by
 refine⟨λk c e x=>?_,λk l x=>?_,λk g x=>?_,λk a t x=>?_⟩<;>(rw[Array.getElem?_setIfInBounds]at x;split at x)
 .split at x
  .cases x;exact f
  .cases x
 .exact h.iW k c e x
 .split at x
  .cases x;exact f
  .cases x
 .exact h.loop k l x
 .split at x
  .cases x;exact f
  .cases x
 .exact h.kR k g x
 .split at x
  .cases x;exact f.elim
  .cases x
 .exact h.vw k a t x
def bT.getObj {r:Nat}{f:Obj->Sem α}(hv:∀a t b u,f (.view a t)=f (.view b u))(hf:∀o,bT P F G0 Lk E (f o)):bT P F G0 Lk E (Go.getObj r >>= f):=by
 intro S N w v g W ht;have er:∀(p:Ad) (u:Z) o,u.heap[r]?=some o->(∀c e z,o≠.cells c e z)->(Go.getObj r >>= f).run p u=(f o).run p u:=by intro p u o C j;show(Sem.getObj r _).run p u=_;cases o<;>first|exact bx rfl (j _ _ _) | (simp only[Sem.run,C];rfl)
 have et:∀(p:Ad) (u:Z) o g,u.heap[r]?=some o->(∀c e z,o≠.cells c e z)->∃b,(Go.getObj r >>= f).runT p u g=(f o).runT p u (g++#[⟨.obj r,false,b⟩]):=by intro p u o g C j;show ∃b,(Sem.getObj r _).runT p u g=_;cases o<;>first|exact bx rfl (j _ _ _) | (simp only[Sem.runT,C,Array.push_eq_append];exact⟨_,rfl⟩)
 have go:∀o l,v.heap[r]?=some o->w.heap[r]?=some l->f o=f l->(∀c e z,o≠.cells c e z)->(∀c e z,l≠.cells c e z)->Fits P G0 Lk E (Go.getObj r >>= f) N S w v g ((Go.getObj r >>= f).run (imag P F) v):=by
  intro o l C D e j U;have R:r<w.heap.size:=(aO.1 D).1;rw[er _ _ _ C j,e];obtain⟨b,eb⟩:=et P w l g D U;have Q:=hf l S N w v (g++#[⟨.obj r,false,b⟩]) W ht
  revert Q
  cases(f l).run (imag P F) v with
  |halt h v'=>exact id
  |ok a v'=>
   refineλQ=>Q.imp id λ⟨c,k1,k2,k3⟩=>⟨c,k1,k2,λhc=>?_⟩
   obtain⟨w',Y,r1,r2,r3,r4,r5⟩:=k3 hc;refine⟨w',#[⟨.obj r,false,b⟩]++Y,by rw[eb,r1,Array.append_assoc],r2,r3,r4,λx B=>?_⟩;rcases Array.mem_append.1 B with B|B
   .simp only[aL,au]at B;subst B;exact aR R r3
   .exact r5 x B
 have no:∀c e z,v.heap[r]?=some (.cells c e z)->Fits P G0 Lk E (Go.getObj r >>= f) N S w v g ((Go.getObj r >>= f).run (imag P F) v):=by
  intro c e z h;have : (Go.getObj r >>= f).run (imag P F) v = .halt (.stuck "getObj: a row of cells") v := by
   show(Sem.getObj r _).run _ v=_;simp only[Sem.run,h]
  rw[this];exact⟨trivial,ht⟩
 by_cases hr:S r
 .obtain⟨fz,e⟩:=W.hole r hr;exact no _ _ _ e
 .rcases W.same r hr with e|⟨⟨x,t,e1⟩,y,u,e2⟩
  .cases M:w.heap[r]? with
   |none=>
    have : (Go.getObj r >>= f).run (imag P F) v = .halt (.stuck "getObj: no such block") v := by
     show(Sem.getObj r _).run _ v=_;simp only[Sem.run,e,M]
    rw[this];exact⟨trivial,ht⟩
   |some o=>
    by_cases j:∀c e z,o≠.cells c e z
    .exact go o o (e.trans M) M rfl j j
    .cases o<;>first|exact no _ _ _ (e.trans M)|exact bx (λ_ _ _ h=>(by cases h)) j
  .exact go _ _ e1 e2 (hv _ _ _ _) (λ_ _ _ h=>by cases h) (λ_ _ _ h=>by cases h)
def bT.setObj(r:Nat)(U:qX Lk o):bT P F G0 Lk (λ_=>False) (Go.setObj r o):=by
 intro S N w v f R ht
 by_cases Q:S r
 .obtain⟨fz,e⟩:=R.hole r Q;simp only[Go.setObj,Sem.run,e];exact⟨trivial,ht⟩
 .have ok:∀l B,v.heap[r]?=some l->w.heap[r]?=some B->(∀c e z,l≠.cells c e z)->(∀c e z,B≠.cells c e z)->Fits P G0 Lk (λ_=>False) (Go.setObj r o) N S w v f ((Go.setObj r o).run (imag P F) v):=by
   intro l B e1 e2 Z n2;have D:=(aO.1 e2).1;have Y:(Go.setObj r o).run (imag P F) v = .ok () { v with heap:=v.heap.setIfInBounds r o }:=by cases l<;>first|exact bx rfl (Z _ _ _) | (simp only[Go.setObj,Sem.run,e1])
   have C:∃b,(Go.setObj r o).runT P w f=(.ok () { w with heap:=w.heap.setIfInBounds r o },f++#[⟨.obj r,true,b⟩]):=by cases B<;>first|exact bx rfl (n2 _ _ _) | (simp only[Go.setObj,Sem.runT,e2,Array.push_eq_append];exact⟨_,rfl⟩)
   obtain⟨b,C⟩:=C;rw[Y];refine Fits.still ⟨rfl,rfl⟩ (ht.set U.ok) (w':={ w with heap:=w.heap.setIfInBounds r o }) ⟨rfl,rfl⟩ (new:=#[⟨.obj r,true,b⟩]) C (R.set Q U.nb) (by simp) λx W=>?_;simp only[aL,au]at W;subst W;show r<_;simpa using D
  have no:∀c e z,v.heap[r]?=some (.cells c e z)->Fits P G0 Lk (λ_=>False) (Go.setObj r o) N S w v f ((Go.setObj r o).run (imag P F) v):=by intro c e z h;simp only[Go.setObj,Sem.run,h];exact⟨trivial,ht⟩
  rcases R.same r Q with e|⟨⟨x,t,e1⟩,y,u,e2⟩
  .cases g:w.heap[r]? with
   |none=>simp only[Go.setObj,Sem.run,e,g];exact⟨trivial,ht⟩
   |some j=>
    by_cases M:∀c e z,j≠.cells c e z
    .exact ok j j (e.trans g) g M M
    .cases j<;>first|exact no _ _ _ (e.trans g)|exact bx (λ_ _ _ h=>(by cases h)) M
  .exact ok _ _ e1 e2 (λ_ _ _ h=>by cases h) (λ_ _ _ h=>by cases h)
def pH (t:Af):(imag P F).underlying t=P.underlying t:=rfl
def yV (t:Af):(imag P F).info? t=P.info? t:=rfl
def oy (t:Af):(imag P F).cellsOf t=P.cellsOf t:=rfl
def vI (t:Af):(imag P F).bytesOf t=P.bytesOf t:=rfl
def tn:(imag P F).depth=P.depth:=rfl
def yU:∀d,byteOfCell (imag P F) d=byteOfCell P d
 |0=>rfl
 |d+1=>by
  funext t off
  simp only[byteOfCell,pH,oy,vI,yU d]
  rfl
def Hj (hb:P.info? bad=none):P.cellsOf bad=0:=by simp[Program.cellsOf,hb]
def Fc{p:Ad}{k:Nat}{t:Af}(h:v.heap[k]?=some (.view a t))(g:a.block=k)(y:Addr)(x:Bool):∃why,v.seen p a t y x = .error why:=by
 cases f:v.seen p a t y x with
 |error why=>exact⟨why,rfl⟩
 |ok r=>
  exfalso
  rw[<- g]at h;simp only[World.seen,h]at f
  revert f
  simp only[bind,Except.bind]
  repeat' split
  all_goals simp_all
end
section
variable {P:Ad}{F:Array Func}{G0:Base}{N:Nat}{Lk:Loop->Prop}{α β:Type}{E:α->Prop}{S:Nat->Prop}{w v:Z}
def cM.cell(h:cM G0 N S w v)(hS:¬S a.block):v.cell? a=w.cell? a:=by
 unfold World.cell?;rcases h.same _ hS with e|⟨⟨x,t,e1⟩,y,u,e2⟩
 .rw[e]
 .rw[e1,e2]
def cM.frozen(h:cM G0 N S w v)(hS:¬S a.block):v.frozen? a=w.frozen? a:=by
 unfold World.frozen?;rcases h.same _ hS with e|⟨⟨x,t,e1⟩,y,u,e2⟩
 .rw[e]
 .rw[e1,e2]
def cM.yf(h:cM G0 N S w v)(hS:S a.block):v.cell? a=none:=by obtain⟨f,e⟩:=h.hole _ hS;simp[World.cell?,e]
def BG{x:D}(h:w.cell? a=some x):a.block<w.heap.size:=by
 unfold World.cell? at h;split at h
 .rename_i e
  exact(aO.1 e).1
 .cases h
def zq (ht:Ht Lk v)(a:Addr)(f:String):nP (v.noCell a f):=by
 unfold World.noCell;split
 .rename_i e
  exact bx e (ht.iW _ _ _)
 .trivial
 .trivial
def Cl (ht:Ht Lk v)(p:Ad)(a:Addr)(x:Bool):∃h,v.farLoad p a x = .error h/\nP h:=by
 unfold World.farLoad;split
 .rename_i at_ u e
  obtain⟨f,h⟩:=Fc (p:=p) e (by rw[(ht.vw _ _ _ e).1]) a x;have:v.viewLoad p at_ u a x = .error f:=by simp only[World.viewLoad,h];rfl
  rw[this];exact⟨_,rfl,trivial⟩
 .exact⟨_,rfl,zq ht _ _⟩
def Kd (ht:Ht Lk v)(p:Ad)(a:Addr)(y:D)(x:Bool):∃h,v.farStore p a y x = .error h/\nP h:=by
 unfold World.farStore;split
 .rename_i at_ u e
  obtain⟨f,h⟩:=Fc (p:=p) e (by rw[(ht.vw _ _ _ e).1]) a x;cases hv:v.viewStore p at_ u a y x with
  |error _=>exact⟨_,rfl,trivial⟩
  |ok r=>
   exfalso
   simp only[World.viewStore,h]at hv
   revert hv
   repeat' split
   all_goals (intro h;cases h)
 .exact⟨_,rfl,zq ht _ _⟩
def bT.load (o:P.info? bad=none)(m:Mode)(a:Addr):bT P F G0 Lk (λ_=>False) (Go.load a m):=by
 intro S N w v r g ht;cases f:v.cell? a with
 |some x=>
  have hS:¬S a.block:=λh=>by rw[g.yf h]at f;cases f
  have l:w.cell? a=some x:=by rw[<- g.cell hS];exact f
  simp only[Go.load,Sem.run,f];refine Fits.still ⟨rfl,rfl⟩ ht (w':=w) ⟨rfl,rfl⟩ (new:=#[⟨.cell a,false,m == .atomic⟩]) (by simp only[Sem.runT,l,Array.push_eq_append]) g (aW _) λe j=>?_;simp only[aL,au]at j;subst j;exact⟨hS,BG l⟩
 |none=>obtain⟨h,e,hm⟩:=Cl ht (imag P F) a (m == .atomic);simp only[Go.load,Sem.run,f,e];exact⟨hm,ht⟩
def cM.setCell(h:cM G0 N S w v)(hS:¬S a.block)(x:D):cM G0 N S (w.setCell a x) (v.setCell a x):=by
 have ne:∀k,S k->a.block≠k:=λk f e=>hS (e ▸ f)
 refine⟨by simp[World.setCell,h.size],λk f=>?_,λk f=>?_,λk f=>?_,h.high,h.agree,h.os,h.output,h.Cw a.block (λo g=>by cases o<;>first|rfl|exact g.elim) (λo g=>by cases o<;>first|exact g | (intro hb;refine g ⟨?_,hb.2⟩;have:=hb.1;revert this;split<;>simp))⟩
 .simp only[World.setCell,aV];split
  .exact(h.same k f).map λ_ _=>rfl
  .exact h.same k f
 .obtain⟨j,e⟩:=h.hole k f;exact⟨j,by simp[World.setCell,aV,ne k f,e]⟩
 .have e:(w.setCell a x).heap[k]?=w.heap[k]?:=by simp[World.setCell,aV,ne k f]
  rw[e];exact h.eH k f
def Ht.modify(h:Ht Lk v){r:Nat}(j:∀o,f o=o\/∃c e z,f o = .cells c e z):Ht Lk { v with heap:=v.heap.modify r f }:=by
 have key:∀(k:Nat) o,(v.heap.modify r f)[k]?=some o->v.heap[k]?=some o\/∃c e z,o = .cells c e z:=by
  intro k o x;rw[aV]at x;split at x
  .obtain⟨B,g,rfl⟩:=aB.1 x;rcases j B with e|e
   .rw[e];exact .inl g
   .exact .inr e
  .exact .inl x
 refine⟨λk c e x=>?_,λk l x=>?_,λk C x=>?_,λk a t x=>?_⟩
 .rcases key _ _ x with y|⟨_,_,_,y⟩
  .exact h.iW _ _ _ y
  .cases y
 .rcases key _ _ x with y|⟨_,_,_,y⟩
  .exact h.loop _ _ y
  .cases y
 .rcases key _ _ x with y|⟨_,_,_,y⟩
  .exact h.kR _ _ y
  .cases y
 .rcases key _ _ x with y|⟨_,_,_,y⟩
  .exact h.vw _ _ _ y
  .cases y
def Ht.setCell (h:Ht Lk v)(a:Addr)(x:D):Ht Lk (v.setCell a x):=h.modify λo=>by cases o<;>first|exact .inr ⟨_,_,_,rfl⟩|exact .inl rfl
def Fy (w:Z)(a:Addr)(x:D):(w.setCell a x).heap.size=w.heap.size:=by simp[World.setCell]
def bT.store (M:P.info? bad=none)(m:Mode)(a:Addr)(y:D):bT P F G0 Lk (λ_=>False) (Go.store a y m):=by
 intro S N w v g j ht;have key:(∀c,y≠.agg c)->(∀c,y≠.tuple c)->Fits P G0 Lk (λ_=>False) (Sem.store m a y (.pure ())) N S w v g ((Sem.store m a y (.pure ())).run (imag P F) v):=by
  intro B C;have e1:(Sem.store m a y (.pure ())).run (imag P F) v=match v.cell? a with
    | some _ => if v.frozen? a then .halt (.unsupported (.unsafePointer "a write to bytes that a string shares")) v else .ok () (v.setCell a y)
    |none=>match v.farStore (imag P F) a y (m == .atomic)with
     |.ok (w,_)=>.ok () w
     |.error h=>.halt h v:=by
   cases y<;>first|exact bx rfl (B _)|exact bx rfl (C _)|rfl
  have e2:(Sem.store m a y (.pure ())).runT P w g=match w.cell? a with
    | some _ => if w.frozen? a then(.halt (.unsupported (.unsafePointer "a write to bytes that a string shares")) w,g)else(.ok () (w.setCell a y),g.push ⟨.cell a,true,m == .atomic⟩)
    |none=>match w.farStore P a y (m == .atomic)with
     |.ok (w,f)=>(.ok () w,g++f.toArray.map (⟨.cell ·,true,m == .atomic⟩))
     |.error h=>(.halt h w,g):=by
   cases y<;>first|exact bx rfl (B _)|exact bx rfl (C _)|rfl
  rw[e1];clear e1;cases l:v.cell? a with
  |some x=>
   have hS:¬S a.block:=λh=>by rw[j.yf h]at l;cases l
   have r:w.cell? a=some x:=by rw[<- j.cell hS];exact l
   simp only[j.frozen hS];cases Q:w.frozen? a with
   |true=>exact⟨trivial,ht⟩
   |false=>simp only[bg,if_false];refine Fits.still ⟨rfl,rfl⟩ (ht.setCell a y) (w':=w.setCell a y) ⟨rfl,rfl⟩ (new:=#[⟨.cell a,true,m == .atomic⟩]) (by rw[e2,r];simp only[Q,bg,if_false];rw[Array.push_eq_append]) (j.setCell hS y) (by rw[Fy];exact aW _) λe o=>?_;simp only[aL,au]at o;subst o;exact⟨hS,by rw[Fy];exact BG r⟩
  |none=>obtain⟨h,e,hm⟩:=Kd ht (imag P F) a y (m == .atomic);simp only[e];exact⟨hm,ht⟩
 show Fits P G0 Lk (λ_=>False) (Sem.store m a y (.pure ())) N S w v g ((Sem.store m a y (.pure ())).run (imag P F) v);cases y with
 |agg c=>exact⟨trivial,ht⟩
 |tuple c=>exact⟨trivial,ht⟩
 |_=>exact key (λ_ h=>by cases h) (λ_ h=>by cases h)
end
section
variable {P:Ad}{F:Array Func}{G0:Base}{Lk:Loop->Prop}{α β:Type}{E:α->Prop}
def bT.ite {c:Prop}[Decidable c]{x y:Sem α}(a:c->bT P F G0 Lk E x)(f:¬c->bT P F G0 Lk E y):bT P F G0 Lk E (if c then x else y):=by
 split
 .exact a ‹_›
 .exact f ‹_›
def bT.map {f:β->α}{s:Sem β}(h:Tame P F G0 Lk s):bT P F G0 Lk E (Functor.map f s):=bT.bd h λb=>.pure (f b)
def Tame.typeInfo (t:Af):Tame P F G0 Lk (Go.typeInfo t):=by
 refine bT.program rfl ?_;split
 .exact .pure _
 .exact .stuck _
def Tame.underlying (t:Af):Tame P F G0 Lk (Go.underlying t):=by
 refine bT.program rfl ?_;split
 .exact .pure _
 .exact .stuck _
def Tame.typeStr (t:Af):Tame P F G0 Lk (Go.typeStr t):=by
 refine bT.bd (.typeInfo t) λb=>?_;dsimp only;split
 .exact .unsupported (by simp)
 .exact .pure _
def Tame.zeroValue (t:Af):Tame P F G0 Lk (Go.zeroValue t):=by
 refine bT.bd (.typeInfo t) λb=>?_;split
 .exact .pure _
 .exact .unsupported (by simp)
def Tame.sizeOf (t:Af):Tame P F G0 Lk (Go.sizeOf t):=bT.bd (.typeInfo t) λ_=>.pure _
def Tame.isAgg (t:Af):Tame P F G0 Lk (Go.isAgg t):=by refine bT.bd (.underlying t) λb=>?_;split<;>exact .pure _
def Tame.elemOf (t:Af):Tame P F G0 Lk (Go.elemOf t):=by
 refine bT.bd (.underlying t) λb=>?_;split
 .exact .pure _
 .exact .stuck _
def Tame.part (t:Af)(cs:Ak)(off:Nat):Tame P F G0 Lk (Go.part t cs off):=by
 refine bT.bd (.isAgg t) λb=>?_;refine .ite (λ_=>bT.bd (.sizeOf t) λ_=>.pure _) λ_=>?_;split
 .exact .pure _
 .exact .stuck _
def Tame.loadCellsFrom (hb:P.info? bad=none)(a:Addr):∀(n i:Nat) (f:Ak),Tame P F G0 Lk (Go.loadCellsFrom a i n f)
 |0,_,_=>.pure _
 |n+1,i,_=>bT.bd (.load hb _ _) λ_=>Tame.loadCellsFrom hb a n (i+1) _
def Tame.loadCells (hb:P.info? bad=none)(a:Addr)(n:Nat):Tame P F G0 Lk (Go.loadCells a n):=Tame.loadCellsFrom hb a n 0 #[]
def Tame.storeCells (hb:P.info? bad=none)(a:Addr):∀(vs:List D) (i:Nat),Tame P F G0 Lk (Go.storeCells a vs i)
 |[],_=>.pure _
 |_::rest,i=>bT.bd (.store hb _ _ _) λ_=>Tame.storeCells hb a rest (i+1)
def Tame.loadVar (hb:P.info? bad=none)(t:Af)(a:Addr):Tame P F G0 Lk (Go.loadVar t a):=by refine bT.bd (.isAgg t) λb=>?_;exact .ite (λ_=>bT.bd (.sizeOf t) λ_=>bT.bd (.loadCells hb a _) λ_=>.pure _) λ_=>.load hb _ _
def Tame.storeVar (hb:P.info? bad=none)(t:Af)(a:Addr)(x:D):Tame P F G0 Lk (Go.storeVar t a x):=by refine bT.bd (.sizeOf t) λb=>?_;exact .ite (λ_=>bT.bd (.stuck _) λ_=>Tame.storeCells hb a _ _) λ_=>Tame.storeCells hb a _ _
def Tame.newRow (t:Af)(cs:Ak):Tame P F G0 Lk (Go.newRow t cs):=bT.bd (.newObj trivial) λ_=>.pure _
def Tame.newVar (t:Af)(x:D):Tame P F G0 Lk (Go.newVar t x):=.newRow t _
def Tame.askRoom (n:Nat):Tame P F G0 Lk (Go.askRoom n):=by
 unfold Go.askRoom;refine .ite (λ_=>?_) λ_=>.pure _
 intro S N w v g f ht;refine Fits.still ⟨rfl,rfl⟩ ht (w':=w) ⟨rfl,rfl⟩ (new:=#[⟨.mark .noRoom,false,true⟩]) (by simp only[Go.mark,Sem.runT,Array.push_eq_append]) f (aW _) λe a=>?_;simp only[aL,au]at a;subst a
 rfl
def bT.runtimePanic (e:RuntimeError):bT P F G0 Lk E (Go.runtimePanic e:Sem α):=by
 refine bT.program rfl ?_;cases e with
 |typeAssertion i c a m=>exact bT.bd (.elemOf _) λ_=>bT.bd (.newVar _ _) λ_=>.goPanic _
 |panicNil=>exact bT.bd (.elemOf _) λ_=>bT.bd (.newVar _ _) λ_=>.goPanic _
 |_=>exact .goPanic _
def bT.boundsPanic (k:IntKind)(x y:Int)(c:BoundsCode):bT P F G0 Lk E (Go.boundsPanic k x y c:Sem α):=by
 unfold Go.boundsPanic;split
 .exact bT.bd (.map (.choose _)) λ_=>.runtimePanic _
 .exact bT.bd (.pure _) λ_=>.runtimePanic _
def Tame.asIntOf (x:D):Tame P F G0 Lk (Go.asIntOf x):=by
 unfold Go.asIntOf;split
 .exact .pure _
 .exact .unsupported (by simp)
 .exact .stuck _
def Tame.asInt (x:D):Tame P F G0 Lk (Go.asInt x):=bT.bd (.asIntOf x) λ_=>.pure _
def Tame.asBool (x:D):Tame P F G0 Lk (Go.asBool x):=by
 unfold Go.asBool;split
 .exact .pure _
 .exact .stuck _
def Tame.asAgg (x:D):Tame P F G0 Lk (Go.asAgg x):=by
 unfold Go.asAgg;split
 .exact .pure _
 .exact .stuck _
def Tame.asAddr (x:D):Tame P F G0 Lk (Go.asAddr x):=by
 unfold Go.asAddr;split
 .exact .pure _
 .exact .runtimePanic _
 .exact .stuck _
def Tame.sureAddr (x:D):Tame P F G0 Lk (Instr.sureAddr x):=by
 unfold Instr.sureAddr;split
 .exact .pure _
 .exact .stuck _
def Tame.forIn_list {a:Type}(f:β->a->Sem (ForInStep a)):∀(l:List β),(∀b∈l,∀s,Tame P F G0 Lk (f b s))->∀s:a,Tame P F G0 Lk (forIn l s f)
 |[],_,s=>by rw[List.forIn_nil];exact .pure _
 |b::l,h,s=>by
  rw[List.forIn_cons];refine bT.bd (h b bi s) λr=>?_;cases r with
  |done g=>exact .pure _
  |yield g=>exact Tame.forIn_list f l (λb hb=>h b (aD _ hb)) g
def Tame.forIn_array {a:Type}(f:β->a->Sem (ForInStep a))(l:Array β)(h:∀b∈l,∀s,Tame P F G0 Lk (f b s))(s:a):Tame P F G0 Lk (forIn l s f):=by rw[<- Array.forIn_toList];exact Tame.forIn_list f _ (λb hb=>h b (Array.mem_toList_iff.1 hb)) s
def Tame.forIn_range {a:Type}(f:Nat->a->Sem (ForInStep a))(h:∀b s,Tame P F G0 Lk (f b s))(r:Std.Legacy.Range)(s:a):Tame P F G0 Lk (forIn r s f):=by rw[Std.Legacy.Range.forIn_eq_forIn_range'];exact Tame.forIn_list f _ (λb _=>h b) s
def Tame.Dv {a:Type}(f:β->Sem a)(h:∀b,Tame P F G0 Lk (f b)):∀(l:List β),Tame P F G0 Lk (l.mapM f)
 |[]=>by rw[List.mapM_nil];exact .pure _
 |b::l=>by rw[List.mapM_cons];exact bT.bd (h b) λ_=>bT.bd (Tame.Dv f h l) λ_=>.pure _
def Tame.Du {a:Type}(f:β->Sem a)(h:∀b,Tame P F G0 Lk (f b))(l:Array β):Tame P F G0 Lk (l.mapM f):=by rw[aF];exact .map (Tame.Dv f h _)
def Tame.foldlM_list {a:Type}(f:a->β->Sem a)(h:∀s b,Tame P F G0 Lk (f s b)):∀(l:List β) (s:a),Tame P F G0 Lk (l.foldlM f s)
 |[],_=>.pure _
 |b::l,s=>bT.bd (h s b) λg=>Tame.foldlM_list f h l g
/-! ### arithmetic -/
def Tame.intArith (op:BinOp)(k:IntKind)(x y:Int):Tame P F G0 Lk (Op.intArith op k x y):=by unfold Op.intArith;split<;>first|exact .pure _|exact .stuck _
def Tame.intDiv (op:BinOp)(k:IntKind)(x y:Int):Tame P F G0 Lk (Op.intDiv op k x y):=by
 unfold Op.intDiv;split
 .exact .runtimePanic _
 .split<;>first|exact .pure _|exact .stuck _
def Tame.intBits (op:BinOp)(k:IntKind)(x y:Int):Tame P F G0 Lk (Op.intBits op k x y):=by unfold Op.intBits;dsimp only;split<;>first|exact .pure _|exact .stuck _
def Tame.intCmp (op:BinOp)(x y:Int):Tame P F G0 Lk (Op.intCmp op x y):=by unfold Op.intCmp;split<;>first|exact .pure _|exact .stuck _
def Tame.shift (op:BinOp)(k:IntKind)(x:Int)(k':IntKind)(y:Int):Tame P F G0 Lk (Op.shift op k x k' y):=by
 unfold Op.shift;split
 .exact .runtimePanic _
 .dsimp only;split<;>first|exact .pure _|exact .stuck _
def Tame.stringOp (op:BinOp)(x y:Ac):Tame P F G0 Lk (Op.stringOp op x y):=by
 unfold Op.stringOp;dsimp only;split<;>first|exact .pure _|exact .stuck _|skip
 split
 .exact .unsupported (by simp)
 .exact .pure _
def Tame.unary (op:UnOp)(x:D):Tame P F G0 Lk (Op.unary op x):=by unfold Op.unary;split<;>first|exact .pure _|exact .stuck _|exact .intArith .. | exact .intBits .. | exact .unsupported (by simp)
end
section
variable {P:Ad}{F:Array Func}{G0:Base}{N:Nat}{Lk:Loop->Prop}{α β:Type}{E:α->Prop}{S:Nat->Prop}{w v:Z}
def Tame.floatArith (op:BinOp)(k:FloatKind)(x y:Nat):Tame P F G0 Lk (Op.floatArith op k x y):=by
 unfold Op.floatArith;dsimp only
 repeat' (first|with_reducible exact bT.pure _|with_reducible exact bT.stuck _|with_reducible exact bT.choose _|with_reducible refine bT.bd ?_ λ_=>?_|split)
def Tame.floatCmp (op:BinOp)(k:FloatKind)(x y:Nat):Tame P F G0 Lk (Op.floatCmp op k x y):=by unfold Op.floatCmp;dsimp only;split<;>first|exact .pure _|exact .stuck _
def Tame.uY (op:BinOp)(k:FloatKind)(x y:Nat):Tame P F G0 Lk (Op.Complex.arith op k x y):=by unfold Op.Complex.arith;refine bT.bd (Tame.floatArith _ _ _ _) λr=>?_;split<;>first|exact .pure _|exact .stuck _
def Tame.BF (op:BinOp)(k:FloatKind)(x y:Nat):Tame P F G0 Lk (Op.Complex.cmp op k x y):=by unfold Op.Complex.cmp;exact bT.bd (Tame.floatCmp _ _ _ _) λr=>Tame.asBool _
def Tame.floatToFloat (s:FloatKind)(b:Nat)(d:FloatKind):Tame P F G0 Lk (Conv.floatToFloat s b d):=by
 unfold Conv.floatToFloat;dsimp only
 repeat' (first|with_reducible exact bT.pure _|with_reducible exact bT.stuck _|with_reducible exact bT.choose _|with_reducible refine bT.bd ?_ λ_=>?_|split)
def Tame.Iu (s:FloatKind)(b:Nat)(d:FloatKind):Tame P F G0 Lk (Op.Complex.conv s b d):=by unfold Op.Complex.conv;refine .ite (λ_=>.pure _) λ_=>bT.bd (Tame.floatToFloat _ _ _) λr=>?_;split<;>first|exact .pure _|exact .stuck _
def Tame.I5 (a b c d:Nat):Tame P F G0 Lk (Op.Complex.product a b c d):=by
 unfold Op.Complex.product Op.Complex.add Op.Complex.sub Op.Complex.mul
 repeat' (first|with_reducible exact bT.pure _|with_reducible exact Tame.uY _ _ _ _|with_reducible refine bT.bd ?_ λ_=>?_)
def Tame.Iv (s a b c d:Nat):Tame P F G0 Lk (Op.Complex.corrected s a b c d):=by
 unfold Op.Complex.corrected Op.Complex.add Op.Complex.sub Op.Complex.mul
 repeat' (first|with_reducible exact bT.pure _|with_reducible exact Tame.uY _ _ _ _|with_reducible refine bT.bd ?_ λ_=>?_)
def Tame.I6 (a b c d:Nat):Tame P F G0 Lk (Op.Complex.quotient a b c d):=by
 unfold Op.Complex.quotient Op.Complex.add Op.Complex.sub Op.Complex.mul Op.Complex.quo;dsimp only
 repeat' (first|with_reducible exact bT.pure _|with_reducible exact Tame.uY _ _ _ _|with_reducible exact Tame.BF _ _ _ _|with_reducible exact Tame.Iv _ _ _ _ _|with_reducible refine bT.bd ?_ λ_=>?_|split)
def Tame.complexOp (op:BinOp)(k:FloatKind)(a b c d:Nat):Tame P F G0 Lk (Op.complexOp op k a b c d):=by
 unfold Op.complexOp;dsimp only
 repeat' (first|with_reducible exact bT.pure _|with_reducible exact bT.stuck _|with_reducible exact Tame.uY _ _ _ _|with_reducible exact Tame.BF _ _ _ _|with_reducible exact Tame.Iu _ _ _|with_reducible exact Tame.I5 _ _ _ _|with_reducible exact Tame.I6 _ _ _ _|with_reducible refine bT.bd ?_ λ_=>?_|split)
def PM (h:cM G0 N S w v){r:Nat}(hS:¬S r):v.shape? r=w.shape? r:=by
 unfold World.shape?;rcases h.same _ hS with e|⟨⟨x,t,e1⟩,y,u,e2⟩
 .rw[e]
 .rw[e1,e2]
def Fq (h:cM G0 N S w v){r:Nat}(hS:S r):v.shape? r=some (bad,0):=by obtain⟨a,e⟩:=h.hole _ hS;simp[World.shape?,e]
def bT.tZ {r:Nat}{f:Option (Af × Nat)->Sem α}(h1:¬S r->∀s,eY P F G0 Lk E S (f s))
  (g:∀(N:Nat) (w v:Z) (es:Array Event),cM G0 N S w v->Ht Lk v->S r->Fits P G0 Lk E (f (w.shape? r)) N S w v es ((f (some (bad,0))).run (imag P F) v)) :
  eY P F G0 Lk E S (Go.shape r >>= f):=by
 intro N w v es a ht;have e1:(Go.shape r >>= f).run (imag P F) v=(f (v.shape? r)).run (imag P F) v:=rfl;have key:Fits P G0 Lk E (f (w.shape? r)) N S w v es ((f (v.shape? r)).run (imag P F) v):=by
  by_cases hS:S r
  .rw[Fq a hS];exact g N w v es a ht hS
  .rw[PM a hS];exact h1 hS _ N w v es a ht
 rw[e1];exact key.as rfl
def bT.shape {r:Nat}{f:Option (Af × Nat)->Sem α}(h1:∀s,bT P F G0 Lk E (f s))
  (a:∀(S:Nat->Prop) (N:Nat) (w v:Z) (es:Array Event),cM G0 N S w v->Ht Lk v->S r->Fits P G0 Lk E (f (w.shape? r)) N S w v es ((f (some (bad,0))).run (imag P F) v)) :
  bT P F G0 Lk E (Go.shape r >>= f):=λS=>bT.tZ (λ_ s=>h1 s S) (a S)
def Tame.numberAt (r:Nat):Tame P F G0 Lk (Go.numberAt r):=by
 unfold Go.numberAt;refine bT.shape (λs=>?_) λS N w v B j ht hS=>?_
 .refine .ite (λ_=>.pure _) λ_=>bT.getObj (λ_ _ _ _=>rfl) λo=>?_;split<;>exact .pure _
 .have f:=j.lt hS;obtain⟨o,h⟩:∃o,w.heap[r]?=some o:=⟨_,aP f⟩;have g:=j.eH r hS;cases o with
  |cells c e z=>
   have:w.shape? r=some (e,c.size):=by simp[World.shape?,h]
   rw[this];exact Fits.still ⟨rfl,rfl⟩ ht (w':=w) ⟨rfl,rfl⟩ (new:=#[]) (by simp) j (aW _) (by simp)
  |number a l=>exact bx h (g.1 a l)
  |_=>
   have:w.shape? r=none:=by simp[World.shape?,h]
   rw[this];refine Fits.still ⟨rfl,rfl⟩ ht (w':=w) ⟨rfl,rfl⟩ (new:=#[⟨.obj r,false,_⟩]) (by simp only[Option.isSome_none,bg,if_false,Go.getObj,bind,Sem.bind,Sem.runT,h,Array.push_eq_append];rfl) j (aW _) λe y=>?_;simp only[aL,au]at y;subst y;exact f
def bT.viewAt {r:Nat}{g:Bool->Sem α}{c:α}(j:g false=Pure.pure c)(M:bT P F G0 Lk E (g true)):bT P F G0 Lk E (Go.viewAt r >>= λx=>g x.isSome):=by
 have C:bT P F G0 Lk E (g false):=by rw[j];exact .pure _
 let m:Obj->Sem (Option (Addr × Af)):=λo=>match o with
  |.view a t=>Pure.pure (some (a,t))
  |_=>Pure.pure none
 have e:(Go.viewAt r >>= λx=>g x.isSome)=Go.shape r >>= λs=>if s.isSome then g false else Go.getObj r >>= λo=>m o >>= λx=>g x.isSome:=by
  show Sem.shape r _=Sem.shape r _
  congr 1
  funext s
  cases s<;>rfl
 rw[e];refine bT.shape (λs=>?_) λS N w v B y ht hS=>?_
 .refine .ite (λ_=>C) λ_=>bT.getObj (λ_ _ _ _=>rfl) λo=>?_;cases o<;>first|exact M|exact C
 .have f:=y.lt hS;obtain⟨o,l⟩:∃o,w.heap[r]?=some o:=⟨_,aP f⟩;have h:=y.eH r hS;show Fits P G0 Lk E _ N S w v B ((g false).run (imag P F) v);rw[j];cases o with
  |cells c e z=>
   have:w.shape? r=some (e,c.size):=by simp[World.shape?,l]
   rw[this];exact Fits.still ⟨rfl,rfl⟩ ht (w':=w) ⟨rfl,rfl⟩ (new:=#[]) (by simp only[Option.isSome_some,if_true,j];exact congrArg (Prod.mk _) (Array.append_empty).symm) y (aW _) (by simp)
  |view a t=>exact bx l (h.2 a t)
  |_=>
   have:w.shape? r=none:=by simp[World.shape?,l]
   rw[this];refine Fits.still ⟨rfl,rfl⟩ ht (w':=w) ⟨rfl,rfl⟩ (new:=#[⟨.obj r,false,_⟩]) (by show(Sem.getObj r λo=>m o >>= λx=>g x.isSome).runT P w B=_;simp only[Sem.runT,l,Array.push_eq_append];show(g false).runT P w _=_;rw[j];rfl) y (aW _) λe D=>?_;simp only[aL,au]at D;subst D;exact f
def Tame.noView (a:Addr):Tame P F G0 Lk (Go.noView a):=by
 unfold Go.noView;exact bT.viewAt (g := fun b => if b then Go.unsupported (.unsafePointer "memory seen as another type")else Pure.pure ()) rfl (.unsupported (by simp))
def Tame.behindNumber (a:Addr):Tame P F G0 Lk (Go.behindNumber a):=bT.bd (.numberAt _) λ_=>.pure _
def Tame.asNumber (a:Addr)(l:Bool):Tame P F G0 Lk (Go.asNumber a l):=bT.bd (.newObj trivial) λ_=>.pure _
def eY.byteOf(f:¬S a.block):eY P F G0 Lk (λ_=>False) S (Go.byteOf a):=by
 unfold Go.byteOf;split
 .exact bT.pure _ S
 .refine eY.program (by simp only[oy,vI,tn,yU]) ?_;refine eY.bind (Tame.noView a S) λ_=>?_;refine bT.tZ (λ_ s=>?_) λN w v g h ht hS=>bx hS f
  split
  .dsimp only;split
   .exact bT.pure _ S
   .split
    .exact bT.pure _ S
    .exact bT.stuck _ S
  .exact bT.stuck _ S
def Tame.byteOf(j:a.block<G0.n):Tame P F G0 Lk (Go.byteOf a):=by intro S N w v g f ht;exact eY.byteOf (λh=>bx (f.high _ h).1 (by omega)) N w v g f ht
def Tame.twoPlaces (hG:P.globals.size<=G0.n)(a b:Addr):Tame P F G0 Lk (Op.twoPlaces a b):=by
 unfold Op.twoPlaces;refine bT.program rfl ?_;split
 .intro S N w v f g ht;exact⟨trivial,ht⟩
 .rename_i h
  simp only[bz,bne_iff_ne,ne_eq,bC,not_or,Decidable.not_not,Nat.not_le]at h;exact bT.bd (.byteOf (by omega)) λ_=>bT.bd (.byteOf (by omega)) λ_=>.pure _
end
section
variable {P:Ad}{F:Array Func}{G0:Base}{N:Nat}{Lk:Loop->Prop}{α β:Type}{E:α->Prop}{S:Nat->Prop}{w v:Z}
def bT.underlying {t:Af}{f:TypeDesc->Sem α}(h:∀d,P.underlying t=some d->bT P F G0 Lk E (f d)):bT P F G0 Lk E (Go.underlying t >>= f):=by
 intro S N w v a j ht;have e1 : (Go.underlying t >>= f).run (imag P F) v = ((match P.underlying t with | some d => Pure.pure d | none => Go.stuck "no such type" : Sem TypeDesc) >>= f).run (imag P F) v := rfl
 have e2 : (Go.underlying t >>= f).runT P w a = ((match P.underlying t with | some d => Pure.pure d | none => Go.stuck "no such type" : Sem TypeDesc) >>= f).runT P w a := rfl
 rw[e1];cases g:P.underlying t with
 |none=>exact⟨trivial,ht⟩
 |some d=>rw[g]at e2;exact(h d g S N w v a j ht).as e2
def CY:∀d,cellOfByte (imag P F) d=cellOfByte P d
 |0=>rfl
 |d+1=>by
  funext t off
  simp only[cellOfByte,pH,oy,vI,CY d]
  rfl
def Lj (d:Nat):cellAtBytes (imag P F) d=cellAtBytes P d:=by
 funext e c off n
 simp only[cellAtBytes,oy,vI,yU,CY]
 rfl
def Tame.unsafeAdd (hb:P.info? bad=none)(at_:Array Af)(t:Af)(x y:D):Tame P F G0 Lk (Builtin.unsafeAdd_ at_ t #[x,y]):=by
 unfold Builtin.unsafeAdd_;cases x with
 |pointer j=>
  dsimp only;refine bT.bd (Tame.asInt _) λn=>?_;have f:Tame P F G0 Lk (match j with
    |some a=>do
     let x <- Go.shape a.block
     match x with
      |some (e,cells)=>do
       let p <- Go.program
       match cellAtBytes p p.depth e (cells / p.cellsOf e) a.off n with
        |some off=>pure (Value.pointer (some { block:=a.block,off:=off,spot:=a.spot }))
        | none => Go.unsupported (Unsupported.unsafePointer "Add")
      | _ => Go.unsupported (Unsupported.unsafePointer "Add")
    | _ => Go.unsupported (Unsupported.unsafePointer "Add")) := by
   split
   .rename_i a
    refine bT.shape (λs=>?_) λS N w v h l ht hS=>?_
    .split
     .refine bT.program (by simp only[Lj,oy,tn]) ?_;split
      .exact .pure _
      .exact .unsupported (by simp)
     .exact .unsupported (by simp)
    .have e:cellAtBytes (imag P F) (imag P F).depth bad (0 / (imag P F).cellsOf bad) a.off n=none:=by simp[cellAtBytes,oy,Hj hb]
     have o:((do
       let p <- Go.program
       match cellAtBytes p p.depth bad (0 / p.cellsOf bad) a.off n with
        |some off=>pure (Value.pointer (some { block:=a.block,off:=off,spot:=a.spot }))
        | none => Go.unsupported (Unsupported.unsafePointer "Add") : Sem D)).run (imag P F) v = .halt (.unsupported (.unsafePointer "Add")) v := by
      show(match cellAtBytes (imag P F) (imag P F).depth bad (0 / (imag P F).cellsOf bad) a.off n with
        |some off=>pure (Value.pointer (some { block:=a.block,off:=off,spot:=a.spot }))
        | none => Go.unsupported (Unsupported.unsafePointer "Add") : Sem D).run (imag P F) v = _
      rw[e]
      rfl
     show Fits P G0 Lk _ _ N S w v h (((do
       let p <- Go.program
       match cellAtBytes p p.depth bad (0 / p.cellsOf bad) a.off n with
        |some off=>pure (Value.pointer (some { block:=a.block,off:=off,spot:=a.spot }))
        | none => Go.unsupported (Unsupported.unsafePointer "Add") : Sem D)).run (imag P F) v)
     rw[o];exact⟨trivial,ht⟩
   .exact .unsupported (by simp)
  split
  .split
   .rename_i a;exact bT.viewAt (g := fun b => if b then Go.unsupported (.unsafePointer "Add: at a place where no cell lies") >>= fun _ => Pure.pure (Value.pointer (some a))else Pure.pure (Value.pointer (some a))) rfl (bT.bd (.unsupported (by simp)) fun _ => .pure _)
   .intro S N w v h l ht;exact⟨trivial,ht⟩
  .split
   .intro S N w v h l ht;exact⟨trivial,ht⟩
   .exact f
 |_=>exact .stuck _
def Tame.movedNumber (hb:P.info? bad=none)(t:Af)(x y:D):Tame P F G0 Lk (Go.movedNumber t x y):=by
 unfold Go.movedNumber;refine bT.bd (Tame.underlying _) λd=>?_;dsimp only;have a:Tame P F G0 Lk (match x with
   |Value.pointer (some n)=>do
    let x <- Go.behindNumber n
    let z <- Builtin.unsafeAdd_ #[] t #[Value.pointer (some x.fst),y]
    match z with
     |Value.pointer (some b)=>Go.asNumber b x.snd
     |v=>pure v
   |_=>Builtin.unsafeAdd_ #[] t #[x,y]):=by
  split
  .refine bT.bd (Tame.behindNumber _) λr=>?_;refine bT.bd (Tame.unsafeAdd hb _ _ _ _) λz=>?_;split
   .exact Tame.asNumber _ _
   .exact .pure _
  .exact Tame.unsafeAdd hb _ _ _ _
 split
 .intro S N w v f g ht;exact⟨trivial,ht⟩
 .exact a
def Tame.movedPointer (hb:P.info? bad=none)(t:Af)(x y:D):Tame P F G0 Lk (Go.movedPointer t x y):=by
 unfold Go.movedPointer;dsimp only;split
 .refine bT.bd (Tame.numberAt _) λr=>?_;split
  .intro S N w v a f ht;exact⟨trivial,ht⟩
  .exact Tame.unsafeAdd hb _ _ _ _
 .exact Tame.unsafeAdd hb _ _ _ _
def Tame.addrSub (hG:P.globals.size<=G0.n)(k:IntKind)(a b:Addr):Tame P F G0 Lk (Op.addrSub k a b):=bT.bd (Tame.twoPlaces hG a b) λ_=>.pure _
def Tame.addrCmp (hG:P.globals.size<=G0.n)(op:BinOp)(a b:Addr):Tame P F G0 Lk (Op.addrCmp op a b):=by unfold Op.addrCmp;refine bT.bd (Tame.twoPlaces hG a b) λr=>?_;dsimp only;split<;>first|exact .pure _|exact .unsupported (by simp)
def Tame.addrMod (hb:P.info? bad=none)(k:IntKind)(a:Addr)(n:Int):Tame P F G0 Lk (Op.addrMod k a n):=by
 unfold Op.addrMod;intro S;refine bT.tZ (λhS s=>?_) λN w v g h ht hS=>?_
 .split
  .refine eY.bind (Tame.typeInfo _ S) λi=>?_;dsimp only;split
   .intro N w v g h ht;exact⟨trivial,ht⟩
   .exact eY.bind (eY.byteOf hS) λ_=>bT.pure _ S
  .exact bT.unsupported (by simp) S
 .have e : ∀ (f : TypeInfo -> Sem D),(Go.typeInfo bad >>= f).run (imag P F) v = .halt (.stuck "no such type") v := by
   intro f;show((match(imag P F).info? bad with | some i => Pure.pure i | none => Go.stuck "no such type" : Sem TypeInfo) >>= f).run (imag P F) v = _
   rw[yV,hb]
   rfl
  dsimp only;rw[e];exact⟨trivial,ht⟩
def mq (P:Ad):Nat->Af->Bool
 |0,_=>false
 |n+1,t=>match P.underlying t with
  |some (.struct a)=>a.all λf=>mq P n f.type
  |some (.array _ e)=>mq P n e
  |some (.pointer _)|some .unsafePointer|some (.interface _)=>false
  |_=>true
def CX:∀n,(imag P F).alikeButTags n=P.alikeButTags n
 |0=>rfl
 |n+1=>by
  funext t u
  simp only[Program.alikeButTags,CX n]
def yW (t:Af):(imag P F).stoodInHeld t=P.stoodInHeld t:=by
 simp only[Program.stoodInHeld,Program.stoodInAs,pH,tn,CX]
 rfl
def Tame.equalIn (hG:P.globals.size<=G0.n):∀(n d:Nat) (t:Af) (x y:D),mq P n t=true->Tame P F G0 Lk (Op.equalIn d t x y)
 |_,0,_,_,_,_=>.unsupported (by simp)
 |0,_+1,_,_,_,h=>by cases h
 |n+1,d+1,t,x,y,h=>by
  unfold Op.equalIn;refine bT.underlying λU g=>?_;unfold mq at h;rw[g]at h;dsimp only;split
  all_goals first|exact bT.pure _|exact bT.stuck _|exact .unsupported (by simp) | (simp at h;done)|skip
  .exact .ite (λ_=>.pure _) λ_=>.stuck _
  .refine bT.bd (Tame.behindNumber _) λa=>bT.bd (Tame.behindNumber _) λb=>?_;refine bT.program rfl ?_;split
   .rename_i C
    simp only[av,bD,bC]at C;exact bT.bd (Tame.byteOf (by omega)) λ_=>bT.bd (Tame.byteOf (by omega)) λ_=>.pure _
   .refine bT.bd (Tame.typeInfo _) λ_=>?_;split
    .split
     .exact .pure _
     .exact .unsupported (by simp)
    .exact .unsupported (by simp)
  .exact .ite (λ_=>.pure _) λ_=>.stuck _
  .exact .ite (λ_=>.pure _) λ_=>.stuck _
  .rename_i B Q R
   have j:∀f∈B,mq P n f.type=true:=by intro f j;obtain⟨i,M,rfl⟩:=Array.mem_iff_getElem.1 j;exact(Array.all_eq_true.1 h) i M
   refine bT.program (by simp only[yW]) ?_;split
   .intro S N w v W Y ht;exact⟨trivial,ht⟩
   .refine bT.bd (Tame.forIn_array _ _ (λf l s=>?_) _) λr=>?_
    .split
     .refine bT.bd (Tame.part _ _ _) λp=>bT.bd (Tame.part _ _ _) λq=>?_;refine bT.bd (Tame.equalIn hG n d _ _ _ (j f l)) λe=>?_;split<;>exact .pure _
     .exact .pure _
    .split<;>exact .pure _
  .rename_i len o Q R
   refine bT.bd (Tame.sizeOf _) λm=>?_;refine bT.bd (Tame.forIn_range _ (λi s=>?_) _ _) λr=>?_
   .refine bT.bd (Tame.part _ _ _) λp=>bT.bd (Tame.part _ _ _) λq=>?_;refine bT.bd (Tame.equalIn hG n d _ _ _ h) λe=>?_;split<;>exact .pure _
   .split<;>exact .pure _
def Tame.equal (hG:P.globals.size<=G0.n){n:Nat}{t:Af}(x y:D)(h:mq P n t=true):Tame P F G0 Lk (Op.equal t x y):=Tame.equalIn hG n _ t x y h
def Tame.J4 {t e:Af}(ht:P.underlying t=some (.pointer e))(x:D):Tame P F G0 Lk (Op.equal t x (.pointer none)):=by
 unfold Op.equal Op.maxDepth Op.equalIn;refine bT.underlying λf a=>?_;rw[ht]at a;cases a;dsimp only;split
 all_goals first|exact bT.pure _|exact bT.stuck _|skip
 all_goals simp_all
end
section
variable {P:Ad}{F:Array Func}{G0:Base}{Lk:Loop->Prop}{α β:Type}{E:α->Prop}{S:Nat->Prop}{w v:Z}
def CZ:∀n,(imag P F).eqGuardType n=P.eqGuardType n
 |0=>rfl
 |n+1=>by
  funext t
  simp only[Program.eqGuardType,pH,CZ n]
def Tame.eqGuardIn:∀(d:Nat) (t:Af) (x y:D),Tame P F G0 Lk (Op.eqGuardIn d t x y)
 |0,_,_,_=>.unsupported (by simp)
 |d+1,t,x,y=>by
  unfold Op.eqGuardIn;refine bT.bd (Tame.underlying _) λa=>?_;dsimp only;split
  .exact .pure _
  .refine bT.bd (Tame.forIn_array _ _ (λf _ s=>?_) _) λr=>?_
   .split
    .refine bT.bd (Tame.part _ _ _) λp=>bT.bd (Tame.part _ _ _) λq=>?_;refine bT.bd (Tame.eqGuardIn d _ _ _) λe=>?_;split<;>exact .pure _
    .exact .pure _
   .split<;>exact .pure _
  .refine bT.bd (Tame.sizeOf _) λm=>?_;refine bT.bd (Tame.forIn_range _ (λi s=>?_) _ _) λr=>?_
   .refine bT.bd (Tame.part _ _ _) λp=>bT.bd (Tame.part _ _ _) λq=>?_;refine bT.bd (Tame.eqGuardIn d _ _ _) λe=>?_;split<;>exact .pure _
   .split<;>exact .pure _
  .exact .pure _
def Tame.eqGuard (op:BinOp)(t:Af)(x y:Ae)(a b:D):Tame P F G0 Lk (Go.eqGuard op t x y a b):=by
 unfold Go.eqGuard;have body:Tame P F G0 Lk (match a,b with
   |.nilIface,.nilIface=>do
    if(x matches .const _) || (y matches .const _)then return
    if <- Op.eqGuardIn Op.maxDepth t a b then Go.unsupported (.noEntry "binop/eql: two nil values of an interface type with methods, neither of them the literal nil")
   |.agg _,.agg _=>do
    if !(<- Go.program).eqGuardType (<- Go.program).depth t then return
    if <- Op.eqGuardIn Op.maxDepth t a b then Go.unsupported (.noEntry "binop/eql: two nil values of an interface type with methods, in a part of a struct or an array")
   |_,_=>pure ()):=by
  have g:∀s:String,Tame P F G0 Lk (do if <- Op.eqGuardIn Op.maxDepth t a b then Go.unsupported (.noEntry s)):=λs=>by
   refine bT.bd (Tame.eqGuardIn _ _ _ _) λr=>?_;split
   .exact .unsupported (by simp)
   .exact .pure _
  split
  .repeat' split
   all_goals first|exact bT.pure _|exact g _
  .refine bT.program (by simp only[CZ]) ?_;refine bT.program rfl ?_;split
   .exact .pure _
   .exact g _
  .exact .pure _
 split
 .exact body
 .exact body
 .exact .pure _
def Tame.binOp (hb:P.info? bad=none)(hG:P.globals.size<=G0.n)(op:BinOp)(t:Af)(x y:D)(a:op = .eql\/op = .neq->Tame P F G0 Lk (Op.equal t x y)):Tame P F G0 Lk (Go.binOp op t x y):=by
 unfold Go.binOp;split
 .exact Tame.shift _ _ _ _ _
 .exact Tame.shift _ _ _ _ _
 .split
  .exact .stuck _
  .split
   all_goals first|exact Tame.intArith _ _ _ _|exact Tame.intDiv _ _ _ _|exact Tame.intBits _ _ _ _|exact Tame.intCmp _ _ _
 .split
  .exact .stuck _
  .split
   all_goals first|exact Tame.floatArith _ _ _ _|exact Tame.floatCmp _ _ _ _
 .split
  .exact .stuck _
  .exact Tame.complexOp _ _ _ _ _ _
 .exact Tame.stringOp _ _ _
 .exact bT.bd (a (.inl rfl)) λ_=>.pure _
 .exact bT.bd (a (.inr rfl)) λ_=>.pure _
 .refine bT.bd (Tame.underlying _) λ_=>?_;split
  all_goals first|exact Tame.movedPointer hb _ _ _|exact Tame.movedNumber hb _ _ _
 all_goals first|exact Tame.movedNumber hb _ _ _|exact bT.bd (Tame.behindNumber _) λ_=>bT.bd (Tame.behindNumber _) λ_=>Tame.addrSub hG _ _ _|exact bT.bd (Tame.behindNumber _) λ_=>bT.bd (Tame.behindNumber _) λ_=>Tame.addrCmp hG _ _ _|exact bT.bd (Tame.behindNumber _) λ_=>Tame.addrMod hb _ _ _|exact bT.unsupported (by simp)|exact bT.stuck _
/-! ### instructions -/
def Tame.alloc (t:Af):Tame P F G0 Lk (Instr.alloc t true (.tuple #[])):=by unfold Instr.alloc;exact bT.bd (Tame.zeroValue _) λ_=>bT.bd (Tame.newVar _ _) λ_=>.pure _
def Tame.box (t:Af)(x:D):Tame P F G0 Lk (Instr.box t x):=bT.bd (Tame.newVar _ _) λ_=>.pure _
def Tame.build (t:Af)(ps:Array (Nat × D)):Tame P F G0 Lk (Instr.build t ps):=by
 unfold Instr.build;refine bT.bd (Tame.zeroValue _) λz=>bT.bd (Tame.underlying _) λa=>?_;split
 .refine bT.bd (Tame.Du _ (λf=>bT.bd (Tame.sizeOf _) λ_=>.pure _) _) λg=>?_;split
  .exact .pure _
  .exact .stuck _
 .refine bT.bd (Tame.sizeOf _) λm=>?_;split
  .exact .pure _
  .exact .stuck _
 .exact .stuck _
def Tame.buildSlice (t:Af)(n:Nat)(ps:Array (Nat × D)):Tame P F G0 Lk (Instr.buildSlice t n ps):=by
 unfold Instr.buildSlice;refine bT.bd (Tame.underlying _) λa=>?_;split
 .refine bT.bd (Tame.sizeOf _) λm=>?_;dsimp only;split
  .intro S N w v f g ht;exact⟨trivial,ht⟩
  .split
   .refine bT.bd (.pure _) λz=>?_;split
    .exact bT.bd (Tame.newRow _ _) λ_=>.pure _
    .exact .stuck _
   .refine bT.bd (Tame.zeroValue _) λz=>bT.bd (.pure _) λz=>?_;split
    .exact bT.bd (Tame.newRow _ _) λ_=>.pure _
    .exact .stuck _
 .exact .stuck _
def Tame.loadAt (hb:P.info? bad=none)(t:Af)(a:D):Tame P F G0 Lk (Instr.loadAt t a):=bT.bd (Tame.sureAddr _) λ_=>Tame.loadVar hb _ _
def Tame.storeAt (hb:P.info? bad=none)(t:Af)(a x:D):Tame P F G0 Lk (Instr.storeAt t a x):=bT.bd (Tame.sureAddr _) λ_=>Tame.storeVar hb _ _ _
def yI (P:Ad)(s:Af)(i:Nat):Bool:=match P.underlying s with
 |some (.struct a)=>match a[i]? with
  |some f=>P.cellsOf f.type != 0
  |none=>true
 |_=>true
def Tame.fieldAt {s:Af}{i:Nat}(h:yI P s i=true)(a:D):Tame P F G0 Lk (Instr.fieldAt s a i):=by
 unfold Instr.fieldAt;refine bT.underlying λM y=>?_;unfold yI at h;rw[y]at h;split
 .split
  .rename_i f B
   simp only[B,bne_iff_ne,ne_eq]at h;refine bT.bd (Tame.sureAddr _) λa=>bT.bd ?_ λ_=>.pure _
   unfold Go.fieldPlace;intro S N w v r C ht;cases l:P.info? f.type with
   |none=>
    have e : ∀ (g : Nat -> Sem Addr),(Go.sizeOf f.type >>= g).run (imag P F) v = .halt (.stuck "no such type") v := by
     intro g;show(((match(imag P F).info? f.type with | some i => Pure.pure i | none => Go.stuck "no such type" : Sem TypeInfo) >>= fun i => Pure.pure i.size) >>= g).run (imag P F) v = _
     rw[yV,l]
     rfl
    rw[e];exact⟨trivial,ht⟩
   |some o=>
    have j:o.size≠0:=by
     have:P.cellsOf f.type=o.size:=by simp[Program.cellsOf,l]
     rw[this]at h;exact h
    have e1:∀(g:Nat->Sem Addr),(Go.sizeOf f.type >>= g).run (imag P F) v=(g o.size).run (imag P F) v:=by
     intro g;show(((match(imag P F).info? f.type with | some i => Pure.pure i | none => Go.stuck "no such type" : Sem TypeInfo) >>= fun i => Pure.pure i.size) >>= g).run (imag P F) v = _
     rw[yV,l]
     rfl
    have e2:∀(g:Nat->Sem Addr),(Go.sizeOf f.type >>= g).runT P w r=(g o.size).runT P w r:=by
     intro g;show(((match P.info? f.type with | some i => Pure.pure i | none => Go.stuck "no such type" : Sem TypeInfo) >>= fun i => Pure.pure i.size) >>= g).runT P w r = _
     rw[l]
     rfl
    rw[e1,if_neg j];refine Fits.still ⟨rfl,rfl⟩ ht (w':=w) ⟨rfl,rfl⟩ (new:=#[]) ?_ C (aW _) (by simp);rw[e2,if_neg j];show(_,_)=(_,_);simp
  .exact .stuck _
 .exact .stuck _
end
section
variable {P:Ad}{F:Array Func}{G0:Base}{Lk:Loop->Prop}{α β:Type}{E:α->Prop}{S:Nat->Prop}{w v:Z}
def Tame.sliceBound (x:D)(y:Nat)(c:BoundsCode):Tame P F G0 Lk (Instr.sliceBound x y c):=by
 unfold Instr.sliceBound;refine bT.bd (Tame.asIntOf _) λr=>?_;dsimp only;split
 .exact .pure _
 .exact .boundsPanic _ _ _ _
def Tame.sliceBounds (b:Bool)(l c:Nat)(lo a f:Option D):Tame P F G0 Lk (Instr.sliceBounds b l c lo a f):=by
 unfold Instr.sliceBounds;dsimp only
 repeat' (first|with_reducible exact bT.pure _|with_reducible exact Tame.sliceBound _ _ _|with_reducible exact bT.stuck _|with_reducible refine bT.bd ?_ λ_=>?_|split)
def Tame.slice (t:Af)(x:D)(lo a f:Option D):Tame P F G0 Lk (Instr.slice t x lo a f):=by
 unfold Instr.slice;refine bT.bd (Tame.underlying _) λg=>?_;dsimp only;split
 .split
  .intro S N w v h j ht;exact⟨trivial,ht⟩
  .exact bT.bd (Tame.sliceBounds _ _ _ _ _ _) λ_=>.pure _
 .exact bT.bd (Tame.sliceBounds _ _ _ _ _ _) λ_=>bT.bd (Tame.sizeOf _) λ_=>.pure _
 .refine bT.bd (Tame.asAddr _) λ_=>bT.bd (Tame.underlying _) λ_=>?_;split
  .exact bT.bd (Tame.sliceBounds _ _ _ _ _ _) λ_=>bT.bd (Tame.sizeOf _) λ_=>.pure _
  .exact .stuck _
 .exact .stuck _
def Tame.sliceAt (t:Af)(x:D)(lo a f:Option D):Tame P F G0 Lk (Instr.sliceAt t x lo a f):=by
 unfold Instr.sliceAt;refine bT.bd (Tame.underlying _) λg=>?_;dsimp only;split
 .exact bT.bd (Tame.sureAddr _) λ_=>bT.bd (Tame.sliceBounds _ _ _ _ _ _) λ_=>bT.bd (Tame.sizeOf _) λ_=>.pure _
 .exact Tame.slice _ _ _ _ _
def Tame.field (t:Af)(x:D)(i:Nat):Tame P F G0 Lk (Instr.field t x i):=by
 unfold Instr.field;refine bT.bd (Tame.underlying _) λa=>?_;split
 .split
  .exact bT.bd (Tame.asAgg _) λ_=>Tame.part _ _ _
  .exact .stuck _
 .exact .stuck _
def Tame.index (t:Af)(x i:D):Tame P F G0 Lk (Instr.index t x i):=by
 unfold Instr.index;refine bT.bd (Tame.asIntOf _) λr=>bT.bd (Tame.underlying _) λa=>?_;split
 .split
  .exact bT.bd (Tame.sizeOf _) λ_=>Tame.part _ _ _
  .exact .boundsPanic _ _ _ _
 .split
  .exact .pure _
  .exact .boundsPanic _ _ _ _
 .exact .stuck _
def Tame.indexAt (t:Af)(x i:D):Tame P F G0 Lk (Instr.indexAt t x i):=by
 unfold Instr.indexAt;refine bT.bd (Tame.asIntOf _) λr=>?_;obtain⟨j,g⟩:=r;have f:∀(p:Option Addr × Nat × Af),Tame P F G0 Lk (do
   let h:=p.2.1<=1 && (match <- Go.underlying t with | .array ..=>true|_=>false)
   match p.1 with
   |some a=>
    if 0<=g/\g<p.2.1 then pure (Value.pointer (some (a.add (g.toNat*(<- Go.sizeOf p.2.2)))))
    else if h then Go.unsupported (.noEntry "op/indexAddr.an index out of range at an array of length 0 or 1 (ledger 616)")
    else Go.boundsPanic j g p.2.1 .index
   |none=>Go.boundsPanic j g 0 .index):=by
  intro p;refine bT.bd (Tame.underlying _) λl=>?_;dsimp only;split
  .split
   .exact bT.bd (Tame.sizeOf _) λ_=>.pure _
   .refine .ite (λ_=>.unsupported (by simp)) λ_=>.boundsPanic _ _ _ _
  .exact .boundsPanic _ _ _ _
 refine bT.bd (Tame.underlying _) λl=>?_;dsimp only;split
 .exact bT.bd (Tame.sureAddr _) λ_=>bT.bd (.pure _) λp=>f p
 .exact bT.bd (.pure _) λp=>f p
 .exact bT.bd (.stuck _) λp=>f p
def Tame.extract (x:D)(i:Nat):Tame P F G0 Lk (Instr.extract x i):=by
 unfold Instr.extract;split
 .split
  .exact .pure _
  .exact .stuck _
 .exact .stuck _
def Tame.makeMap (t:Af)(r:Option D):Tame P F G0 Lk (Instr.makeMap t r):=by
 unfold Instr.makeMap;dsimp only;split
 .refine bT.bd (Tame.underlying _) λa=>?_;split
  .exact bT.bd (Tame.asInt _) λ_=>bT.bd (.newObj trivial) λ_=>.pure _
  .intro S N w v f g ht;exact⟨trivial,ht⟩
 .exact bT.bd (.newObj trivial) λ_=>.pure _
def Tame.makeSlice (t:Af)(l c:D):Tame P F G0 Lk (Instr.makeSlice t l c):=by
 unfold Instr.makeSlice;refine bT.bd (Tame.underlying _) λj=>?_;split
 .refine bT.bd (Tame.asInt _) λl=>bT.bd (Tame.asInt _) λc=>bT.bd (Tame.typeInfo _) λo=>?_;dsimp only;have a:∀n:Nat,∀x:Sem D,Tame P F G0 Lk x->Tame P F G0 Lk (Go.askRoom n >>= λ_=>x):=λn x h=>bT.bd (Tame.askRoom _) λ_=>h
  split
  .split
   .intro S N w v f g ht;exact⟨trivial,ht⟩
   .split
    .intro S N w v f g ht;exact⟨trivial,ht⟩
    .refine bT.bd (.choose _) λ_=>?_;intro S N w v f g ht;exact⟨trivial,ht⟩
  .refine a _ _ (bT.bd (Tame.sizeOf _) λm=>?_);split
   .exact bT.bd (.pure _) λ_=>bT.bd (Tame.newRow _ _) λ_=>.pure _
   .exact bT.bd (Tame.zeroValue _) λ_=>bT.bd (.pure _) λ_=>bT.bd (Tame.newRow _ _) λ_=>.pure _
 .exact .stuck _
/-! ### maps -/
def Tame.checkKey (e:Bool):∀(n:Nat) (t:Af) (x:D),Tame P F G0 Lk (Instr.checkKey e n t x)
 |0,_,_=>.unsupported (by simp)
 |n+1,t,x=>by
  unfold Instr.checkKey;refine bT.bd (Tame.underlying _) λa=>?_;dsimp only;split
  .refine bT.bd (Tame.typeInfo _) λg=>?_;split
   .split
    .exact bT.bd (.runtimePanic _) λ_=>bT.bd (Tame.typeStr _) λ_=>bT.bd (.runtimePanic _) λ_=>Tame.checkKey e n _ _
    .exact bT.bd (Tame.typeStr _) λ_=>bT.bd (.runtimePanic _) λ_=>Tame.checkKey e n _ _
   .exact Tame.checkKey e n _ _
  .refine bT.bd (Tame.forIn_range _ (λi s=>?_) _ _) λ_=>.pure _
   exact bT.bd (Tame.sizeOf _) λ_=>bT.bd (Tame.part _ _ _) λ_=>bT.bd (Tame.checkKey e n _ _) λ_=>.pure _
  .refine bT.bd (Tame.forIn_array _ _ (λf _ s=>?_) _) λ_=>.pure _
   split
   .exact bT.bd (Tame.part _ _ _) λ_=>bT.bd (Tame.checkKey e n _ _) λ_=>.pure _
   .exact .pure _
  .exact .pure _
  .exact .stuck _
  .exact .stuck _
  .exact .stuck _
  .exact .pure _
def Tame.findAsking (hG:P.globals.size<=G0.n){n:Nat}{t:Af}(h:mq P n t=true)(k:D):∀(l:List MapEntry) (i:Nat),Tame P F G0 Lk (Instr.findAsking t k l i)
 |[],_=>.pure _
 |e::a,i=>by
  unfold Instr.findAsking;refine bT.bd (Tame.equal hG _ _ h) λr=>?_;split
  .exact .pure _
  .exact Tame.findAsking hG h k a (i+1)
def Tame.findKey (hG:P.globals.size<=G0.n){n:Nat}{t:Af}(h:mq P n t=true)(k:D)(l:List MapEntry):Tame P F G0 Lk (Instr.findKey t k l):=by
 unfold Instr.findKey;refine bT.bd (Tame.underlying _) λa=>?_;split
 .exact .pure _
 .exact Tame.findAsking hG h k l 0
def oM (P:Ad)(t:Af):Bool:=match P.underlying t with
 |some (.map k _)=>mq P 9 k
 |_=>true
def Tame.lookup (hG:P.globals.size<=G0.n){t:Af}(h:oM P t=true)(x i:D)(ok:Bool):Tame P F G0 Lk (Instr.lookup t x i ok):=by
 unfold Instr.lookup;refine bT.underlying λl j=>?_;unfold oM at h;rw[j]at h;split
 .rename_i key f
  have a:∀g:Array MapEntry,Tame P F G0 Lk (do
    Instr.checkKey g.isEmpty 10000 key i
    let(v,ok') <- match <- Instr.findKey key i g.toList with
     |some (_,v)=>pure (v,true)
     |none=>pure (<- Go.zeroValue f,false)
    pure (if ok then .tuple #[v,.bool ok']else v)):=by
   intro g;refine bT.bd (Tame.checkKey _ _ _ _) λ_=>bT.bd (Tame.findKey hG h _ _) λr=>?_;dsimp only;split
   .exact bT.bd (.pure _) λ_=>.pure _
   .exact bT.bd (Tame.zeroValue _) λ_=>bT.bd (.pure _) λ_=>.pure _
  dsimp only;split
  .exact bT.bd (.pure _) λ_=>a _
  .refine bT.getObj (λ_ _ _ _=>rfl) λo=>?_;split
   .exact bT.bd (.pure _) λ_=>a _
   .exact bT.bd (.stuck _) λ_=>a _
  .exact bT.bd (.stuck _) λ_=>a _
 .exact .stuck _
def Tame.keyThatStays (a b:D):Tame P F G0 Lk (Instr.keyThatStays a b):=by unfold Instr.keyThatStays;exact .ite (λ_=>.pure _) λ_=>bT.bd (.choose _) λ_=>.pure _
def Tame.mapUpdate (hG:P.globals.size<=G0.n){t:Af}(h:oM P t=true)(m k x:D):Tame P F G0 Lk (Instr.mapUpdate t m k x):=by
 unfold Instr.mapUpdate;refine bT.underlying λf a=>?_;unfold oM at h;rw[a]at h;split
 .split
  .exact .runtimePanic _
  .refine bT.getObj (λ_ _ _ _=>rfl) λo=>?_;split
   .refine bT.bd (Tame.checkKey _ _ _ _) λ_=>bT.bd (Tame.findKey hG h _ _) λr=>?_;split
    .exact bT.bd (Tame.keyThatStays _ _) λ_=>.setObj _ trivial
    .exact .setObj _ trivial
   .exact .stuck _
  .exact .stuck _
 .exact .stuck _
def Tame.delete (hG:P.globals.size<=G0.n)(ats:Array Af)(t:Af)(h:∀t,ats[0]?=some t->oM P t=true)(args:Ak):Tame P F G0 Lk (Builtin.delete_ ats t args):=by
 unfold Builtin.delete_;dsimp only;cases f:ats[0]? with
 |none=>exact .stuck _
 |some mt=>
  have h:=h mt f;cases args[0]? with
  |none=>exact .stuck _
  |some m=>
   cases args[1]? with
   |none=>exact .stuck _
   |some k=>
    dsimp only;refine bT.underlying λg a=>?_;unfold oM at h;rw[a]at h;split
    .split
     .exact bT.bd (Tame.checkKey _ _ _ _) λ_=>.pure _
     .refine bT.getObj (λ_ _ _ _=>rfl) λo=>?_;split
      .refine bT.bd (Tame.checkKey _ _ _ _) λ_=>bT.bd (Tame.findKey hG h _ _) λr=>?_;split
       .exact bT.bd (.setObj _ trivial) λ_=>.pure _
       .exact bT.bd (.setObj _ trivial) λ_=>.pure _
      .exact bT.bd (.stuck _) λ_=>.pure _
     .exact bT.bd (.stuck _) λ_=>.pure _
    .exact .stuck _
def Tame.range (t:Af)(x:D):Tame P F G0 Lk (Instr.range t x):=by
 unfold Instr.range;refine bT.bd (Tame.underlying _) λh=>?_;dsimp only;split
 .show Tame P F G0 Lk (Go.newObj (.stringIter _ 0) >>= _);exact bT.bd (.newObj trivial) λ_=>.pure _
 .show Tame P F G0 Lk (Go.newObj (.mapIter none 0 #[] 0) >>= _);exact bT.bd (.newObj trivial) λ_=>.pure _
 .refine bT.getObj (λ_ _ _ _=>rfl) λo=>?_;split
  .rename_i m _ a
   show Tame P F G0 Lk (Go.newObj (.mapIter (some _) a #[] a) >>= _);exact bT.bd (.newObj trivial) λ_=>.pure _
  .intro S N w v f g ht;exact⟨trivial,ht⟩
 .intro S N w v f g ht;exact⟨trivial,ht⟩
def Tame.next (it:D)(b:Bool)(t:Af):Tame P F G0 Lk (Instr.next it b t):=by
 unfold Instr.next;dsimp only;split
 .refine bT.getObj (λ_ _ _ _=>rfl) λo=>?_;split
  .split
   .exact bT.bd (.setObj _ trivial) λ_=>.pure _
   .exact .pure _
  .exact .pure _
  .refine bT.getObj (λ_ _ _ _=>rfl) λo=>?_;split
   .have body:∀(cs:Array (Option MapEntry)) (o:MapEntry->Obj) (r:Nat),(∀e,qX Lk (o e))->Tame P F G0 Lk (do match cs[<- Go.choose (.mapNext cs.size)]? with
      |some (some e)=>
       Go.setObj r (o e)
       pure (Value.tuple #[.bool true,e.key,e.val])
      |some none=>pure (Value.tuple #[.bool false])
      | none => Go.stuck "Next: no such candidate") := by
     intro cs o r a;refine bT.bd (.choose _) λi=>?_;split
     .exact bT.bd (.setObj _ (a _)) λ_=>.pure _
     .exact .pure _
     .exact .stuck _
    split
    .intro S N w v f g ht;exact⟨trivial,ht⟩
    .exact body _ (λe=>.mapIter _ _ _ _) _ λ_=>trivial
   .exact .stuck _
  .exact .stuck _
 .exact .stuck _
def Tame.entry (it:D):Tame P F G0 Lk (Instr.entry it):=by
 unfold Instr.entry;split
 .refine bT.getObj (λ_ _ _ _=>rfl) λo=>?_;split
  .split
   .refine bT.getObj (λ_ _ _ _=>rfl) λo=>?_;split
    .dsimp only;split
     .intro S N w v a f ht;exact⟨trivial,ht⟩
     .split
      .exact .pure _
      .exact .unsupported (by simp)
    .exact .stuck _
   .exact .stuck _
  .exact .stuck _
 .exact .stuck _
/-! ### built-in functions -/
def Tame.lenOf (x:D):Tame P F G0 Lk (Builtin.lenOf x):=by unfold Builtin.lenOf;split<;>first|exact .pure _|exact .stuck _
def Tame.firstCells (hb:P.info? bad=none)(s n:Nat)(x:D):Tame P F G0 Lk (Builtin.firstCells s n x):=by unfold Builtin.firstCells;split<;>first|exact .pure _|exact .stuck _|exact Tame.loadCells hb _ _
def Tame.cap (ats:Array Af)(t:Af)(args:Ak):Tame P F G0 Lk (Builtin.cap_ ats t args):=by
 unfold Builtin.cap_;split
 .refine bT.bd (Tame.underlying _) λa=>?_;split
  all_goals first|exact bT.pure _|exact bT.stuck _|skip
  .refine bT.bd (Tame.underlying _) λa=>?_;split
   .exact .pure _
   .exact .stuck _
  .refine bT.getObj (λ_ _ _ _=>rfl) λo=>?_;split
   .exact .pure _
   .exact .stuck _
 .exact .stuck _
def Tame.len (ats:Array Af)(t:Af)(args:Ak):Tame P F G0 Lk (Builtin.len_ ats t args):=by
 unfold Builtin.len_;split
 .refine bT.bd (Tame.underlying _) λa=>?_;split
  all_goals first|exact bT.pure _|exact bT.stuck _|skip
  .refine bT.bd (Tame.underlying _) λa=>?_;split
   .exact .pure _
   .exact .stuck _
  .refine bT.getObj (λ_ _ _ _=>rfl) λo=>?_;split
   .exact .pure _
   .exact .stuck _
  .refine bT.getObj (λ_ _ _ _=>rfl) λo=>?_;split
   .exact .pure _
   .exact .stuck _
 .exact .stuck _
def Tame.copy (hb:P.info? bad=none)(ats:Array Af)(t:Af)(args:Ak):Tame P F G0 Lk (Builtin.copy_ ats t args):=by
 unfold Builtin.copy_;dsimp only;split
 .refine bT.bd (Tame.underlying _) λa=>?_;split
  .split
   .refine bT.bd (Tame.lenOf _) λn=>bT.bd (Tame.sizeOf _) λm=>bT.bd (Tame.firstCells hb _ _ _) λcs=>?_;split
    .exact bT.bd (Tame.storeCells hb _ _ _) λ_=>.pure _
    .exact .pure _
   .exact .stuck _
  .exact .stuck _
 .exact .stuck _
def Tame.clear (hb:P.info? bad=none)(ats:Array Af)(t:Af)(args:Ak):Tame P F G0 Lk (Builtin.clear_ ats t args):=by
 unfold Builtin.clear_;dsimp only;split
 .refine bT.bd (Tame.underlying _) λa=>?_;split
  .exact .pure _
  .exact .pure _
  .exact .pure _
  .refine bT.getObj (λ_ _ _ _=>rfl) λo=>?_;split
   .exact bT.bd (.setObj _ trivial) λ_=>.pure _
   .exact bT.bd (.stuck _) λ_=>.pure _
  .exact bT.bd (Tame.zeroValue _) λ_=>bT.bd (Tame.storeCells hb _ _ _) λ_=>.pure _
  .exact bT.bd (.stuck _) λ_=>.pure _
 .exact .stuck _
def Tame.max2 (x y:D):Tame P F G0 Lk (Builtin.max2 x y):=by
 unfold Builtin.max2;split
 all_goals first|exact bT.pure _|exact bT.stuck _|exact bT.unsupported (by simp)|skip
 .split
  .exact bT.bd (.choose _) λ_=>.pure _
  all_goals exact .pure _
def Tame.max (ats:Array Af)(t:Af)(args:Ak):Tame P F G0 Lk (Builtin.max_ ats t args):=by
 unfold Builtin.max_;split
 .exact .stuck _
 .exact Tame.foldlM_list _ (λa b=>Tame.max2 a b) _ _
def Tame.min2 (x y:D):Tame P F G0 Lk (Builtin.min2 x y):=by
 unfold Builtin.min2;split
 all_goals first|exact bT.pure _|exact bT.stuck _|exact bT.unsupported (by simp)|skip
 .split
  .exact bT.bd (.choose _) λ_=>.pure _
  all_goals exact .pure _
def Tame.min (ats:Array Af)(t:Af)(args:Ak):Tame P F G0 Lk (Builtin.min_ ats t args):=by
 unfold Builtin.min_;split
 .exact .stuck _
 .exact Tame.foldlM_list _ (λa b=>Tame.min2 a b) _ _
end
section
variable {P:Ad}{F:Array Func}{G0:Base}{N:Nat}{Lk:Loop->Prop}{α β:Type}{E:α->Prop}{S:Nat->Prop}{w v:Z}
def pa (Q:Ad)(s:Sem α):Prop:=∀v,∃h,s.run Q v = .halt h v/\nP h
def bT.JA {s:Sem α}(h:pa (imag P F) s):bT P F G0 Lk E s:=by intro S N w v g j ht;obtain⟨e,a,f⟩:=h v;rw[a];exact⟨f,ht⟩
def Answers (Q:Ad)(s:Sem α):Prop:=∀v,∃a,s.run Q v = .ok a v
def pa.bind {Q:Ad}{s:Sem β}{f:β->Sem α}(h:Answers Q s)(g:∀b,pa Q (f b)):pa Q (s >>= f):=by intro v;obtain⟨a,e⟩:=h v;obtain⟨x,e2,m⟩:=g a v;refine⟨x,?_,m⟩;rw[Sem.run_bind,e];exact e2
def Answers.bind {Q:Ad}{s:Sem β}{f:β->Sem α}(h:Answers Q s)(g:∀b,Answers Q (f b)):Answers Q (s >>= f):=by intro v;obtain⟨a,e⟩:=h v;obtain⟨x,e2⟩:=g a v;exact⟨x,by rw[Sem.run_bind,e];exact e2⟩
def Answers.pure {Q:Ad}(a:α):Answers Q (Pure.pure a:Sem α):=λv=>⟨a,rfl⟩
def Answers.holdsCells {Q:Ad}(a:Addr)(n:Nat):Answers Q (Builtin.holdsCells a n):=by unfold Builtin.holdsCells;refine Answers.bind (λv=>⟨_,rfl⟩) λs=>?_;split<;>exact .pure _
def Answers.mayShare {Q:Ad}(s l n:Nat)(b:Option Addr)(x:D):Answers Q (Builtin.mayShare s l n b x):=by
 unfold Builtin.mayShare;dsimp only;have g:∀f:Bool,Answers Q (do
   if !f then return true
   match x with
   |.slice (some h) _ _=>do Pure.pure (!(<- Builtin.holdsCells h (n*s)) || b.any (λ(y:Addr)=>y.block == h.block))
   |_=>Pure.pure false:Sem Bool):=by
  intro f;split
  .exact .pure _
  .split
   .exact Answers.bind (.holdsCells _ _) λ_=>.pure _
   .exact .pure _
 split
 .exact Answers.bind (.pure _) λ_=>g _
 .exact Answers.bind (.holdsCells _ _) λa=>Answers.bind (λv=>⟨_,rfl⟩) λ_=>Answers.bind (.pure _) λ_=>g _
def PN(a:∀g,u≠.initOrder g)(s l n:Nat)(b:Option Addr)(x:D):bT P F G0 Lk E (do
  let r <- Builtin.mayShare s l n b x
  if(!r)=true then do
   Go.mark .noRoom
   Go.unsupported u
  else Go.unsupported u:Sem α):=by
 refine .JA (pa.bind (.mayShare _ _ _ _ _) λr=>?_);have h:pa (imag P F) (Go.unsupported u:Sem α):=λv=>⟨_,rfl,by cases u<;>first|trivial|exact bx rfl (a _)⟩
 split
 .exact pa.bind (λv=>⟨_,rfl⟩) λ_=>h
 .exact h
def Tame.append (hb:P.info? bad=none)(ats:Array Af)(t:Af)(args:Ak):Tame P F G0 Lk (Builtin.append_ ats t args):=by
 unfold Builtin.append_;dsimp only;split
 .refine bT.bd (Tame.underlying _) λa=>?_;split
  .split
   .repeat' (first|with_reducible exact bT.pure _|with_reducible exact bT.runtimePanic _|with_reducible exact bT.choose _|with_reducible exact Tame.typeInfo _|with_reducible exact Tame.zeroValue _|with_reducible exact Tame.askRoom _|with_reducible exact Tame.firstCells hb _ _ _|with_reducible exact Tame.newRow _ _|with_reducible exact Tame.storeCells hb _ _ _|with_reducible exact Tame.asInt _|with_reducible exact Tame.lenOf _|with_reducible exact Tame.underlying _|with_reducible exact Tame.sizeOf _|with_reducible exact PN (λ_ h=>Unsupported.noConfusion h) _ _ _ _ _|with_reducible refine bT.bd ?_ λ_=>?_|with_reducible refine bT.ite (λ_=>?_) λ_=>?_|split)
   .exact .stuck _
  .exact .stuck _
 .exact .stuck _
def cM.freeze (h:cM G0 N S w v)(a:Addr)(n:Nat)(hS:¬S a.block):cM G0 N S (w.freeze a n) (v.freeze a n):=by
 have ne:∀k,S k->a.block≠k:=λk g e=>hS (e ▸ g)
 unfold World.freeze;split
 .exact h
 .refine⟨by simp[h.size],λk g=>?_,λk g=>?_,λk g=>?_,h.high,h.agree,h.os,h.output,h.Cw a.block (λo j=>by cases o<;>first|rfl|exact j.elim) (λo j=>by cases o<;>exact j)⟩
  .simp only[aV];split
   .exact(h.same k g).map λ_ _=>rfl
   .exact h.same k g
  .obtain⟨l,e⟩:=h.hole k g;exact⟨l,by simp[aV,ne k g,e]⟩
  .have e:∀f,(w.heap.modify a.block f)[k]?=w.heap[k]?:=λf=>by simp[aV,ne k g]
   dsimp only;rw[e];exact h.eH k g
def Ht.freeze (h:Ht Lk v)(a:Addr)(n:Nat):Ht Lk (v.freeze a n):=by
 unfold World.freeze;split
 .exact h
 .exact h.modify λo=>by cases o<;>first|exact .inr ⟨_,_,_,rfl⟩|exact .inl rfl
def Fx (w:Z)(a:Addr)(n:Nat):(w.freeze a n).heap.size=w.heap.size:=by unfold World.freeze;split<;>simp
def sP (w:Z)(a:Addr)(n:Nat):(w.freeze a n).drawn=w.drawn:=by unfold World.freeze;split<;>rfl
def ui (w:Z)(a:Addr)(n:Nat):(w.freeze a n).tape=w.tape:=by unfold World.freeze;split<;>rfl
def eY.freeze(n:Nat)(hS:¬S a.block):eY P F G0 Lk (λ_=>False) S (Go.freeze a n):=by intro N w v g f ht;exact Fits.still ⟨sP _ _ _,ui _ _ _⟩ (ht.freeze a n) (w':=w.freeze a n) ⟨sP _ _ _,ui _ _ _⟩ (new:=#[]) (by simp only[Go.freeze,Sem.runT,Array.append_empty]) (f.freeze a n hS) (by rw[Fx];exact aW _) (by simp)
def cM.CE (h:cM G0 N S w v){r:Nat}(hS:S r)(x y n m:Nat)(b:Bool):cM G0 N S (if b then w.freeze ⟨r,x,none⟩ n else w) (v.freeze ⟨r,y,none⟩ m):=by
 have hv:cM G0 N S w (v.freeze ⟨r,y,none⟩ m):=by
  unfold World.freeze;split
  .exact h
  .have C:∀f,v.heap[r]?=some f->blank f:=λf e=>by obtain⟨j,g⟩:=h.hole r hS;rw[e]at g;cases g;exact⟨rfl,rfl⟩
   refine⟨by simp[h.size],λk a=>?_,λk a=>?_,h.eH,h.high,h.agree,h.os,h.output,λk o a=>(h.fix k o a).imp id λ⟨x,e1,e2⟩=>⟨x,?_,e2⟩⟩
   .have:r≠k:=λe=>a (e ▸ hS)
    simp only[aV,this,if_false];exact h.same k a
   .obtain⟨j,e⟩:=h.hole k a;simp only[aV,e];split
    .exact⟨_,rfl⟩
    .exact⟨j,rfl⟩
   .have:r≠k:=λe=>e2 (C x (e ▸ e1))
    simp only[aV,this,if_false];exact e1
 cases b with
 |false=>exact hv
 |true=>
  generalize v.freeze ⟨r,y,none⟩ m=D at hv ⊢;simp only[if_true];unfold World.freeze;split
  .exact hv
  .refine⟨by simp[hv.size],λk a=>?_,hv.hole,λk a=>?_,hv.high,hv.agree,hv.os,hv.output,λk o a=>?_⟩
   .have:r≠k:=λe=>a (e ▸ hS)
    simp only[aV,this,if_false];exact hv.same k a
   .have l:=hv.eH k a;simp only[aV];split
    .rename_i e
     subst e;cases B:w.heap[r]? with
     |none=>simp
     |some o=>rw[B]at l;cases o<;>simp_all
    .exact l
   .refine(hv.fix k o a).imp (λe=>?_) id;rw[aV,e];split
    .have:=G0.kind k o a;cases o<;>first|rfl|exact this.elim
    .rfl
def Tame.markStringish (a:Addr):Tame P F G0 Lk (Go.markStringish a):=by
 unfold Go.markStringish;intro S;refine bT.tZ (λhS s=>?_) λN w v g f ht hS=>?_
 .split
  .exact eY.freeze _ hS
  .exact bT.pure _ S
 .cases h:w.shape? a.block with
  |none=>refine Fits.still ⟨sP _ _ _,ui _ _ _⟩ (ht.freeze _ _) (w':=w) ⟨rfl,rfl⟩ (new:=#[]) ?_ (f.CE hS 0 0 1 1 false) (aW _) (by simp);show(_,_)=(_,_);simp
  |some p=>refine Fits.still ⟨sP _ _ _,ui _ _ _⟩ (ht.freeze _ _) (w':=w.freeze ⟨a.block,p.2,none⟩ 1) ⟨sP _ _ _,ui _ _ _⟩ (new:=#[]) ?_ (f.CE hS p.2 0 1 1 true) (by rw[Fx];exact aW _) (by simp);obtain⟨e,n⟩:=p;simp only[Go.freeze,Sem.runT,Array.append_empty]
def Tame.loadBytes (hb:P.info? bad=none):∀(n:Nat) (a:Addr) (f:Ac),Tame P F G0 Lk (Go.loadBytes a f n)
 |0,_,_=>.pure _
 |n+1,a,f=>by
  unfold Go.loadBytes;refine bT.bd (.load hb _ _) λx=>?_;split
  .exact Tame.loadBytes hb n _ _
  .exact .stuck _
end
section
variable {P:Ad}{F:Array Func}{G0:Base}{N:Nat}{Lk:Loop->Prop}{α β:Type}{E:α->Prop}{S:Nat->Prop}{w v:Z}
def Mf(f:cM G0 N S w v)(ht:Ht Lk v)(hS:S a.block)(m:Mode):∃h,(Go.load a m).run (imag P F) v = .halt h v/\nP h:=by
 obtain⟨j,e⟩:=f.hole _ hS;have g:v.cell? a=none:=f.yf hS;refine⟨v.noCell a "load: no such cell",?_,zq ht _ _⟩
 simp only[Go.load,Sem.run,g,World.farLoad,e]
def C3:∀d,sameLayout (imag P F) d=sameLayout P d
 |0=>rfl
 |d+1=>by
  funext t u
  simp only[sameLayout,pH,yW,C3 d]
  rfl
def C2 (a:Af->Bool):∀d,rowAt (imag P F) a d=rowAt P a d
 |0=>rfl
 |d+1=>by
  funext e c off n
  simp only[rowAt,pH,oy,yW,C2 a d]
  rfl
def C1:∀d,liesAt (imag P F) d=liesAt P d
 |0=>rfl
 |d+1=>by
  funext e c off u n
  simp only[liesAt,pH,tn,C3,C2,C1 d]
def Tame.unsafeString (hb:P.info? bad=none)(ats:Array Af)(t:Af)(x y:D):Tame P F G0 Lk (Builtin.unsafeString_ ats t #[x,y]):=by
 unfold Builtin.unsafeString_;cases x with
 |pointer p=>
  dsimp only;refine bT.bd (Tame.asInt _) λn=>?_;split
  .split
   .intro S N w v g f ht;exact⟨trivial,ht⟩
   .split
    .intro S N w v g f ht;exact⟨trivial,ht⟩
    .split
     .split
      .exact .pure _
      .exact .runtimePanic _
     .rename_i a
      split
      .exact .pure _
      .rename_i B C M
       refine bT.bd (Tame.elemOf _) λe=>?_;intro S
       by_cases hS:S a.block
       .intro N w v g f ht;have r:∃k,n.toNat=k+1:=⟨n.toNat-1,by omega⟩;obtain⟨k,o⟩:=r;obtain⟨h,e1,e2⟩:=Mf (P:=P) (F:=F) f ht hS .plain;rw[Sem.run_bind];have j:∃b,(Go.variablesAt a e n.toNat).run (imag P F) v = .ok b v:=by
         refine⟨liesAt (imag P F) (imag P F).depth bad (0 / (imag P F).cellsOf bad) a.off e n.toNat,?_⟩;unfold Go.variablesAt;show(match v.shape? a.block with
          |some (l,cells)=>(Pure.pure (liesAt (imag P F) (imag P F).depth l (cells / (imag P F).cellsOf l) a.off e n.toNat):Sem Bool)
          |none=>Pure.pure false).run (imag P F) v=_
         rw[Fq f hS]
         rfl
        obtain⟨b,j⟩:=j;rw[j,Result.andThen_ok];cases b with
        |false=>exact⟨trivial,ht⟩
        |true=>
         simp only[if_true];rw[Sem.run_bind,o];have:(Go.loadBytes a .empty (k+1)).run (imag P F) v = .halt h v:=by
          unfold Go.loadBytes;rw[Sem.run_bind,e1]
          rfl
         rw[this];exact⟨e2,ht⟩
       .refine eY.bind ?_ λb=>?_
        .unfold Go.variablesAt;refine eY.program (by simp only[C1,tn,oy]) ?_;refine bT.tZ (λ_ s=>?_) λN w v g f ht h=>bx h hS
         split<;>exact bT.pure _ S
        .split
         .exact eY.bind (Tame.loadBytes hb _ _ _ S) λ_=>eY.bind (eY.freeze _ hS) λ_=>bT.pure _ S
         .exact bT.unsupported (by simp) S
  .exact .stuck _
 |_=>exact .stuck _
def Tame.bytesToString (hb:P.info? bad=none)(x:D):Tame P F G0 Lk (Conv.bytesToString x):=by
 unfold Conv.bytesToString;split
 .exact .pure _
 .refine bT.bd (Tame.loadCells hb _ _) λcs=>?_;refine bT.bd (Tame.forIn_array _ _ (λc _ s=>?_) _) λ_=>.pure _
  split
  .exact .pure _
  .exact .stuck _
 .exact .stuck _
def tN (P:Ad)(s d:Af):Bool:=match P.underlying s,P.underlying d with
 |some (.int _),some (.int _)=>true
 |some (.slice _),some (.slice e)=>match P.underlying e with
  |some (.int .u8)=>s == d
  |_=>false
 |some (.slice e),some .string=>match P.underlying e with
  |some (.int .u8)=>true
  |_=>false
 |_,_=>false
def Tame.floatToInt (s:FloatKind)(b:Nat)(d:IntKind):Tame P F G0 Lk (Conv.floatToInt s b d):=by
 unfold Conv.floatToInt;dsimp only
 repeat' (first|with_reducible exact bT.pure _|with_reducible exact bT.stuck _|with_reducible exact bT.choose _|with_reducible refine bT.bd ?_ λ_=>?_|split)
def Tame.intToString (n:Int):Tame P F G0 Lk (Conv.intToString n):=.pure _
def Tame.stringToBytes (e:Af)(s:Ac):Tame P F G0 Lk (Conv.stringToBytes e s):=by
 unfold Conv.stringToBytes
 repeat' (first|with_reducible exact bT.pure _|with_reducible exact bT.stuck _|with_reducible exact Tame.newRow _ _|with_reducible exact bT.choose _|with_reducible exact Tame.markStringish _|with_reducible refine bT.bd ?_ λ_=>?_|split)
def Tame.convert (hb:P.info? bad=none){s d:Af}(h:tN P s d=true)(x:D):Tame P F G0 Lk (Go.convert s d x):=by
 unfold Go.convert;refine bT.underlying λB o=>bT.underlying λr l=>?_;unfold tN at h;rw[o,l]at h;cases B with
 |int k=>
  cases r with
  |int M=>
   cases x with
   |float s b=>exact Tame.floatToInt _ _ _
   |pointer a=>cases a<;>exact .unsupported (by simp)
   |int _ _=>exact .pure _
   |_=>exact .unsupported (by simp)
  |_=>simp at h
 |slice e=>
  cases r with
  |slice C=>
   dsimp only at h;cases x with
   |slice a n c=>
    cases a with
    |none=>exact .unsupported (by simp)
    |some a=>
     refine bT.underlying λy f=>?_;rw[f]at h;split at h
     .rename_i j
      cases j;rw[h];exact bT.bd (Tame.markStringish _) λ_=>.pure _
     .cases h
   |string b=>
    refine bT.underlying λy f=>?_;rw[f]at h;split at h
    .rename_i j
     cases j;exact Tame.stringToBytes _ _
    .cases h
   |_=>exact .unsupported (by simp)
  |string=>
   dsimp only at h;have g:∀x,Tame P F G0 Lk (do
     match <- Go.underlying e with
     |.int .u8=>Conv.bytesToString x
     |.int .i32=>Conv.runesToString x
     | _ => Go.stuck "Convert: a slice of what to string?") := by
    intro x;refine bT.underlying λy f=>?_;rw[f]at h;split at h
    .rename_i j
     cases j;exact Tame.bytesToString hb _
    .cases h
   cases x with
   |int _ _=>exact Tame.intToString _
   |string _=>exact .pure _
   |_=>exact g _
  |_=>simp at h
 |_=>simp at h
def Tame.followBlind:∀(l:List FieldStep) (t:Af) (x:Option D),Tame P F G0 Lk (Go.followBlind l t x)
 |[],_,_=>.pure _
 |s::rest,t,x=>by
  unfold Go.followBlind;refine bT.bd (Tame.underlying _) λa=>?_;split
  .split
   .split
    all_goals first|exact bT.pure _|exact bT.stuck _|exact Tame.followBlind rest _ _|skip
    exact bT.bd (Tame.part _ _ _) λ_=>Tame.followBlind rest _ _
   .exact .stuck _
  .exact .stuck _
def Tame.nilAhead:∀(n:Nat) (t:Af) (x:D) (name:String),Tame P F G0 Lk (Go.nilAhead n t x name)
 |0,_,_,_=>.pure _
 |n+1,t,x,name=>by
  unfold Go.nilAhead;refine bT.bd (Tame.typeInfo _) λf=>?_;split
  .refine bT.bd (Tame.followBlind _ _ _) λr=>?_;split
   .exact .pure _
   .split
    all_goals first|exact bT.pure _|exact bT.stuck _|exact Tame.nilAhead n _ _ _|skip
    refine bT.bd (Tame.underlying _) λa=>?_;split<;>exact .pure _
  .exact .stuck _
/-! ### every operation -/
def oZ (F : Array Func)(f : Ag) : Prop := ∀ fn : Func,F[f]? = some fn -> fn.body.isSome = true /\ fn.name ≠ "runtime.NumGoroutine"
def lq (F:Array Func):Prop:=∀f:Ag,oZ F f
def uG (F:Array Func)(o:Oper):Prop:=∀c f,o.op = .call c->c.callee = .value (.func f)->oZ F f
def lq.op {F:Array Func}(h:lq F)(o:Oper):uG F o:=λ_ f _ _=>h f
def gL (P : Ad)(f : Ag) : Prop := ∀ fn,P.funcs[f]? = some fn -> ¬ (fn.body.isSome = true /\ fn.name ≠ "runtime.NumGoroutine")
def uh (P:Ad)(c:Call):Builtin->Bool
 |.append | .len | .cap | .copy | .clear | .max | .min=>true
 |.delete=>match c.argTypes[0]? with
  |some t=>oM P t
  |none=>true
 |.unsafeString=>c.args.size == 2
 |_=>false
def C8:Ae->Bool
 |.const (.pointer none)=>true
 |_=>false
def ig (P:Ad):Op->Bool
 |.move _ | .assign _ | .pick .. | .alloc _ | .box .. | .build .. | .buildSlice .. | .load .. | .store .. | .nilCheck _ | .unOp .. | .makeFunc .. | .makeMap .. | .makeSlice .. | .slice .. | .field .. | .indexAddr .. | .index .. | .range .. | .next .. | .entry _ | .extract ..=>true
 |.binOp op t _ y _=>if op == .eql || op == .neq then mq P 9 t || (C8 y && match P.underlying t with|some (.pointer _)=>true|_=>false)else true
 |.convert s d _=>tN P s d
 |.fieldAddr s _ i=>yI P s i
 |.lookup t .. | .mapUpdate t .. | .insert t ..=>oM P t
 |.call c=>match c.callee with
  |.builtin b=>uh P c b
  |.value (.func _)=>true
  |_=>false
 |_=>false
def EX (P:Ad)(n:Next):Prop:=∃f args,n = .enter f args/\gL P f
def tX {f:Ag}(hF:oZ F f)(args:Ak)(v:Z):(Go.callFunc f args).run (imag P F) v=match F[f]? with
  | none => .halt (.stuck "call: no such function") v
  |some _=>.ok (.enter f args) v:=by
 unfold Go.callFunc;show(match F[f]? with
  | none => Go.stuck "call: no such function"
  |some fn=>_:Sem Next).run (imag P F) v=_
 cases g:F[f]? with
 |none=>rfl
 |some fn=>
  obtain⟨h,a⟩:=hF fn g;have hb:fn.body.isNone=false:=by cases j:fn.body<;>simp_all
  simp[a,hb]
def bT.callFunc {f:Ag}(hF:oZ F f)(args:Ak):bT P F G0 Lk (EX P) (Go.callFunc f args):=by
 intro S N w v j y ht;rw[tX hF];cases C:F[f]? with
 |none=>exact⟨trivial,ht⟩
 |some l=>
  by_cases g:gL P f
  .exact .inl ⟨f,args,rfl,g⟩
  .refine Fits.still ⟨rfl,rfl⟩ ht (w':=w) ⟨rfl,rfl⟩ (new:=#[]) ?_ y (aW _) (by simp);obtain⟨fn,hp,B,a⟩ : ∃ fn,P.funcs[f]? = some fn /\ fn.body.isSome = true /\ fn.name ≠ "runtime.NumGoroutine" := by
    cases hp:P.funcs[f]? with
    |none=>exact bx (λfn h=>by rw[hp]at h;cases h) g
    |some fn=>refine⟨fn,rfl,?_⟩;refine Classical.byContradiction λr=>g λo a=>?_;rw[hp]at a;cases a;exact r
   have hb:fn.body.isNone=false:=by cases D:fn.body<;>simp_all
   unfold Go.callFunc;show(match P.funcs[f]? with
    | none => Go.stuck "call: no such function"
    |some fn=>_:Sem Next).runT P w j=_
   rw[hp];simp only[a,bD,if_false,hb,bg];show(_,_)=(_,_);simp
def bT.value{s:Sem D}{E:Next->Prop}(h:Tame P F G0 Lk s):bT P F G0 Lk E (do Pure.pure (Next.value (<- s))):=bT.bd h λ_=>.pure _
def bT.done{s:Sem Unit}{E:Next->Prop}(h:Tame P F G0 Lk s):bT P F G0 Lk E (do s;Pure.pure Next.skip):=bT.bd h λ_=>.pure _
def bT.op (hb:P.info? bad=none)(hG:P.globals.size<=G0.n)(ρ:Ae->D)(Q:∀x,ρ (.const x)=x)(j:∀f,ρ (.func f) = .func (.func f) #[] #[])(o:Oper)(hF:uG F o)(h:ig P o.op=true):bT P F G0 Lk (EX P) (Go.execOp ρ o):=by
 obtain⟨Y,op,U,pos,W,Z⟩:=o;unfold Go.execOp;dsimp only at h ⊢;cases op with
 |move x=>exact .pure _
 |assign x=>exact .pure _
 |pick c a b=>exact bT.bd (Tame.asBool _) λ_=>.pure _
 |alloc t=>exact bT.value (Tame.alloc _)
 |box t x=>exact bT.value (Tame.box _ _)
 |build t ps=>exact bT.value (Tame.build _ _)
 |buildSlice t n ps=>exact bT.value (Tame.buildSlice _ _ _)
 |load t a=>exact bT.value (Tame.loadAt hb _ _)
 |store t a x=>exact bT.done (Tame.storeAt hb _ _ _)
 |nilCheck x=>
  dsimp only;split
  .exact .runtimePanic _
  .exact .runtimePanic _
  .exact .runtimePanic _
  .split
   .exact .runtimePanic _
   .refine bT.program rfl ?_;refine bT.bd (Tame.nilAhead _ _ _ _) λr=>?_;split
    .intro S N w v es hs ht;exact⟨trivial,ht⟩
    .exact .pure _
   .exact .pure _
  .exact .pure _
 |binOp op t x y k=>
  refine bT.value (bT.bd (Tame.eqGuard _ _ _ _ _ _) λ_=>Tame.binOp hb hG _ _ _ _ λhe=>?_);unfold ig at h;dsimp only at h;have C:(op == .eql || op == .neq)=true:=by rcases he with rfl|rfl<;>rfl
  rw[C]at h;simp only[if_true,bz,av]at h;rcases h with h|⟨B,R⟩
  .exact Tame.equal hG _ _ h
  .unfold C8 at B;split at B
   .rw[Q];split at R
    .rename_i hu
     exact Tame.J4 hu _
    .cases R
   .cases B
 |unOp op t x=>exact bT.value (Tame.unary _ _)
 |convert s d x=>exact bT.value (Tame.convert hb h _)
 |makeFunc fn a c=>exact bT.value (.pure _)
 |makeMap t r=>exact bT.value (Tame.makeMap _ _)
 |makeSlice t l c=>exact bT.value (Tame.makeSlice _ _ _)
 |slice t x lo hi mx=>exact bT.value (Tame.sliceAt _ _ _ _ _)
 |fieldAddr s x i=>exact bT.value (Tame.fieldAt h _)
 |field t x i=>exact bT.value (Tame.field _ _ _)
 |indexAddr t x i=>exact bT.value (Tame.indexAt _ _ _)
 |index t x i=>exact bT.value (Tame.index _ _ _)
 |lookup t x i ok=>exact bT.value (Tame.lookup hG h _ _ _)
 |mapUpdate t m k x=>exact bT.done (Tame.mapUpdate hG h _ _ _)
 |insert t m k x=>exact bT.done (Tame.mapUpdate hG h _ _ _)
 |range t x=>exact bT.value (Tame.range _ _)
 |next it b=>exact bT.value (Tame.next _ _ _)
 |entry it=>exact bT.value (Tame.entry _)
 |extract x i=>exact bT.value (Tame.extract _ _)
 |call c=>
  unfold ig at h;dsimp only at h;show bT P F G0 Lk (EX P) (Go.resolve ρ c U >>= λd=>Go.invoke d.target d.args);unfold Go.resolve;split at h
  .rename_i b g
   rw[g];dsimp only;show bT P F G0 Lk (EX P) (Go.builtin b c.argTypes U _ (c.args.map ρ));cases b with
   |append=>exact bT.value (Tame.append hb _ _ _)
   |len=>exact bT.value (Tame.len _ _ _)
   |cap=>exact bT.value (Tame.cap _ _ _)
   |copy=>exact bT.value (Tame.copy hb _ _ _)
   |clear=>exact bT.value (Tame.clear hb _ _ _)
   |max=>exact bT.value (Tame.max _ _ _)
   |min=>exact bT.value (Tame.min _ _ _)
   |delete=>refine bT.value (Tame.delete hG _ _ (λt ht=>?_) _);simp only[uh,ht]at h;exact h
   |unsafeString=>
    simp only[uh,bD]at h;have two:∀z:Array Ae,z.size=2->∃x y,z.map ρ=#[x,y]:=by
     rintro⟨l⟩ h
     match l,h with
     |[a,b],_=>exact⟨ρ a,ρ b,by simp⟩
    obtain⟨x,y,M⟩:=two _ h;rw[M];exact bT.value (Tame.unsafeString hb _ _ _ _)
   |_=>simp[uh]at h
  .rename_i f g
   rw[g];dsimp only;rw[j];exact bT.callFunc (hF _ f rfl g) _
  .cases h
 |_=>simp[ig]at h
end
end Go.Proofs.YthbdpfccfcceiaaGreatDoor
