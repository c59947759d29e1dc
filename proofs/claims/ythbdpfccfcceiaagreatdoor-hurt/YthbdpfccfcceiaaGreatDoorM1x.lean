/-
  Of hurt_card.
-/
import Derived.Test.YthbdpfccfcceiaaGreatDoorA0
import Derived.WalkKit
import Derived.BigFrame
import Derived.Maps.OwnSet
import Derived.Maps.RangeWalk
import Derived.Deep.Draws
import Derived.Test.YthbdpfccfcceiaaGreatDoorRows
import Derived.WalkSpells
import Derived.WalkLawsBesides
import Derived.Laws.Bits64
import Derived.Maps.AppendAt
import Derived.Lib.AppendStr
import Derived.Laws.AppendOwn
import Derived.Deep.RegionLaw
import Derived.Conc.Own4
import Derived.Test.YthbdpfccfcceiaaGreatDoorShelf
import Derived.Deep.RegionWith
import Derived.Deep.QuietTactic
import Derived.BigQuiet
import Derived.DeepKeys4
set_option linter.all false
namespace Go.Proofs.YthbdpfccfcceiaaGreatDoor
set_option maxHeartbeats 2000000
set_option maxRecDepth 100000
open Go.Proofs.Tryz
variable {r v x:D}{w' w0:Z}{c s y:Nat}{kl:Lit}{d α:Type}{K:Act->Z->Prop}{E:Prop}
section
open Go.Maps (Keyed IsMap Tidy)
def nZ (v:D):Option (DataW D × List MemPlace):=some (.held v,[])
structure FM (P:Ad)(k:Af)(ch:DataW D)(f:D->Option D):Prop where
 has:∀x l,keyOf P k x=some l->Maps.has ch l=(f x).isSome
 at_:∀x l v z,keyOf P k x=some l->f x=some v->ch.atKey l z = .held v
 key:∀x,(f x).isSome=true->∃l,keyOf P k x=some l
def cH (w:Z)(P:Ad)(k:Af)(b n:Nat)(f:D->Option D):Prop:=
 ∃a,w.ownsMap P k nZ b n a/\Maps.size a=n/\FM P k a f
structure jc (f:D->Option D)(key val:D)(f':D->Option D):Prop where
 same:f' key=some val
 other:∀x,x≠key->f' x=f x
structure rZ (f:D->Option D)(key:D)(f':D->Option D):Prop where
 same:f' key=none
 other:∀x,x≠key->f' x=f x
section
variable {P:Ad}{k:Af}{w:Z}{b n:Nat}{f:D->Option D}
def FM.put{r:DataW D}(h:FM P k r f)(hm:IsMap r)(K:Keyed P k){key:D}(g:keyOf P k key=some kl)(val:D){f':D->Option D}(hp:jc f key val f'):FM P k (r.put kl (.held val)) f':=by
 refine⟨λx l a=>?_,λx l v z a o=>?_,λx a=>?_⟩
 .by_cases e:x=key
  .subst e;rw[g]at a;cases a;rw[hp.same,Maps.has_put_same hm (K.key g)];rfl
  .have j:l≠kl:=λy=>e (K.inj a (y ▸ g))
   rw[hp.other _ e,Maps.has_put_other j];exact h.has x l a
 .by_cases e:x=key
  .subst e;rw[g]at a;cases a;rw[hp.same]at o;cases o;exact Maps.atKey_put_same hm (K.key g) _ _
  .have j:l≠kl:=λy=>e (K.inj a (y ▸ g))
   rw[hp.other _ e]at o;rw[Maps.atKey_put_other j];exact h.at_ x l v z a o
 .by_cases e:x=key
  .subst e;exact⟨kl,g⟩
  .rw[hp.other _ e]at a;exact h.key x a
def FM.del{y:DataW D}(h:FM P k y f)(K:Keyed P k){key:D}(o:keyOf P k key=some kl){f':D->Option D}(hp:rZ f key f'):FM P k (y.del kl) f':=by
 refine⟨λx l a=>?_,λx l v z a j=>?_,λx a=>?_⟩
 .by_cases e:x=key
  .subst e;rw[o]at a;cases a;rw[hp.same,Maps.has_del_same];rfl
  .have g:l≠kl:=λr=>e (K.inj a (r ▸ o))
   rw[hp.other _ e,Maps.has_del_other g];exact h.has x l a
 .by_cases e:x=key
  .subst e;rw[hp.same]at j;cases j
  .have g:l≠kl:=λr=>e (K.inj a (r ▸ o))
   rw[hp.other _ e]at j;rw[Maps.atKey_del_other g];exact h.at_ x l v z a j
 .by_cases e:x=key
  .subst e;exact⟨kl,o⟩
  .rw[hp.other _ e]at a;exact h.key x a
def D6 {f:DataW D}{R:D->Option (DataW D × List MemPlace)}(h:w.ownsMap P k R b n f):w.ownsMap P k R b (Maps.size f) f:=by obtain⟨g,a,hb,F,_,rfl⟩:=h;exact⟨g,a,hb,F,by simp[Maps.size,length_sorted],rfl⟩
def vu (w:Z)(P:Ad)(k:Af):cH (w.alloc (.map #[] 0)) P k w.heap.size 0 (λ_=>none):=
 ⟨.map [],World.ownsMap_made w P k nZ,rfl,⟨λ_ _ _=>rfl,λ_ _ _ _ _ h=>(by cases h),λ_ h=>(by cases h)⟩⟩
def cH.of_block {w':Z}(h:cH w P k b n f)(e:w'.heap[b]?=w.heap[b]?):cH w' P k b n f:=by obtain⟨g,⟨j,a,hb,r⟩,o,l⟩:=h;exact⟨g,⟨j,a,e.trans hb,r⟩,o,l⟩
def cH.lt (h:cH w P k b n f):b<w.heap.size:=by obtain⟨a,h,_⟩:=h;exact h.lt
def cH.alloc (h:cH w P k b n f)(o:Obj):cH (w.alloc o) P k b n f:=h.of_block (RowKit.Below.heap_alloc w o b h.lt)
def cH.drew (h:cH w P k b n f):cH w.drew P k b n f:=h.of_block rfl
def cH.noCell (h:cH w P k b n f)(o:Nat):w.cell? ⟨b,o,none⟩=none:=by obtain⟨g,⟨j,a,hb,_⟩,_⟩:=h;simp[World.cell?,hb]
def cH.look(c:Bool){t e:Af}(h:cH w P k b n f)(K:Keyed P k)(ht:P.underlying t=some (.map k e)){z:D}(M:(zeroValue e).run P w = .ok z w){key:D}(B:keyOf P k key=some kl) :
  (Instr.lookup t (.map (some b)) key c).run P w = .ok (if c then .tuple #[(f key).getD z,.bool (f key).isSome]else(f key).getD z) w:=by
 obtain⟨N,⟨Q,r,hb,F,_,rfl⟩,R,C⟩:=h;have j:=C.has key kl B;rcases Maps.fit_look c K ht M hb F B with⟨a,_,g⟩|⟨e0,y,_,_,a,l,g,_⟩
 .rw[Maps.has_false_of_atKey g]at j;have:f key=none:=by cases o:f key with|none=>rfl|some _=>rw[o]at j;cases j
  rw[a,this];rfl
 .rw[Maps.has_true_of_atKey g]at j;cases o:f key with
  |none=>rw[o]at j;cases j
  |some v=>have:=C.at_ key kl v .nil B o;rw[g]at this;unfold nZ at l;cases l;cases this;rw[a];rfl
def cH.len {t e:Af}(h:cH w P k b n f)(ht:P.underlying t=some (.map k e))(a:Af):(Builtin.len_ #[t] a #[.map (some b)]).run P w = .ok (Y n) w:=by obtain⟨l,g,j,_⟩:=h;rw[g.len ht a,j]
def cH.store{t e:Af}(h:cH w P k b n f)(K:Keyed P k)(ht:P.underlying t=some (.map k e))(B:n<maxLen){key:D}(j:keyOf P k key=some kl)(val:D){f':D->Option D}(hp:jc f key val f') :
  ∃w',(Instr.mapUpdate t (.map (some b)) key val).run P w = .ok () w'/\cH w' P k b (if(f key).isSome then n else n+1) f'/\w.mapTurned w' b:=by
 obtain⟨C,g,o,l⟩:=h;obtain⟨w',a,r,y⟩:=g.store K ht B j (rfl:nZ val=some (.held val,[]));refine⟨w',a,⟨_,?_,?_,l.put g.isMap K j val hp⟩,y⟩
 .have:=D6 r;rw[Maps.size_put (g.tidy K),l.has key kl j,o]at this;exact this
 .rw[Maps.size_put (g.tidy K),l.has key kl j,o]
def cH.drop{t e:Af}(h:cH w P k b n f)(K:Keyed P k)(ht:P.underlying t=some (.map k e)){key:D}(g:keyOf P k key=some kl)(o:Af){f':D->Option D}(hp:rZ f key f') :
  ∃w',(Builtin.delete_ #[t,k] o #[.map (some b),key]).run P w = .ok (.tuple #[]) w'/\cH w' P k b (if(f key).isSome then n-1 else n) f'/\w.mapTurned w' b:=by
 obtain⟨r,j,M,l⟩:=h;obtain⟨w',a,y,B⟩:=j.drop K ht g o;have C:=Maps.size_del (k:=kl) (j.tidy K);rw[l.has key kl g,M]at C;have e1:Maps.size (r.del kl)=if(f key).isSome then n-1 else n:=by split<;>simp_all<;>omega
 refine⟨w',a,⟨_,?_,e1,l.del K g hp⟩,B⟩;have:=D6 y;rw[e1]at this;exact this
def lG {w':Z}(h:w.mapTurned w' b)(i:Nat)(j:i≠b):w'.heap[i]?=w.heap[i]?:=by obtain⟨l,f,g,a,hb,rfl⟩:=h;exact ChangeMaps.heap_setBlock_other hb _ j
def Dw {w':Z}(h:w.mapTurned w' b):w'.heap.size=w.heap.size:=by obtain⟨j,f,g,a,hb,rfl⟩:=h;simp[ChangeMaps.setBlock]
def jO (w:Z)(P:Ad)(k:Af)(b r n:Nat)(f:D->Option D)(left:D->Bool)(g:Nat):Prop:=
 ∃a lf,w.ranges P k nZ b r n a lf g/\Maps.size a=n/\FM P k a f/\(∀x l,keyOf P k x=some l->lf l=left x)/\(∀x,left x=true->(f x).isSome=true)
def jO.of_block {w':Z}{left:D->Bool}{r j:Nat}(h:jO w P k b r n f left j)(e:w'.heap[b]?=w.heap[b]?)(o:w'.heap[r]?=w.heap[r]?):jO w' P k b r n f left j:=by obtain⟨l,lf,⟨y,a,g,seen,c0,B,C,M,N,Q,R⟩,r⟩:=h;exact⟨l,lf,⟨y,a,g,seen,c0,e.trans B,C,M,N,o.trans Q,R⟩,r⟩
def jO.left_eq {left:D->Bool}{r a:Nat}(h:jO w P k b r n f left a):w.rangeLeft b r=a:=by obtain⟨j,lf,g,_⟩:=h;exact g.left_eq
def cH.range {t e:Af}(h:cH w P k b n f)(K:Keyed P k)(ht:P.underlying t=some (.map k e)) :
  ∃w',(Instr.range t (.map (some b))).run P w = .ok (ab w.heap.size) w'/\jO w' P k b w.heap.size n f (λx=>(f x).isSome) n/\w.grownBy w' none/\w'.heap.size=w.heap.size+1:=by
 obtain⟨y,B,r,o⟩:=h;obtain⟨w',a,j,C,D⟩:=B.range K ht;rw[r]at j;exact⟨w',a,⟨y,_,j,r,o,λx l g=>o.has x l g,λx g=>g⟩,C,D⟩
open Classical in
def jO.next {left:D->Bool}{r M:Nat}(h:jO w P k b r n f left M)(K:Keyed P k)(ty:Af) :
  (M=0/\(∀x,left x=false)/\(Instr.next (ab r) false ty).run P w = .ok (.tuple #[.bool false]) w)\/
  ∃key v w' j,left key=true/\f key=some v/\(Instr.next (ab r) false ty).run P w = .ok (.tuple #[.bool true,key,v]) w'/\
   (∃g,jO w' P k b r n f g j/\g key=false/\∀x,x≠key->g x=left x)/\j<M/\w.grownBy w' (some r)/\w'.heap.size=w.heap.size/\(Instr.entry (ab r)).run P w' = .ok (.tuple #[key,v]) w':=by
 obtain⟨ch,lf,h1,hs,U,Z,Y⟩:=h;rcases h1.next K ty with⟨h0,ad,o⟩|⟨key,v,kl,y,w',j,a,am,hv,R,o,a0,an,W,a1,S⟩
 .refine Or.inl ⟨h0,λx=>?_,o⟩;cases e:left x with
  |false=>rfl
  |true=>obtain⟨l,B⟩:=U.key x (Y x e);rw[<- Z x l B,ad]at e;cases e
 .have C:=Z key kl a ▸ am;have N:=Y key C;obtain⟨v',Q⟩:=Option.isSome_iff_exists.1 N;have ha:=U.at_ key kl v' .nil a Q;rw[R]at ha;unfold nZ at hv;cases hv;cases ha;refine Or.inr ⟨key,v,w',j,C,Q,o,⟨λx=>left x && !decide (x=key),⟨ch,_,a0,hs,U,λx l B=>?_,λx B=>Y x (by simp at B;exact B.1)⟩,by simp,λx B=>by simp[B]⟩,an,W,a1,S⟩;show(lf l && !l.sameKey kl)=(left x && !decide (x=key));rw[Z x l B]
  by_cases e:x=key
  .subst e;rw[a]at B;cases B;rw[WideAt.sameKey_self (K.key a)];simp
  .have:l≠kl:=λe'=>e (K.inj B (e' ▸ a))
   rw[Maps.sameKey_ne this];simp[e]
end
section
variable {P:Ad}(w:Z){ops:Am}{rest:List Oper}{o:Oper}{a:Act}{Q:Exit->Act->Z->Prop}
def lP (C:Region.wanted o (yielded ops a.tmps)=true)(m x:Ae)(t:Af)(y:o.op=Op.lookup t m x true)
  (k e:Af) (K:Keyed P k) (ht:P.underlying t=some (.map k e)) {z:D} (R:(zeroValue e).run P w = .ok z w) (b n:Nat) (f:D->Option D)
  (hm:a.eval m = .map (some b)) (j:cH w P k b n f) (key:D) (kl:Lit) (N:a.eval x=key) (h:keyOf P k key=some kl) (r:Option D) (M:f key=r)
  (B:wpList P ops Q rest (a.put o.dst (.tuple #[r.getD z,.bool r.isSome])) w) :
  wpList P ops Q (o::rest) a w:=by
 refine BigFrame.wpList_want C λS l=>?_;have g:=j.look true K ht R h;rw[M]at g;simp only[if_true]at g;unfold Oper.wp;simp[execOp,y,hm,N,g,Result.andThen];exact l _ _ B
def us (B:Region.wanted o (yielded ops a.tmps)=true)(m x:Ae)(t:Af)(r:o.op=Op.lookup t m x false)
  (k e:Af) (K:Keyed P k) (ht:P.underlying t=some (.map k e)) {z:D} (N:(zeroValue e).run P w = .ok z w) (b n:Nat) (f:D->Option D)
  (hm:a.eval m = .map (some b)) (j:cH w P k b n f) (key:D) (kl:Lit) (M:a.eval x=key) (h:keyOf P k key=some kl) (v:D) (C:(f key).getD z=v)
  (y:wpList P ops Q rest (a.put o.dst v) w) :
  wpList P ops Q (o::rest) a w:=by
 refine BigFrame.wpList_want B λR l=>?_;have g:=j.look false K ht N h;rw[C]at g;simp only[bg,if_false]at g;unfold Oper.wp;simp[execOp,r,hm,M,g,Result.andThen];exact l _ _ y
def Rq (B:Region.wanted o (yielded ops a.tmps)=true)(m x:Ae)(t k:Af)(r:o.op=Op.call { callee:=Callee.builtin Builtin.delete,args:=#[m,x],argTypes:=#[t,k] })
  (e:Af) (K:Keyed P k) (ht:P.underlying t=some (.map k e)) (b n:Nat) (f:D->Option D)
  (hm:a.eval m = .map (some b)) (h:cH w P k b n f) (key:D) (kl:Lit) (C:a.eval x=key) (g:keyOf P k key=some kl) {f':D->Option D} (hp:rZ f key f')
  (y:∀w',cH w' P k b (if(f key).isSome then n-1 else n) f'->w.mapTurned w' b->wpList P ops Q rest (a.put o.dst (.tuple #[])) w') :
  wpList P ops Q (o::rest) a w:=by
 refine BigFrame.wpList_want B λR l=>?_;obtain⟨w',j,M,N⟩:=h.drop K ht g o.type hp;unfold Oper.wp;simp[execOp,r,resolve,invoke,builtin,hm,C,j,Result.andThen];exact l _ _ (y w' M N)
def rN (r:Region.wanted o (yielded ops a.tmps)=true)(m:Ae)(t:Af)(j:o.op=Op.call { callee:=Callee.builtin Builtin.len,args:=#[m],argTypes:=#[t] })
  (k e:Af) (ht:P.underlying t=some (.map k e)) (b n:Nat) (f:D->Option D) (hm:a.eval m = .map (some b)) (g:cH w P k b n f)
  (l:wpList P ops Q rest (a.put o.dst (Y n)) w) :
  wpList P ops Q (o::rest) a w:=by
 refine BigFrame.wpList_want r λy h=>?_;unfold Oper.wp;simp[execOp,j,resolve,invoke,builtin,hm,g.len ht o.type,Result.andThen];exact h _ _ l
def Rt (y:Region.wanted o (yielded ops a.tmps)=true)(m:Ae)(t:Af)(l:o.op=Op.range t m)(k e:Af)(K:Keyed P k)(ht:P.underlying t=some (.map k e))(b n:Nat)(f:D->Option D)
  (hm:a.eval m = .map (some b)) (g:cH w P k b n f)
  (r:∀w',jO w' P k b w.heap.size n f (λx=>(f x).isSome) n->w.grownBy w' none->w'.heap.size=w.heap.size+1->wpList P ops Q rest (a.put o.dst (ab w.heap.size)) w') :
  wpList P ops Q (o::rest) a w:=by
 refine BigFrame.wpList_want y λN j=>?_;obtain⟨w',h,B,C,M⟩:=g.range K ht;unfold Oper.wp;simp[execOp,l,hm,h,Result.andThen];exact j _ _ (r w' B C M)
def Rr(hg:Region.wanted o (yielded ops a.tmps)=true)(it:Ae)(U:o.op=Op.next it false)(k:Af)(K:Keyed P k)(j:α->D)(B:d->D)
  (b r n:Nat) (f:D->Option D) (left:D->Bool) (C:Nat) (a4:∀key v,f key=some v->∃x c,key=j x/\v=B c)
  (S:a.eval it = ab r) (h:jO w P k b r n f left C)
  (M:C=0->(∀x,left x=false)->wpList P ops Q rest (a.put o.dst (.tuple #[.bool false])) w)
  (N:∀(x:α) (c:d) (w':Z) (l:Nat),left (j x)=true->f (j x)=some (B c)->∀g,jO w' P k b r n f g l->g (j x)=false->(∀z,z≠j x->g z=left z)->l<C->
   w.grownBy w' (some r)->w'.heap.size=w.heap.size->(Instr.entry (ab r)).run P w' = .ok (.tuple #[j x,B c]) w'->wpList P ops Q rest (a.put o.dst (.tuple #[.bool true,j x,B c])) w') :
  wpList P ops Q (o::rest) a w:=by
 refine BigFrame.wpList_want hg λK' R=>?_;unfold Oper.wp;rcases h.next K o.type with⟨h0,hl,y⟩|⟨key,v,w',l,an,hv,y,⟨g,a1,ad,am⟩,a0,Y,a3,W⟩
 .simp[execOp,U,S,y,Result.andThen];exact R _ _ (M h0 hl)
 .obtain⟨x,c,rfl,rfl⟩:=a4 key v hv;simp[execOp,U,S,y,Result.andThen];exact R _ _ (N x c w' l an hv g a1 ad am a0 Y a3 W)
end
end
section
open Go.RowKit
def bR {p:Prop}(h:p):Hid p:=h
structure Kp (S:Nat->Prop)(w w':Z):Prop where
 os:w'.os=w.os
 tape:w'.tape=w.tape
 output:w'.output=w.output
 size:w.heap.size<=w'.heap.size
 block:∀k,k<w.heap.size->¬S k->w'.heap[k]?=w.heap[k]?
abbrev An:=Kp λ_=>False
section
variable {S S':Nat->Prop}{w w1 w2:Z}
def Kp.refl (S:Nat->Prop)(w:Z):Kp S w w:=⟨rfl,rfl,rfl,aW _,λ_ _ _=>rfl⟩
def Kp.trans (h:Kp S w w1)(a:Kp S' w1 w2)(j:∀k,k<w.heap.size->S' k->S k):Kp S w w2:=
 ⟨a.os.trans h.os,a.tape.trans h.tape,a.output.trans h.output,aX h.size a.size,λk f g=>(a.block k (aR f h.size) (λe=>g (j k f e))).trans (h.block k f g)⟩
def Kp.mono (h:Kp S w w1)(g:∀k,k<w.heap.size->S k->S' k):Kp S' w w1:=
 ⟨h.os,h.tape,h.output,h.size,λk a f=>h.block k a (λe=>f (g k a e))⟩
def Kp.qW (h:Below w.heap.size w w1)(S:Nat->Prop):Kp S w w1:=⟨h.os,h.tape,h.output,h.size,λk a _=>h.block k a⟩
def Kp.jh {row:Option Nat}(h:w.grownBy w1 row)(g:∀k,row=some k->S k):Kp S w w1:=
 ⟨h.os,h.tape,h.output,h.size,λk a f=>h.block k a (λe=>f (g k e.symm))⟩
def Kp.ml {b:Nat}(h:w.mapTurned w1 b)(l:S b):Kp S w w1:=by
 refine⟨?_,?_,?_,Nat.le_of_eq (Dw h).symm,λk _ j=>lG h k (λe=>j (e ▸ l))⟩ <;>
  (obtain⟨o,f,g,a,hb,rfl⟩:=h;rfl)
def Kp.al (S:Nat->Prop)(w:Z)(o:Obj):Kp S w (w.alloc o):=⟨rfl,rfl,rfl,by simp,λk a _=>Below.heap_alloc w o k a⟩
def Kp.dr (S:Nat->Prop)(w:Z):Kp S w w.drew:=⟨rfl,rfl,rfl,aW _,λ_ _ _=>rfl⟩
def Kp.drewN (S:Nat->Prop)(w:Z)(n:Nat):Kp S w (w.drewN n):=by refine⟨rfl,rfl,rfl,aW _,λ_ _ _=>rfl⟩
def Kp.sc (w:Z)(a:Addr)(v:D)(g:S a.block):Kp S w (w.setCell a v):=
 ⟨rfl,rfl,rfl,by simp[World.setCell],λk _ f=>Below.heap_setCell w a v k (λe=>f (e ▸ g))⟩
def Kp.cell(h:Kp S w w1){a:Addr}(f:a.block<w.heap.size)(g:¬S a.block):w1.cell? a=w.cell? a:=World.cell?_of_block (w:=w) (h.block a.block f g)
def Kp.cH{P:Ad}{k b n:Nat}{f:D->Option D}(h:Kp S w w1)(hm:cH w P k b n f)(a:¬S b):cH w1 P k b n f:=hm.of_block (h.block b hm.lt a)
end
end
section
open Go.RowKit
def kb (c:UInt8):Bool:=decide (97<=(c.toNat:Int)/\(c.toNat:Int)<=122\/48<=(c.toNat:Int)/\(c.toNat:Int)<=57)
def dy (s:Ac):Bool:=decide (1<=s.size) && (decide (s.size<=8) && s.data.toList.all kb)
def rG{a b:Bool}(h:a=b):Ending.returned (.bool a) = .returned (.bool b):=by rw[h]
def Qv (s:Ac)(k:Nat)(h:k<s.size):s.data.toList.take (k+1)=s.data.toList.take k++[s[k]]:=by rw[aE (by simpa using h)];rfl
def Lx (s:Ac)(k:Nat)(h:k<s.size)(hb:kb s[k]=false):false=dy s:=by
 have:s.data.toList.all kb=false:=by rw[List.all_eq_false];exact⟨s[k],List.getElem_mem (l:=s.data.toList) (n:=k) (by simpa using h),by simp[hb]⟩
 simp[dy,this]
def Lw (s:Ac)(k:Nat)(f:s.size<=k)(a:(s.data.toList.take k).all kb=true):dy s=(decide (1<=s.size) && decide (s.size<=8)):=by rw[aN (by simpa using f)]at a;unfold dy;rw[a];simp
def C7 (c:UInt8)(w:Z) :
  Calls prog 123 #[.int .u8 c.toNat] w λe w'=>e = .returned (.bool (kb c))/\w'=w:=by
 go_enter func123,ntmps123
 go_wp2
 all_goals
  go_ret
  exact⟨rG (by unfold kb;rw[Bool.eq_iff_iff];simp<;>omega),rfl⟩
def kU (s:Ac)(w:Z)(l:s.size<=maxLen) :
  Calls prog 67 #[.string s] w λe w'=>e = .returned (.bool (dy s))/\w'=w:=by
 unfold maxLen at l
 by_cases o:s.size<1
 .have f:(s.size:Int)<1:=by omega
  go_enter func67,ntmps67
  go_wp2
  go_ret
  exact⟨rG (by unfold dy;simp;omega),rfl⟩
 by_cases r:8<s.size
 .have h:(8:Int)<s.size:=by omega
  have f:¬(s.size:Int)<1:=by omega
  go_enter func67,ntmps67
  go_wp2
  go_ret
  exact⟨rG (by unfold dy;simp;omega),rfl⟩
 have h:¬(8:Int)<s.size:=by omega
 have f:¬(s.size:Int)<1:=by omega
 go_enter func67,ntmps67
 go_wp2
 go_loop [14] (λi=>∃k:Nat,k<=s.size/\i = Y k/\(s.data.toList.take k).all kb=true) (λi=>s.size-(intOf i).toNat)
 case atStart=>exact⟨0,aZ _,rfl,rfl⟩
 case round=>
  obtain⟨k,y,rfl,a⟩:=hrel
  by_cases g:k<s.size
  .have j:Hid (s.data.toList.take (k+1)=s.data.toList.take k++[s[k]]):=Qv s k g;cases hb:kb s[k]
   .go_wp2_with (go_at_call 123;refine(C7 _ _).mono ?_;rintro e w' ⟨rfl,rfl⟩)
    go_ret
    exact⟨rG (Lx s k g hb),rfl⟩
   .go_wp2_with (go_at_call 123;refine(C7 _ _).mono ?_;rintro e w' ⟨rfl,rfl⟩)
    go_round
    case rel=>exact⟨k+1,by omega,by go_num,by rw[j.out];simp[a,hb]⟩
    case measure=>simp[intOf];omega
  .go_wp2
   go_ret
   exact⟨rG (by rw[Lw s k (by omega) a];simp;omega),rfl⟩
def vN (s:Ac)(w:Z)(a:s.size<=maxLen) :
  Calls prog 68 #[.string s] w λe w'=>e = .returned (.bool (decide (s.size<=20)))/\w'=w:=by
 unfold maxLen at a
 go_enter func68,ntmps68
 go_wp2
 go_ret
 exact⟨rG (by rw[Bool.eq_iff_iff];simp<;>omega),rfl⟩
end
def gx (s:Nat):Nat:=if s % 2=1 then(s / 2) ^^^ 3988292384 else s / 2
def fw (s:Nat):Nat:=gx (gx (gx (gx (gx (gx (gx (gx s)))))))
def j3 (s b:Nat):Nat:=fw (s ^^^ b)
def gg (l:List Nat):Nat:=l.foldl j3 4294967295
def mL(h:s<4294967296):gx s<4294967296:=by
 unfold gx;split
 .exact Nat.xor_lt_two_pow (n:=32) (by omega) (by omega)
 .omega
def BN(h:s<4294967296):fw s<4294967296:=mL (mL (mL (mL (mL (mL (mL (mL h)))))))
def sL{b:Nat}(h:s<4294967296)(hb:b<256):j3 s b<4294967296:=BN (Nat.xor_lt_two_pow (n:=32) h (by omega))
def u7{l:List Nat}(a:∀b∈l,b<256):gg l<4294967296:=by
 have:∀(l:List Nat) (s:Nat),(∀b∈l,b<256)->s<4294967296->l.foldl j3 s<4294967296:=by
  intro l
  induction l with
  |nil=>intro s _ h;exact h
  |cons b r g=>intro s a h;exact g _ (λx f=>a x (aD _ f)) (sL h (a b (by simp)))
 exact this l _ a (by decide)
def Jd (x y:Nat):gx (x ^^^ y)=gx x ^^^ gx y:=by
 have h:(x ^^^ y) / 2=x / 2 ^^^ y / 2:=by apply Nat.eq_of_testBit_eq;intro i;simp[Nat.testBit_div_two,Nat.testBit_xor]
 have hm:(x ^^^ y) % 2=(x % 2+y % 2) % 2:=by have e:=Nat.testBit_xor x y 0;simp only[Nat.testBit_zero]at e;rcases Nat.mod_two_eq_zero_or_one x with a|a<;>rcases Nat.mod_two_eq_zero_or_one y with f|f<;>rcases Nat.mod_two_eq_zero_or_one (x ^^^ y)with g|g<;>rw[a,f,g]at e<;>revert e<;>rw[a,f,g]<;>decide
 unfold gx;rw[h,hm];rcases Nat.mod_two_eq_zero_or_one x with a|a<;>rcases Nat.mod_two_eq_zero_or_one y with f|f<;>simp[a,f]
 .rw[Nat.xor_assoc]
 .rw[Nat.xor_assoc,Nat.xor_assoc];congr 1;exact Nat.xor_comm _ _
 .have:x / 2 ^^^ 3988292384 ^^^ (y / 2 ^^^ 3988292384)=x / 2 ^^^ y / 2 ^^^ (3988292384 ^^^ 3988292384):=by rw[Nat.xor_assoc,Nat.xor_assoc,<- Nat.xor_assoc 3988292384,Nat.xor_comm 3988292384 (y / 2),Nat.xor_assoc]
  rw[this,Nat.xor_self,Nat.xor_zero]
def Ja (x y:Nat):fw (x ^^^ y)=fw x ^^^ fw y:=by simp only[fw,Jd]
def Jc (q:Nat):gx (2*q)=q:=by
 unfold gx;have:¬(2*q) % 2=1:=by omega
 rw[if_neg this];omega
def I8 (q:Nat):fw (256*q)=q:=by
 have e:256*q=2*(2*(2*(2*(2*(2*(2*(2*q))))))):=by omega
 rw[fw,e];simp only[Jc]
def Qa (x:Nat):x=(x % 256) ^^^ (256*(x / 256)):=by
 apply Nat.eq_of_testBit_eq;intro i;rw[Nat.testBit_xor,show 256=2 ^ 8 from rfl,Nat.testBit_mod_two_pow,Nat.testBit_two_pow_mul,Nat.testBit_div_two_pow]
 by_cases h:i<8
 .have:¬8<=i:=by omega
  simp[h,this]
 .have:8<=i:=by omega
  simp[h,this]
def I9 (x:Nat):fw x=fw (x % 256) ^^^ (x / 256):=by
 conv=>lhs;rw[Qa x]
 rw[Ja,I8]
def Jg{b:Nat}(hb:b<256):j3 s b=fw ((s ^^^ b) % 256) ^^^ (s / 256):=by
 unfold j3;rw[I9]
 congr 1
 have:(s ^^^ b) / 256=s / 256 ^^^ b / 256:=by apply Nat.eq_of_testBit_eq;intro i;rw[show 256=2 ^ 8 from rfl,Nat.testBit_xor,Nat.testBit_div_two_pow,Nat.testBit_div_two_pow,Nat.testBit_div_two_pow,Nat.testBit_xor]
 rw[this,Nat.div_eq_of_lt hb,Nat.xor_zero]
def oj{x:Nat}(l:x<4294967296)(o:y<4294967296)(h:gx x=gx y):x=y:=by
 have top:∀{a:Nat},a<4294967296->(gx a).testBit 31=decide (a % 2=1):=λ{a} r=>by
  unfold gx;have g:(a / 2).testBit 31=false:=Nat.testBit_lt_two_pow (by omega);split
  .rename_i f
   rw[Nat.testBit_xor,g,f];decide
  .rename_i f
   rw[g];simp;omega
 have hp:decide (x % 2=1)=decide (y % 2=1):=by rw[<- top l,<- top o,h]
 unfold gx at h
 by_cases f:x % 2=1
 .have j:y % 2=1:=by simpa [f]using hp.symm
  rw[if_pos f,if_pos j]at h;have:x / 2=y / 2:=by have:=congrArg (· ^^^ 3988292384) h;simpa [Nat.xor_assoc]using this
  omega
 .have j:¬y % 2=1:=by simpa [f]using hp.symm
  rw[if_neg f,if_neg j]at h;omega
def BM{x:Nat}(a:x<4294967296)(f:y<4294967296)(h:fw x=fw y):x=y:=by have l:=@mL;unfold fw at h;have g:=oj (l (l (l (l (l (l (l a))))))) (l (l (l (l (l (l (l f))))))) h;have j:=oj (l (l (l (l (l (l a)))))) (l (l (l (l (l (l f)))))) g;have o:=oj (l (l (l (l (l a))))) (l (l (l (l (l f))))) j;have r:=oj (l (l (l (l a)))) (l (l (l (l f)))) o;have B:=oj (l (l (l a))) (l (l (l f))) r;have C:=oj (l (l a)) (l (l f)) B;have D:=oj (l a) (l f) C;exact oj a f D
def GB{a b:Nat}(h:a ^^^ c=b ^^^ c):a=b:=by have:=congrArg (· ^^^ c) h;simpa [Nat.xor_assoc]using this
def Jf{t b:Nat}(a:s<4294967296)(ht:t<4294967296)(hb:b<256)(h:j3 s b=j3 t b):s=t:=
 GB (BM (Nat.xor_lt_two_pow (n:=32) a (by omega)) (Nat.xor_lt_two_pow (n:=32) ht (by omega)) h)
def Je{b:Nat}(a:s<4294967296)(hb:b<256)(f:c<256)(h:j3 s b=j3 s c):b=c:=by have:=BM (Nat.xor_lt_two_pow (n:=32) a (by omega)) (Nat.xor_lt_two_pow (n:=32) a (by omega)) h;rw[Nat.xor_comm s b,Nat.xor_comm s c]at this;exact GB this
def Jb{p q:List Nat}{b:Nat}(hp:∀x∈p,x<256)(f:∀x∈q,x<256)(hb:b<256)(l:c<256)(h:gg (p++b::q)=gg (p++c::q)):b=c:=by
 have j:∀(q:List Nat) (s t:Nat),(∀x∈q,x<256)->s<4294967296->t<4294967296->q.foldl j3 s=q.foldl j3 t->s=t:=by
  intro q
  induction q with
  |nil=>intro s t _ _ _ h;exact h
  |cons x r B=>intro s t f a ht h;have g:=f x (by simp);exact Jf a ht g (B _ _ (λy o=>f y (aD _ o)) (sL a g) (sL ht g) h)
 unfold gg at h;rw[List.foldl_append,List.foldl_append,List.foldl_cons,List.foldl_cons]at h;have a:=u7 hp;unfold gg at a;exact Je a hb l (j q _ _ f (sL a hb) (sL a l) h)
def u8 (n:Nat):UInt8:=UInt8.ofNat n
def cP (n:Nat):Aj:=[u8 n,u8 (n / 256),u8 (n / 65536),u8 (n / 16777216)]
def dO (bs:Aj):Nat:=4294967295-gg (bs.map UInt8.toNat)
def cQ (bs:Aj):Aj:=bs++cP (dO bs)
def fJ (i:Nat):Aj:=cQ ([80,76,49]++cP i)
def fF (s:Ac):Aj:=u8 s.size::s.data.toList
def ko (v:Ac × Bool):Aj:=if v.2 then [1]else 0::fF v.1
def gp (x:Ac × Ac × Bool):Aj:=fF x.1++ko x.2
def dg (t:Nat)(ws:List (Ac × Ac × Bool)):Aj:=67::(cP t++(u8 ws.length::ws.flatMap gp))
def oe (t:Nat):Aj:=72::cP t
def dv (b:Aj):Aj:=cQ (u8 b.length::u8 (b.length / 256)::b)
def kK (fs:List (Aj))(n:Nat)(b:Aj):List (Aj):=
 if n % 4=0 then fs++[fJ fs.length++dv b]else fs.dropLast++[fs.getLastD []++dv b]
def mN:List (Aj)->List (Aj)->Nat->List (Aj)
 |fs,[],_=>fs
 |fs,b::r,n=>mN (kK fs n b) r (n+1)
def cG (lg:List (Aj)):List (Aj):=mN [] lg 0
def lj (n:Nat):(u8 n).toNat=n % 256:=by simp[u8]
def eG (n:Nat):(cP n).length=4:=rfl
def ld (bs:Aj):(cQ bs).length=bs.length+4:=by simp[cQ,eG]
def qZ (i:Nat):(fJ i).length=11:=by simp[fJ,ld,eG]
def sX (b:Aj):(dv b).length=b.length+6:=by simp[dv,ld]
def AJ (s:Ac):(fF s).length=s.size+1:=by simp[fF]
def QV (v:Ac × Bool):(ko v).length<=v.1.size+2:=by unfold ko;split<;>simp[AJ]<;>omega
def Gp (x:Ac × Ac × Bool):(gp x).length<=x.1.size+x.2.1.size+3:=by have:=QV x.2;simp[gp,AJ];omega
def yF {α:Type}(f:α->Aj)(k:Nat):∀(l:List α),(∀x∈l,(f x).length<=k)->(l.flatMap f).length<=l.length*k
 |[],_=>by simp
 |x::r,h=>by have g:=h x (by simp);have j:=yF f k r (λy a=>h y (by simp[a]));rw[List.flatMap_cons,aj,ai,Nat.add_mul];omega
def xY (t:Nat)(ws:List (Ac × Ac × Bool))(h:∀x∈ws,x.1.size<=8/\x.2.1.size<=20):(dg t ws).length<=6+ws.length*31:=by have:=yF gp 31 ws (λx a=>aX (Gp x) (by have:=h x a;omega));simp only[dg,ai,aj,eG];omega
def Bw (t:Nat):(oe t).length=5:=by simp[oe,eG]
def Cq:∀(lg fs:List (Aj)) (n:Nat) (b:Aj),mN fs (lg++[b]) n=kK (mN fs lg n) (n+lg.length) b
 |[],fs,n,b=>by simp[mN]
 |x::r,fs,n,b=>by
  show mN (kK fs n x) (r++[b]) (n+1)=_;rw[Cq r,mN]
  congr 1
  simp;omega
def ot (lg:List (Aj))(b:Aj):cG (lg++[b])=kK (cG lg) lg.length b:=by unfold cG;rw[Cq];simp
def wY{P:List α->Prop}(h0:P [])(h1:∀l x,P l->P (l++[x])):∀l,P l:=by
 intro l;rw[<- List.reverse_reverse l]
 induction l.reverse with
 |nil=>exact h0
 |cons x r a=>rw[List.reverse_cons];exact h1 _ _ a
def GW (fs:List (Aj))(n:Nat)(b:Aj)(h:n % 4≠0->fs≠[]):(kK fs n b).length=if n % 4=0 then fs.length+1 else fs.length:=by
 unfold kK;split
 .simp
 .rename_i a
  have:=List.length_pos_iff.2 (h a);simp;omega
def oq (lg:List (Aj)):(cG lg).length=(lg.length+3) / 4:=by
 induction lg using wY with
 |h0=>rfl
 |h1 l x a=>
  rw[ot,GW]
  .rw[a];simp;split<;>omega
  .intro h e;rw[e]at a;simp at a;omega
def bytesOf (fs:List (Aj)):Nat:=(fs.map List.length).sum
def yc (a b:List (Aj)):bytesOf (a++b)=bytesOf a+bytesOf b:=by simp[bytesOf]
def qz (a:Aj)(b:List (Aj)):bytesOf (a::b)=a.length+bytesOf b:=by simp[bytesOf]
def KL(l:List α)(d:α)(h:l≠[]):l.getLastD d=l.getLast h:=by
 cases l with
 |nil=>exact bx rfl h
 |cons a r=>rfl
def JG(l:List α)(d:α)(h:l≠[]):l.dropLast++[l.getLastD d]=l:=by rw[KL l d h];exact List.dropLast_concat_getLast h
def yb (fs:List (Aj))(n:Nat)(b:Aj)(h:n % 4≠0->fs≠[]):bytesOf (kK fs n b)=bytesOf fs+b.length+6+if n % 4=0 then 11 else 0:=by
 unfold kK;split
 .simp[bytesOf,qZ,sX];omega
 .rename_i a
  have f:=h a;have g:bytesOf fs=bytesOf (fs.dropLast++[fs.getLastD []]):=by rw[JG fs [] f]
  rw[g];simp only[bytesOf,bj,List.map_cons,List.map_nil,List.sum_append,List.sum_cons,List.sum_nil,aj,sX];omega
def yC {lg:List (Aj)}(h:lg.length % 4≠0):cG lg≠[]:=λe=>by have:=oq lg;rw[e]at this;simp at this;omega
def yd (lg:List (Aj))(k:Nat)(h:∀b∈lg,b.length<=k):bytesOf (cG lg)<=lg.length*(k+17):=by
 induction lg using wY with
 |h0=>simp[cG,mN,bytesOf]
 |h1 l x f=>
  rw[ot,yb _ _ _ (λh=>yC h)];have h1:=f (λb hb=>h b (by simp[hb]));have g:=h x (by simp);have a:(l++[x]).length*(k+17)=l.length*(k+17)+(k+17):=by simp[Nat.add_mul]
  rw[a];split<;>omega
def za {fs:List (Aj)}{f:Aj}(h:f∈fs):f.length<=bytesOf fs:=by obtain⟨a,b,rfl⟩:=List.append_of_mem h;rw[yc,qz];omega
def gQ (n:Nat):Nat:=if n=0 then 0 else(n-1) % 4+1
def Ln (n:Nat):gQ n=4↔n≠0/\n % 4=0:=by unfold gQ;split<;>omega
def Lq (n:Nat)(h:n % 4=0):gQ (n+1)=1:=by unfold gQ;simp;omega
def Lp (n:Nat)(h:n % 4≠0):gQ (n+1)=gQ n+1:=by unfold gQ;simp;split<;>omega
def Lo (n:Nat):gQ n<=4:=by unfold gQ;split<;>omega
def Kr (lg:List (Aj)):(cG lg).length=0↔lg.length=0:=by rw[oq];omega
section
open Go.RowKit
abbrev bH:=@World.block_lt_of_cell?
def b8 (b:UInt8):D:=.int .u8 (b.toNat:Nat)
def BR (base:Nat)(w:Z)(v:D)(bs:Aj):Prop:=w.ownsRow base 5 1 v bs.length (bs.map b8)
def db (w:Z):Prop:=∀i:Nat,i<128->w.cell? ⟨0,i,none⟩=some (.int .u32 (fw i:Nat))/\w.cell? ⟨1,i,none⟩=some (.int .u32 (fw (i+128):Nat))
def db.lt{w:Z}(h:db w):0<w.heap.size/\1<w.heap.size:=⟨bH w _ (h 0 (by omega)).1,bH w _ (h 0 (by omega)).2⟩
def db.block{w:Z}(h:db w)(h0:w'.heap[0]?=w.heap[0]?)(h1:w'.heap[1]?=w.heap[1]?):db w':=λi f=>⟨(World.cell?_of_block (w:=w) (a:=⟨0,i,none⟩) h0).trans (h i f).1,(World.cell?_of_block (w:=w) (a:=⟨1,i,none⟩) h1).trans (h i f).2⟩
def db.kp{S:Nat->Prop}{w:Z}(h:db w)(a:Kp S w w')(h0:¬S 0)(h1:¬S 1):db w':=h.block (a.block 0 h.lt.1 h0) (a.block 1 h.lt.2 h1)
def db.kept{w:Z}(h:db w)(a:An w w'):db w':=h.kp a (λe=>e) (λe=>e)
def MW (b:Nat)(w:Z)(a:db w)(hb:b<256) :
  Calls prog 188 #[.int .u8 b] w λe w'=>e = .returned (.int .u32 (fw b:Nat))/\w'=w:=by
 by_cases h:b<128
 .have f:=(a b h).1;have g:(b:Int)<128:=by omega
  generalize fw b=v at f ⊢;clear a
  go_enter func188,ntmps188
  go_wp2
  go_ret
  exact⟨rfl,rfl⟩
 .obtain⟨i,rfl⟩:∃i,b=i+128:=⟨b-128,by omega⟩;have f:=(a i (by omega)).2;have g:¬((i:Int)+128<128):=by omega
  have j:(i:Int)<128:=by omega
  generalize fw (i+128)=v at f ⊢;clear a h;rw[show((i+128:Nat):Int)=(i:Int)+128 from rfl]
  go_enter func188,ntmps188
  go_wp2
  go_ret
  exact⟨rfl,rfl⟩
end
section
open Go.RowKit
def BC (a b:Nat)(h:a<4294967296)(hb:b<4294967296):bits .xor .u32 (a:Int) (b:Int)=((a ^^^ b:Nat):Int):=by
 have j:a ^^^ b<2 ^ 32:=Nat.xor_lt_two_pow (by omega) (by omega);have f:(BitVec.ofInt 32 (a:Int)).toNat=a:=by rw[BitVec.ofInt_natCast,BitVec.toNat_ofNat];exact Nat.mod_eq_of_lt (by omega)
 have g:(BitVec.ofInt 32 (b:Int)).toNat=b:=by rw[BitVec.ofInt_natCast,BitVec.toNat_ofNat];exact Nat.mod_eq_of_lt (by omega)
 show IntKind.u32.wrap ((BitVec.ofInt 32 (a:Int) ^^^ BitVec.ofInt 32 (b:Int)).toNat:Int)=_;rw[BitVec.toNat_xor,f,g];simp only[IntKind.wrap,IntKind.bits,IntKind.signed];simp;omega
def Ih (a b:Nat)(h:a<256)(hb:b<256):bits .xor .u8 (a:Int) (b:Int)=((a ^^^ b:Nat):Int):=by
 have j:a ^^^ b<2 ^ 8:=Nat.xor_lt_two_pow (by omega) (by omega);have f:(BitVec.ofInt 8 (a:Int)).toNat=a:=by rw[BitVec.ofInt_natCast,BitVec.toNat_ofNat];exact Nat.mod_eq_of_lt (by omega)
 have g:(BitVec.ofInt 8 (b:Int)).toNat=b:=by rw[BitVec.ofInt_natCast,BitVec.toNat_ofNat];exact Nat.mod_eq_of_lt (by omega)
 show IntKind.u8.wrap ((BitVec.ofInt 8 (a:Int) ^^^ BitVec.ofInt 8 (b:Int)).toNat:Int)=_;rw[BitVec.toNat_xor,f,g];simp only[IntKind.wrap,IntKind.bits,IntKind.signed];simp;omega
def xZ (a b:Nat)(h:a<4294967296)(hb:b<4294967296):bits .or .u32 (a:Int) (b:Int)=((a ||| b:Nat):Int):=by
 have j:a ||| b<2 ^ 32:=Nat.or_lt_two_pow (by omega) (by omega)
 have f:(BitVec.ofInt 32 (a:Int)).toNat=a:=by rw[BitVec.ofInt_natCast,BitVec.toNat_ofNat];exact Nat.mod_eq_of_lt (by omega)
 have g:(BitVec.ofInt 32 (b:Int)).toNat=b:=by rw[BitVec.ofInt_natCast,BitVec.toNat_ofNat];exact Nat.mod_eq_of_lt (by omega)
 show IntKind.u32.wrap ((BitVec.ofInt 32 (a:Int) ||| BitVec.ofInt 32 (b:Int)).toNat:Int)=_;rw[BitVec.toNat_or,f,g];simp only[IntKind.wrap,IntKind.bits,IntKind.signed];simp;omega
def xX (a:Nat)(g:a<4294967296):bits .xor .u32 IntKind.u32.max (a:Int)=((4294967295-a:Nat):Int):=by
 have e:4294967295 ^^^ a=4294967295-a:=by have f:=BitVec.toNat_not (x:=BitVec.ofNat 32 a);rw[<- BitVec.allOnes_xor,BitVec.toNat_xor,BitVec.toNat_ofNat,Nat.mod_eq_of_lt (show a<2 ^ 32 by omega)]at f;simpa using f
 rw[<- e];exact BC 4294967295 a (by omega) g
def yl (bs:Aj):gg (bs.map UInt8.toNat)<4294967296:=u7 (λb hb=>by obtain⟨x,_,rfl⟩:=aK.1 hb;exact x.toNat_lt)
def uf (bs:Aj):dO bs<4294967296:=by unfold dO;omega
def Qw (bs:Aj)(k:Nat)(h:k<bs.length):bs.take (k+1)=bs.take k++[bs.getD k 0]:=by rw[aE h];simp[List.getD,aQ h]
def Sb (s b:Nat)(hb:b<256):s % 256 ^^^ b=(s ^^^ b) % 256:=by
 apply Nat.eq_of_testBit_eq;intro i;rw[show 256=2 ^ 8 from rfl,Nat.testBit_xor,Nat.testBit_mod_two_pow,Nat.testBit_mod_two_pow,Nat.testBit_xor]
 by_cases h:i<8
 .simp[h]
 .have:b.testBit i=false:=Nat.testBit_lt_two_pow (aR hb (by rw[show 256=2 ^ 8 from rfl];exact Nat.pow_le_pow_right (by omega) (by omega)));simp[h,this]
def FF (bs:Aj):bits .xor .u32 IntKind.u32.max ((dO bs:Nat):Int)=((gg (bs.map UInt8.toNat):Nat):Int):=by
 rw[xX _ (uf bs)];have:=yl bs;unfold dO
 congr 1
 omega
def sum_nil:((dO []:Nat):Int)=0:=by decide
def MG (g o cap:Nat)(pre bs:Aj)(w:Z)(W:db w)(hl:bs.length<=1000000000)(P:∀j,j<bs.length->w.cell? ⟨g,o+j,none⟩=some (b8 (bs.getD j 0)))(C:Int)(h0:C=((dO pre:Nat):Int)) :
  Calls prog 139 #[.int .u32 C,.slice (some ⟨g,o,none⟩) bs.length cap] w λe w'=>e = .returned (.int .u32 (dO (pre++bs):Nat))/\w'=w:=by
 have Q:Hid _:=P;have e0:bits .xor .u32 IntKind.u32.max C=((gg ((pre++bs.take 0).map UInt8.toNat):Nat):Int):=by rw[h0,FF];simp
 clear P h0;generalize a:((gg ((pre++bs.take 0).map UInt8.toNat):Nat):Int)=s0 at e0
 go_enter func139,ntmps139
 go_wp2
 go_loop [0,11] (λs i=>∃k:Nat,k<=bs.length/\i = Y k/\s = .int .u32 (gg ((pre++bs.take k).map UInt8.toNat):Nat)) (λ_ i=>bs.length-(intOf i).toNat)
 case atStart=>exact⟨0,aZ _,rfl,by rw[a]⟩
 case round=>
  obtain⟨k,hk,rfl,rfl⟩:=hrel;clear e0 a;have a:=yl (pre++bs.take k)
  by_cases h:k<bs.length
  .have f:=Q.out k h;have l:Hid (gg ((pre++bs.take (k+1)).map UInt8.toNat)=j3 (gg ((pre++bs.take k).map UInt8.toNat)) (bs.getD k 0).toNat):=by show _=_;rw[Qw bs k h,<- bn];simp[gg]
   generalize gg ((pre++bs.take k).map UInt8.toNat)=S at a l ⊢;generalize bs.getD k 0=B at f l;unfold b8 at f;have r:=B.toNat_lt;generalize B.toNat=b at f l r;have R:bits .xor .u8 ((S:Int) % 256) (b:Int)=(((S ^^^ b) % 256:Nat):Int):=by rw[<- Sb S b r];exact Ih (S % 256) b (by omega) r
   have U:bits .xor .u32 ((S:Int) / 256) ((fw ((S ^^^ b) % 256):Nat):Int)=((j3 S b:Nat):Int):=by rw[Jg r,Nat.xor_comm (fw ((S ^^^ b) % 256))];exact BC (S / 256) (fw ((S ^^^ b) % 256)) (by omega) (BN (by omega))
   have D:Hid ((S ^^^ b) % 256<256):=Nat.mod_lt _ (by omega);generalize (S ^^^ b) % 256=x at R U D
   go_wp2_with (go_at_call 188;refine(MW _ _ W D.out).mono ?_;rintro e w' ⟨rfl,rfl⟩)
   go_round
   case rel=>exact⟨k+1,by omega,by go_num,by rw[l.out]⟩
   case measure=>simp[intOf];omega
  .have y:k=bs.length:=by omega
   subst y;have N:=xX _ a;rw[List.take_length]at N ⊢;have M:Hid (dO (pre++bs)=4294967295-gg ((pre++bs).map UInt8.toNat)):=rfl;generalize gg ((pre++bs).map UInt8.toNat)=S at N M ⊢;clear a
   go_wp2
   go_ret
   exact⟨by rw[M.out];rfl,rfl⟩
def MF (p:Option Addr)(cap:Nat)(pre:Aj)(w:Z)(a:Int)(h0:a=((dO pre:Nat):Int)) :
  Calls prog 139 #[.int .u32 a,.slice p 0 cap] w λe w'=>e = .returned (.int .u32 (dO pre:Nat))/\w'=w:=by
 have e0:bits .xor .u32 IntKind.u32.max a=((gg (pre.map UInt8.toNat):Nat):Int):=by rw[h0,FF]
 have e1:=xX _ (yl pre);have f:Hid (dO pre=4294967295-gg (pre.map UInt8.toNat)):=rfl;clear h0;generalize gg (pre.map UInt8.toNat)=S at e0 e1 f
 go_enter func139,ntmps139
 go_wp2
 go_loop [0,11] (λs i=>i = Y 0/\s = .int .u32 S) (λ_ _=>0)
 case atStart=>exact⟨rfl,rfl⟩
 case round=>
  obtain⟨rfl,rfl⟩:=hrel
  go_wp2
  go_ret
  exact⟨by rw[f.out];rfl,rfl⟩
def jx (w:Z)(v:D)(bs:Aj):Prop:=∃p cap,v = .slice p bs.length cap/\(bs≠[]->∃g o,p=some ⟨g,o,none⟩/\∀j,j<bs.length->w.cell? ⟨g,o+j,none⟩=some (b8 (bs.getD j 0)))
def DF (v:D)(pre bs:Aj)(w:Z)(f:db w)(l:bs.length<=1000000000)(h:jx w v bs)(a:Int)(h0:a=((dO pre:Nat):Int)) :
  Calls prog 139 #[.int .u32 a,v] w λe w'=>e = .returned (.int .u32 (dO (pre++bs):Nat))/\w'=w:=by
 obtain⟨p,cap,rfl,h⟩:=h
 by_cases hb:bs=[]
 .subst hb;rw[bo];exact MF p cap pre w a h0
 .obtain⟨g,o,rfl,j⟩:=h hb;exact MG g o cap pre bs w f l j a h0
def v8 (v:D)(bs:Aj)(w:Z)(a:db w)(f:bs.length<=1000000000)(h:jx w v bs) :
  Calls prog 204 #[v] w λe w'=>e = .returned (.int .u32 (dO bs:Nat))/\w'=w:=by
 have g:=bR (DF v [] bs w a f h 0 sum_nil.symm);clear a f h
 go_enter func204,ntmps204
 go_wp2_with (first
  |(go_at_call 139;refine Calls.mono g.out ?_;rintro e j ⟨rfl,rfl⟩)
  |go_in)
 first
  |exact⟨rfl,rfl⟩
  |(go_ret;exact⟨rfl,rfl⟩)
def BR.rd{base:Nat}{w:Z}{bs:Aj}(h:BR base w v bs):jx w v bs:=by
 rcases h.2 with⟨rfl,o⟩|⟨g,cap,a,rfl,_,y,B,_,r,l⟩
 .exact⟨none,0,by rw[o],λe=>bx (aA o) e⟩
 .refine⟨_,cap,rfl,λ_=>⟨g,0,rfl,λj f=>?_⟩⟩;have:(bs.map b8)[j]?=a.toList[j]?:=by rw[<- l,bu];simp[f]
  rw[bt,aQ f]at this;simp only[World.cell?,y,ao];rw[<- Array.getElem?_toList,<- this];simp[List.getD,aQ f]
end
section
open Go.RowKit Go.Lib
abbrev bI:=@heap_alloc_new
def qP:(prog.info? 5).map (λi=>(i.zero,i.size,i.bytes))=some (some (.int .u8 0),1,1):=by kernel_rfl
def xT (bs:Aj):∀u∈bs.map b8,u.oneCell'=true:=λu a=>by obtain⟨x,_,rfl⟩:=aK.1 a;rfl
def AB (s:Ac):strCells s=s.data.toList.map b8:=by simp[strCells,b8]
def addr_add (g o j:Nat):(⟨g,o,none⟩:Addr).add j=⟨g,o+j,none⟩:=by unfold Addr.add;split<;>simp_all
def BR.lt{base:Nat}{w:Z}{bs:Aj}(h:BR base w v bs):∀b,v.ownBlock=some b->base<=b/\b<w.heap.size:=World.ownsRow.lt h
def BR.kp{S:Nat->Prop}{base:Nat}{w:Z}{bs:Aj}(h:BR base w v bs)(l:Kp S w w')(o:∀b,v.ownBlock=some b->¬S b):BR base w' v bs:=by
 refine⟨h.1,?_⟩;rcases h.2 with j|⟨g,cap,a,rfl,hb,f,r⟩
 .exact Or.inl j
 .exact Or.inr ⟨g,cap,a,rfl,hb,(l.block g (aO.1 f).1 (o g rfl)).trans f,r⟩
def BR.kept{base:Nat}{w:Z}{bs:Aj}(h:BR base w v bs)(a:An w w'):BR base w' v bs:=h.kp a (λ_ _ e=>e)
def BR.mono{base:Nat}{w:Z}{bs:Aj}(h:BR base w v bs)(hb:s<=base):BR s w v bs:=
 ⟨h.1,h.2.imp id (λ⟨g,cap,a,e1,e2,e3⟩=>⟨g,cap,a,e1,aX hb e2,e3⟩)⟩
def jx.kp{S:Nat->Prop}{w:Z}{bs:Aj}(h:jx w v bs)(y:Kp S w w')(B:∀b,v.ownBlock=some b->¬S b):jx w' v bs:=by obtain⟨p,cap,rfl,r⟩:=h;refine⟨p,cap,rfl,λhb=>?_⟩;obtain⟨g,o,rfl,f⟩:=r hb;exact⟨g,o,rfl,λj l=>(y.cell (a:=⟨g,o+j,none⟩) (bH w _ (f j l)) (B g rfl)).trans (f j l)⟩
def jx.kept{w:Z}{bs:Aj}(h:jx w v bs)(a:An w w'):jx w' v bs:=h.kp a (λ_ _ e=>e)
def jx.form{w:Z}{bs:Aj}(h:jx w v bs)(hb:bs≠[]):∃g o cap,v = .slice (some ⟨g,o,none⟩) bs.length cap/\∀j u,(bs.map b8)[j]?=some u->w.cell? ((⟨g,o,none⟩:Addr).add j)=some u:=by
 obtain⟨p,cap,rfl,l⟩:=h;obtain⟨g,o,rfl,r⟩:=l hb;refine⟨g,o,cap,rfl,λj u a=>?_⟩;rw[bt]at a;have f:j<bs.length:=by
  rcases Nat.lt_or_ge j bs.length with h|h
  .exact h
  .rw[bh h]at a;cases a
 rw[aQ f]at a;rw[addr_add,r j f];simp only[List.getD,aQ f];simpa using a
def rM{ops:Am}{rest:List Oper}{o:Oper}{a:Act}{Q:Exit->Act->Z->Prop}(w:Z)(r:o.guard=none)(s x:Ae)
  (Y:o.op = .call { callee:=.builtin .append,args:=#[s,x],argTypes:=#[48,48] })
  (base:Nat) (v:D) (bs:Aj) (hs:a.eval s=v) (l:BR base w v bs) (N:D) (f:Aj) (hx:a.eval x=N) (hr:jx w N f) (y:f≠[])
  (hl:bs.length+f.length<=1000000000) (j:base<=w.heap.size)
  (h:∀v' w',BR base w' v' (bs++f)->Kp (λb=>v.ownBlock=some b) w w'->(v'.ownBlock=v.ownBlock\/v'.ownBlock=some w.heap.size)->wpList prog ops Q rest (a.put o.dst v') w') :
  wpList prog ops Q (o::rest) a w:=by
 obtain⟨i0,W,B,C,M⟩:=info_parts qP;obtain⟨g,of,cap,rfl,U⟩:=hr.form y;refine wpList_append_own_at _ r s x 48 Y base 5 i0 (.int .u8 0) 1 1 underlying48 W B C M rfl (by decide) v bs.length (bs.map b8) hs l ⟨g,of,none⟩ f.length cap (f.map b8) hx (by simp) U (xT _) (by unfold maxLen;omega) (by omega) j (λv' w' P R _ S=>?_);refine h v' w' ?_ (Kp.jh R (λ_ e=>e)) S;unfold BR;rw[aj,bj];exact P
def Kp.yg{w1:Z}{a:Addr}{n:Nat}(g:Kp (λb=>v.ownBlock=some b) w0 w1)(f:∀b,v.ownBlock=some b->b<n)(j:n<=a.block)(h:w0.cell? a=some x):w1.cell? a=some x:=
 (g.cell (bH w0 _ h) (λe=>by have:=f _ e;omega)).trans h
def lO{P:Ad}{ops:Am}{o:Oper}{a:Act}{w:Z}{Q:Exit->Act->Z->Prop}
  (B : o.guard = none) (f : Ag) (fn : Func) (args : Array Ae) (ats : Array Af) (j : o.op = .call { callee := .value (.func f),args,argTypes := ats }) (y : P.funcs[f]? = some fn) (g : (fn.name == "runtime.NumGoroutine") = false) (hb : fn.body.isNone = false)
  (vs:Ak) (l:args.map a.eval=vs) (r:Calls P f vs w (λe w'=>∃v,e = .returned v/\K (a.put o.dst v) w')) :
  if Region.wanted o (yielded ops a.tmps)=true then Oper.wp P o a w K Q else E:=by
 have D:Region.wanted o (yielded ops a.tmps)=true:=by simp[Region.wanted,B]
 rw[if_pos D];subst l;unfold Oper.wp;rw[Conc.run_call_body j y g hb,Oper.upon_enter];refine r.mono λe w' C=>?_;obtain⟨v,rfl,h⟩:=C;exact h
def Qd{ops:Am}{o:Oper}{a:Act}{w:Z}{Q:Exit->Act->Z->Prop}(U:o.guard=none)(s x:Ae)
  (y:o.op = .call { callee:=.builtin .append,args:=#[s,x],argTypes:=#[48,48] })
  (base:Nat) (v:D) (bs:Aj) (hs:a.eval s=v) (j:BR base w v bs) (N:D) (f:Aj) (hx:a.eval x=N) (Y:jx w N f) (r:f≠[])
  (hl:bs.length+f.length<=1000000000) (h:base<=w.heap.size)
  (R:∀v' w',BR base w' v' (bs++f)->Kp (λb=>v.ownBlock=some b) w w'->(v'.ownBlock=v.ownBlock\/v'.ownBlock=some w.heap.size)->K (a.put o.dst v') w') :
  if Region.wanted o (yielded ops a.tmps)=true then Oper.wp prog o a w K Q else E:=by
 have hw:Region.wanted o (yielded ops a.tmps)=true:=by simp[Region.wanted,U]
 rw[if_pos hw];obtain⟨i0,W,B,C,M⟩:=info_parts qP;obtain⟨g,of,cap,rfl,S⟩:=Y.form r;obtain⟨v',w',l,r1,r2,_,r4⟩:=run_append_own_at (P:=prog) w base 48 o.type 5 i0 (.int .u8 0) 1 1 underlying48 W B C M rfl (by decide) v bs.length (bs.map b8) j ⟨g,of,none⟩ f.length cap (f.map b8) (by simp) S (xT _) (by unfold maxLen;omega) (by omega) h;unfold Oper.wp;simp[execOp,y,resolve,invoke,builtin,hs,hx,l,Result.andThen];refine R v' w' ?_ (Kp.jh r2 (λ_ e=>e)) r4;unfold BR;rw[aj,bj];exact r1
def Ro{ops:Am}{rest:List Oper}{o:Oper}{a:Act}{Q:Exit->Act->Z->Prop}(w:Z)(j:o.guard=none)(s x:Ae)
  (N:o.op = .call { callee:=.builtin .append,args:=#[s,x],argTypes:=#[48,9] })
  (base:Nat) (v:D) (bs:Aj) (P:a.eval s=v) (g:BR base w v bs) (t:Ac) (R:a.eval x = .string t)
  (U:bs.length+t.size<=1000000000) (f:base<=w.heap.size)
  (h:∀v' w',BR base w' v' (bs++t.data.toList)->Kp (λb=>v.ownBlock=some b) w w'->wpList prog ops Q rest (a.put o.dst v') w') :
  wpList prog ops Q (o::rest) a w:=by
 obtain⟨S,M,l,r,y⟩:=info_parts qP;refine wpList_append_own_string _ j s x 48 9 N base 5 S underlying48 underlying9 M l r y v bs.length (bs.map b8) P g t R (by unfold maxLen;omega) (by omega) f (λv' w' B C _=>?_);refine h v' w' ?_ (Kp.jh C (λ_ e=>e));unfold BR;rw[AB]at B;rw[aj,bj,show t.data.toList.length=t.size by simp];exact B
def mK (w:Z)(cs:Ak)(bs:Aj)(a:cs.toList=bs.map b8)(f:bs.length<=1000000):BR w.heap.size (w.alloc (.cells cs 5)) (ag w.heap.size bs.length bs.length) bs:=by
 have g:cs.size=bs.length:=by rw[<- Array.length_toList,a];simp
 exact⟨by simp,Or.inr ⟨w.heap.size,bs.length,cs,rfl,aW _,bI w _,aW _,by unfold maxLen;omega,by omega,by rw[a,Nat.mul_one,aN (by simp)]⟩⟩
def uW (w:Z)(n:Nat)(g:w.heap.size=n)(cs:Ak)(bs:Aj)(a:cs.toList=bs.map b8)(f:bs.length<=1000000):BR n (w.alloc (.cells cs 5)) (ag n bs.length bs.length) bs:=by subst g;exact mK w cs bs a f
section
variable {R:Al}
def vA (n:Nat):(cP n).map b8=[.int .u8 ((n:Int) % 256),.int .u8 ((n:Int) / 256 % 256),.int .u8 ((n:Int) / 65536 % 256),.int .u8 ((n:Int) / 16777216 % 256)]:=by simp only[cP,List.map_cons,List.map_nil,b8,lj];simp
def uT (base:Nat)(v:D)(bs:Aj)(n:Nat)(w:Z)(hv:BR base w v bs)(C:n<4294967296)(j:bs.length<=100000000)(a:base<=w.heap.size)
  (h:∀v' w',BR base w' v' (bs++cP n)->Kp (λb=>v.ownBlock=some b) w w'->R (.returned v') w') :
  Calls prog 140 #[v,.int .u32 n] w R:=by
 have y:=bR h;have B:=bR hv;have r:=bR j;have o:=bR a;clear h hv j a
 go_enter func140,ntmps140
 go_wp2_with (first
  |(at_builtin;refine rM _ rfl _ _ rfl base v bs rfl (B.out.kept (Kp.al _ _ _)) _ (cP n) rfl (BR.rd (mK w _ (cP n) (by rw[vA,show((n:Int) / 16777216 % 256)=(n:Int) / 16777216 by omega]) (by rw[eG];omega))) (by simp[cP]) (by rw[eG];have:=r.out;omega) (by have:=o.out;simp;omega) ?_;intro v' w' g f l)
  |go_in)
 exact y.out v' w' g ((Kp.al _ _ _).trans f (λb hb e=>e))
def Fb (base:Nat)(v:D)(bs:Aj)(w:Z)(o:db w)(hv:BR base w v bs)(r:bs.length<=100000000)(a:base<=w.heap.size)
  (l:∀v' w',BR base w' v' (cQ bs)->Kp (λb=>v.ownBlock=some b) w w'->R (.returned v') w') :
  Calls prog 176 #[v] w R:=by
 have B:=bR l;have j:=bR hv;have h:=bR r;have y:=bR a;have C:=bR o;clear l hv r a o
 go_enter func176,ntmps176
 go_wp2_with (first
  |(go_at_call 204;refine(v8 v bs _ C.out (by have:=h.out;omega) j.out.rd).mono ?_;rintro e w' ⟨rfl,rfl⟩)
  |(go_at_call 140;refine uT base v bs (dO bs) _ j.out (uf bs) h.out y.out ?_;intro M N g f)
  |go_in)
 exact B.out M N g f
def D5{n b:Nat}(h:x.ownBlock=v.ownBlock\/x.ownBlock=some n)(e:x.ownBlock=some b)(hb:b<n):v.ownBlock=some b:=by
 rcases h with h|h
 .rw[<- h];exact e
 .rw[h]at e;cases e;omega
def Bl (base:Nat)(v:D)(bs:Aj)(t:Ac)(w:Z)(hv:BR base w v bs)(ht:t.size<=255)(P:bs.length<=100000000)(a:base<=w.heap.size)
  (N:∀v' w',BR base w' v' (bs++fF t)->Kp (λb=>v.ownBlock=some b) w w'->R (.returned v') w') :
  Calls prog 210 #[v,.string t] w R:=by
 have Q:=bR N;have S:=bR hv;have C:=bR P;have B:=bR a;have M:=bR ht;have U:(t.size:Int)<=255:=by omega
 clear N hv P a ht
 go_enter func210,ntmps210
 go_wp2_with (first
  |(at_builtin;refine rM _ rfl _ _ rfl base v bs rfl (S.out.kept (Kp.al _ _ _)) _ [u8 t.size] rfl (BR.rd (mK w _ [u8 t.size] (by have:=M.out;simp[b8,lj];omega) (by simp))) (by simp) (by have:=C.out;simp;omega) (by have:=B.out;simp;omega) ?_;intro W w1 j h f;have r:=bR j;have g:=bR h;have o:=bR f;clear j h f)
  |(at_builtin;refine Ro _ rfl _ _ rfl base W _ rfl r.out t rfl (by have:=C.out;have:=M.out;simp;omega) (by have:=B.out;have:=g.out.size;simp at this;omega) ?_;intro Y w2 l y)
  |go_in)
 refine Q.out Y w2 ?_ (((Kp.al _ _ _).trans g.out (λb hb e=>e)).trans y (λb hb e=>D5 o.out e (by simp;omega)));rw[bn]at l;exact l
def Hc (base:Nat)(v:D)(bs:Aj)(val:Ac)(g:Bool)(w:Z)(hv:BR base w v bs)(ht:val.size<=255)(hl:bs.length<=10000000)(r:base<=w.heap.size)
  (hR:∀v' w',BR base w' v' (bs++ko (val,g))->Kp (λb=>v.ownBlock=some b) w w'->R (.returned v') w') :
  Calls prog 209 #[v,.agg #[.string val,.bool g]] w R:=by
 have HR:=bR hR;have M:=bR hl;have HS:=bR ht;have HV:Hid (BR base (w.alloc (.cells #[.string val,.bool g] 138)) v bs):=hv.kept (Kp.al _ _ _);have C:Hid (base<=(w.alloc (.cells #[.string val,.bool g] 138)).heap.size):=by show base<=_;simp;omega
 have Y:Hid (Kp (λb=>v.ownBlock=some b) w (w.alloc (.cells #[.string val,.bool g] 138))):=Kp.al _ _ _;have P:Hid (∀b,v.ownBlock=some b->b<w.heap.size):=λb e=>(hv.lt b e).2
 clear hR hv hl r ht;cases g
 .have c0:(w.alloc (.cells #[.string val,.bool false] 138)).cell? ⟨w.heap.size,0,none⟩=some (.string val):=by go_simp
  have y:(w.alloc (.cells #[.string val,.bool false] 138)).heap.size=w.heap.size+1:=by simp
  go_enter func209,ntmps209
  go_wp2_with fail
  generalize w.alloc (.cells #[.string val,.bool false] 138)=W at *
  go_region_law (first
   |(refine Qd rfl _ _ rfl base v bs (by simp[Act.eval]) (HV.out.kept ((Kp.dr _ _).trans (Kp.al _ _ _) (λ_ _ h=>h))) (.slice (some ⟨w.heap.size+1,0,none⟩) 1 1) [0] (by simp[Act.eval]) (BR.rd (uW W.drew (w.heap.size+1) (by simp[y]) #[.int .u8 0] [0] rfl (by simp))) (by simp) (by have:=M.out;simp;omega) (by have:=C.out;simp;omega) ?_;intro S U j f a;have o:=bR j;have l:=bR f;have c1:U.cell? ⟨w.heap.size,0,none⟩=some (.string val):=f.yg P.out (aW _) (by go_simp);have N:=bR a;clear j f a)
   |(refine lO rfl 210 _ _ _ rfl func210 (by kernel_rfl) (by kernel_rfl) _ (by simp[Act.eval];rfl) ?_;refine Bl base S _ val _ o.out HS.out (by have:=M.out;simp;omega) (by have:=C.out;have:=l.out.size;simp at *;omega) ?_;intro v2 w2 B Q;refine⟨_,rfl,?_⟩))
  all_goals
   clear c1
   go_wp2
   go_ret
   refine HR.out v2 w2 ?_ ((Y.out.trans (((Kp.dr (λb=>v.ownBlock=some b) _).trans (Kp.al (λb=>v.ownBlock=some b) _ _) (λ_ _ h=>h)).trans l.out (λb hb e=>e)) (λ_ _ h=>h)).trans Q (λb hb e=>D5 N.out e (by simp[y];omega)));rw[bn]at B;exact B
 .go_enter func209,ntmps209
  go_wp2_with (first
   |(at_builtin;refine rM _ rfl _ _ rfl base v bs rfl (HV.out.kept (Kp.al _ _ _)) _ [1] rfl (BR.rd (uW _ _ (by simp) _ [1] rfl (by simp))) (by simp) (by have:=M.out;simp;omega) (by have:=C.out;simp at this ⊢;omega) ?_;intro S U j f a;have o:=bR j;have l:=bR f;clear j f a)
   |go_in)
  exact HR.out S U o.out (Y.out.trans ((Kp.al (λb=>v.ownBlock=some b) _ _).trans l.out (λb hb e=>e)) (λ_ _ h=>h))
end
end
section
open Go.RowKit Go.Lib
def iQ (x:Ac × Ac × Bool):List D:=[.string x.1,.string x.2.1,.bool x.2.2]
def im (w:Z)(v:D)(ws:List (Ac × Ac × Bool)):Prop:=
 ∃p cap,v = .slice p ws.length cap/\(ws≠[]->∃g,p=some ⟨g,0,none⟩/\∀j x,ws[j]?=some x->w.cell? ⟨g,j*3,none⟩=some (.string x.1)/\w.cell? ⟨g,j*3+1,none⟩=some (.string x.2.1)/\w.cell? ⟨g,j*3+2,none⟩=some (.bool x.2.2))
def im.kp{S:Nat->Prop}{w:Z}{ws:List (Ac × Ac × Bool)}(h:im w v ws)(f:Kp S w w')(B:∀b,v.ownBlock=some b->¬S b):im w' v ws:=by obtain⟨p,cap,rfl,o⟩:=h;refine⟨p,cap,rfl,λhb=>?_⟩;obtain⟨g,rfl,r⟩:=o hb;refine⟨g,rfl,λj x y=>?_⟩;obtain⟨a,b,c⟩:=r j x y;have l:=B g rfl;exact⟨(f.cell (bH w _ a) l).trans a,(f.cell (bH w _ b) l).trans b,(f.cell (bH w _ c) l).trans c⟩
def im.kept{w:Z}{ws:List (Ac × Ac × Bool)}(h:im w v ws)(a:An w w'):im w' v ws:=h.kp a (λ_ _ e=>e)
section
variable {R:Al}
def sJ{w:Z}{a:Addr}(h:w.cell? a=some x)(o:Obj):(w.alloc o).cell? a=some x:=((Kp.al (λ_=>False) w o).cell (bH _ _ h) (λe=>e)).trans h
def Kp.Ix{base:Nat}{w w1:Z}{bs:Aj}{a:Addr}(f:Kp (λb=>v.ownBlock=some b) w0 w1)(hv:BR base w v bs)(g:a.block<base)(h:w0.cell? a=some x):w1.cell? a=some x:=
 (f.cell (bH _ _ h) (λe=>by have:=(hv.lt _ e).1;omega)).trans h
def H9 (t:Nat)(v:D)(w:Z)(ht:t<4294967296)
  (r:∀v' w',BR w.heap.size w' v' (oe t)->An w w'->R (.returned v') w') :
  Calls prog 177 #[.agg #[.int .u8 72,Y t,v]] w R:=by
 have C:=bR r;have g:(w.alloc (.cells #[.int .u8 72,Y t,v] 110)).heap.size=w.heap.size+1:=by simp
 have M:Hid (BR (w.heap.size+1) ((w.alloc (.cells #[.int .u8 72,Y t,v] 110)).alloc (.cells #[.int .u8 72] 5)) (.slice (some ⟨w.heap.size+1,0,none⟩) 1 1) [72]):=uW _ _ g #[.int .u8 72] [72] rfl (by simp);have B:Hid (An w ((w.alloc (.cells #[.int .u8 72,Y t,v] 110)).alloc (.cells #[.int .u8 72] 5))):=(Kp.al _ _ _).trans (Kp.al _ _ _) (λ_ _ h=>h);have c0:((w.alloc (.cells #[.int .u8 72,Y t,v] 110)).alloc (.cells #[.int .u8 72] 5)).cell? ⟨w.heap.size,0,none⟩=some (.int .u8 72):=by go_simp
 clear r g
 go_enter func177,ntmps177
 go_wp2_with (first
  |(go_at_call 140;refine uT (w.heap.size+1) _ [72] t _ M.out ht (by simp) (by simp) ?_;intro N y j f;have o:=bR j;have l:=bR f;have d0:y.cell? ⟨w.heap.size,0,none⟩=some (.int .u8 72):=f.cell (a:=⟨w.heap.size,0,none⟩) (bH _ _ c0) (by simp[Value.ownBlock]) |>.trans c0;clear j f)
  |go_in)
 refine C.out N y (BR.mono (base:=w.heap.size+1) o.out (by omega)) (B.out.trans l.out (λb hb e=>?_));simp[Value.ownBlock]at e;omega
def Qu (ws:List (Ac × Ac × Bool))(k:Nat)(x:Ac × Ac × Bool)(h:ws[k]?=some x):(ws.take (k+1)).flatMap gp=(ws.take k).flatMap gp++(fF x.1++ko (x.2.1,x.2.2)):=by obtain⟨a,rfl⟩:=ak.1 h;rw[aE a,List.flatMap_append];simp[gp]
def H8 (t:Nat)(wv:D)(ws:List (Ac × Ac × Bool))(w:Z)(ht:t<4294967296)(hw:im w wv ws)(bA:ws≠[])(hn:ws.length<=255)(hs:∀x∈ws,x.1.size<=255/\x.2.1.size<=255)
  (hR:∀v' w',BR w.heap.size w' v' (dg t ws)->An w w'->R (.returned v') w') :
  Calls prog 177 #[.agg #[.int .u8 67,Y t,wv]] w R:=by
 obtain⟨pw,cap,rfl,bf⟩:=hw;obtain⟨g,rfl,hc⟩:=bf bA;have HR:=bR hR;have HC:=bR hc;have HS:=bR hs;have bB:(ws.length:Int)<=255:=by omega
 have HN:=bR hn;have a8:(w.alloc (.cells #[.int .u8 67,Y t,ag g ws.length cap] 110)).heap.size=w.heap.size+1:=by simp
 have HV:Hid (BR (w.heap.size+1) ((w.alloc (.cells #[.int .u8 67,Y t,ag g ws.length cap] 110)).alloc (.cells #[.int .u8 67] 5)) (.slice (some ⟨w.heap.size+1,0,none⟩) 1 1) [67]):=uW _ _ a8 #[.int .u8 67] [67] rfl (by simp);have HK:Hid (An w ((w.alloc (.cells #[.int .u8 67,Y t,ag g ws.length cap] 110)).alloc (.cells #[.int .u8 67] 5))):=(Kp.al _ _ _).trans (Kp.al _ _ _) (λ_ _ h=>h);have c0:((w.alloc (.cells #[.int .u8 67,Y t,ag g ws.length cap] 110)).alloc (.cells #[.int .u8 67] 5)).cell? ⟨w.heap.size,0,none⟩=some (.int .u8 67):=by go_simp
 have c2:((w.alloc (.cells #[.int .u8 67,Y t,ag g ws.length cap] 110)).alloc (.cells #[.int .u8 67] 5)).cell? ⟨w.heap.size,2,none⟩=some (ag g ws.length cap):=by go_simp
 clear hR a8 hc hs bf hn
 go_enter func177,ntmps177
 go_wp2_with (first
  |(go_at_call 140;refine uT (w.heap.size+1) _ [67] t _ HV.out ht (by simp) (by simp) ?_;intro v1 w1 a9 o;have N:=bR a9;have ad:=bR o;have d0:w1.cell? ⟨w.heap.size,0,none⟩=some (.int .u8 67):=o.cell (a:=⟨w.heap.size,0,none⟩) (bH _ _ c0) (by simp[Value.ownBlock]) |>.trans c0;have d2:w1.cell? ⟨w.heap.size,2,none⟩=some (.slice (some ⟨g,0,none⟩) ws.length cap):=o.cell (a:=⟨w.heap.size,2,none⟩) (bH _ _ c2) (by simp[Value.ownBlock]) |>.trans c2;clear a9 o)
  |(at_builtin;refine rM _ rfl _ _ rfl (w.heap.size+1) v1 _ rfl (N.out.kept (Kp.al _ _ _)) _ [u8 ws.length] rfl (BR.rd (mK _ _ [u8 ws.length] (by have:=HN.out;simp[b8,lj];omega) (by simp))) (by simp) (by simp[eG]) (by have:=ad.out.size;simp at this ⊢;omega) ?_;intro v2 w2 ba Q S;have bp:=bR ba;have bl:=bR Q;have e2:w2.cell? ⟨w.heap.size,2,none⟩=some (.slice (some ⟨g,0,none⟩) ws.length cap):=Q.Ix N.out (Nat.lt_succ_self _) (sJ d2 _);clear ba Q S)
  |go_in)
 have am:Hid (An w w2):=((HK.out.trans ad.out (λb hb e=>by simp[Value.ownBlock]at e;omega)).trans ((Kp.al _ _ _).trans bl.out (λb hb e=>e)) (λb hb e=>by have:=(N.out.lt _ e).1;omega))
 go_loopw [3,27] (λv3 U wr=>∃k:Nat,k<=ws.length/\U = Y k/\BR (w.heap.size+1) wr v3 ([67]++cP t++[u8 ws.length]++(ws.take k).flatMap gp)/\An w wr) (λ_ U _=>ws.length-(intOf U).toNat)
 case atStart=>exact⟨0,aZ _,rfl,by simpa using bp.out,am.out⟩
 case round=>
  obtain⟨k,hk,rfl,j,l⟩:=hrel
  by_cases bw:k<ws.length
  .obtain⟨x,hx⟩:∃x,ws[k]?=some x:=⟨ws[k],aQ bw⟩;obtain⟨a0,a1,a2⟩:=HC.out k x hx;have b0:wr.cell? ⟨g,k*3,none⟩=some (.string x.1):=(l.cell (bH _ _ a0) (λe=>e)).trans a0;have b1:wr.cell? ⟨g,k*3+1,none⟩=some (.string x.2.1):=(l.cell (bH _ _ a1) (λe=>e)).trans a1;have b2:wr.cell? ⟨g,k*3+2,none⟩=some (.bool x.2.2):=(l.cell (bH _ _ a2) (λe=>e)).trans a2;obtain⟨key,val,f⟩:=x;have HX:=bR (HS.out _ (aI hx));have HT:=bR (Qu ws k _ hx);have B:=bR j;have a3:=bR l;have y:Hid (([67]++cP t++[u8 ws.length]++(ws.take k).flatMap gp).length<=1000000):=by
    have h1:=yF gp 513 (ws.take k) (λx hx=>aX (Gp x) (by have:=HS.out x (List.mem_of_mem_take hx);omega));have h2:(ws.take k).length<=255:=by have:=HN.out;simp;omega
    show _<=_;simp only[aj,ai,ax,eG];omega
   have C:Hid (([67]++cP t++[u8 ws.length]++(ws.take k).flatMap gp++fF key).length<=10000000):=by have h1:key.size<=255:=HX.out.1;have h2:=y.out;show _<=_;rw[aj,AJ];omega
   clear j l a0 a1 a2 hx
   go_wp2_with fail
   have d0:(wr.alloc (.cells #[.string key,.string val,.bool f] 153)).cell? ⟨wr.heap.size,0,none⟩=some (.string key):=by go_simp
   have d1:(wr.alloc (.cells #[.string key,.string val,.bool f] 153)).cell? ⟨wr.heap.size,1,none⟩=some (.string val):=by go_simp
   have P:(wr.alloc (.cells #[.string key,.string val,.bool f] 153)).cell? ⟨wr.heap.size,2,none⟩=some (.bool f):=by go_simp
   have HW:Hid (An w (wr.alloc (.cells #[.string key,.string val,.bool f] 153)).drew):=(a3.out.trans (Kp.al _ _ _) (λ_ _ h=>h)).trans (Kp.dr _ _) (λ_ _ h=>h);have HB:Hid (BR (w.heap.size+1) (wr.alloc (.cells #[.string key,.string val,.bool f] 153)).drew u3 ([67]++cP t++[u8 ws.length]++(ws.take k).flatMap gp)):=B.out.kept ((Kp.al _ _ _).trans (Kp.dr _ _) (λ_ _ h=>h));have HO:Hid (∀b,u3.ownBlock=some b->b<wr.heap.size):=λb e=>(B.out.lt b e).2
   have M:Hid (w.heap.size+1<=(wr.alloc (.cells #[.string key,.string val,.bool f] 153)).drew.heap.size):=by have:=a3.out.size;show _<=_;simp;omega
   generalize wr.alloc (.cells #[.string key,.string val,.bool f] 153)=W at d0 d1 P HW HB M ⊢
   go_region_law (first
    |(refine lO rfl 210 _ _ _ rfl func210 (by kernel_rfl) (by kernel_rfl) _ (by simp[Act.eval];rfl) ?_;refine Bl (w.heap.size+1) u3 _ key _ HB.out HX.out.1 (by have:=y.out;omega) M.out ?_;intro v4 w4 bb r;have a4:=bR bb;have an:=bR r;have d14:w4.cell? ⟨wr.heap.size,1,none⟩=some (.string val):=r.yg HO.out (aW _) d1;have d24:w4.cell? ⟨wr.heap.size,2,none⟩=some (.bool f):=r.yg HO.out (aW _) P;clear bb r;refine⟨_,rfl,?_⟩)
    |(refine lO rfl 209 _ _ _ rfl func209 (by kernel_rfl) (by kernel_rfl) _ (by simp[Act.eval];rfl) ?_;refine Hc (w.heap.size+1) v4 _ val f _ a4.out HX.out.2 C.out (aX M.out an.out.size) ?_;intro v5 w5 be a7;have bq:=bR be;have bm:=bR a7;clear be a7;refine⟨_,rfl,?_⟩))
   all_goals
    clear d14 d24 d0 d1 P
    go_wp2_with fail
    refine⟨⟨k+1,by omega,by go_num,?_,?_⟩,by simp[intOf];omega⟩
    .have h:=bq.out;rw[HT.out];rw[bn _ (fF key)]at h;rw[<- bn];exact h
    .exact(HW.out.trans an.out (λb hb e=>by have:=(HB.out.lt b e).1;omega)).trans bm.out (λb hb e=>by have:=(a4.out.lt b e).1;omega)
  .have bv:k=ws.length:=by omega
   subst bv
   go_wp2_with fail
   refine HR.out _ _ (BR.mono (base:=w.heap.size+1) ?_ (by omega)) l;rw[List.take_length]at j;simpa [dg]using j
def jM (w:Z)(r:D)(body:Aj):Prop:=
 (∃(t:Nat) (v:D),t<4294967296/\r = .agg #[.int .u8 72,Y t,v]/\v.oneCell'=true/\body=oe t)\/
 (∃(t:Nat) (a:D) (ws:List (Ac × Ac × Bool)),t<4294967296/\r = .agg #[.int .u8 67,Y t,a]/\a.oneCell'=true/\im w a ws/\ws≠[]/\ws.length<=255/\(∀x∈ws,x.1.size<=255/\x.2.1.size<=255)/\body=dg t ws)
def H6 (r:D)(body:Aj)(w:Z)(h:jM w r body)
  (f:∀v' w',BR w.heap.size w' v' body->An w w'->R (.returned v') w') :
  Calls prog 177 #[r] w R:=by
 rcases h with⟨t,v,ht,rfl,_,rfl⟩|⟨t,o,ws,ht,rfl,_,l,a,g,j,rfl⟩
 .exact H9 t v w ht f
 .exact H8 t o ws w ht l a g j f
def jM.kept{w:Z}{body:Aj}(h:jM w r body)(f:An w w'):jM w' r body:=by
 rcases h with h|⟨t,j,ws,ht,e,a,g,r⟩
 .exact Or.inl h
 .exact Or.inr ⟨t,j,ws,ht,e,a,g.kept f,r⟩
def jM.kp{S:Nat->Prop}{w:Z}{k t:Int}{body:Aj}(h:jM w (.agg #[.int .u8 k,Y t,v]) body)(g:Kp S w w')(j:∀b,v.ownBlock=some b->¬S b):jM w' (.agg #[.int .u8 k,Y t,v]) body:=by
 rcases h with h|⟨o,a,ws,ht,e,f,l,r⟩
 .exact Or.inl h
 .refine Or.inr ⟨o,a,ws,ht,e,f,l.kp g ?_,r⟩;have e2:v=a:=by simp at e;exact e.2.2
  rw[<- e2];exact j
def QJ (n:Nat)(h:n<65536):[u8 n,u8 (n / 256)].map b8=[.int .u8 ((n:Int) % 256),.int .u8 ((n:Int) / 256)]:=by
 simp only[List.map_cons,List.map_nil,b8,lj];have:n / 256 % 256=n / 256:=by omega
 rw[this];simp
def jM.ne{w:Z}{body:Aj}(h:jM w r body):body≠[]:=by
 rcases h with⟨t,v,_,_,_,rfl⟩|⟨t,a,ws,_,_,_,_,_,_,_,rfl⟩
 .simp[oe]
 .simp[dg]
def BR.form{base:Nat}{w:Z}{bs:Aj}(h:BR base w v bs)(a:bs≠[]):∃g cap,v = ag g bs.length cap:=by
 rcases h.2 with⟨_,j⟩|⟨g,cap,f,rfl,_⟩
 .exact bx (aA j) a
 .exact⟨g,cap,rfl⟩
def Hb (v:D)(bs:Aj)(k:Int)(t:Int)(rv:D)(body:Aj)(w:Z)(hT:db w)(an:rv.oneCell'=true)(hr:jM w (.agg #[.int .u8 k,Y t,rv]) body)(hb:body.length<=60000)(hv:BR 0 w v bs)(hl:bs.length<=100000000)
  (hR:∀v' w',BR 0 w' v' (bs++dv body)->Kp (λb=>v.ownBlock=some b) w w'->(v'.ownBlock=v.ownBlock\/∃b,v'.ownBlock=some b/\w.heap.size<=b)->R (.returned v') w') :
  Calls prog 132 #[v,.agg #[.int .u8 k,Y t,rv]] w R:=by
 have HR:=bR hR;have HV:=bR hv;have HL:=bR hl;have HT:=bR hT;have S:=bR hb;have j:=bR hr;have a1:(body.length:Int)<=60000:=by omega
 clear hR hv hl hT hb hr
 go_enter func132,ntmps132
 go_wp2_with (first
  |(go_at_call 177;refine H6 _ body _ (j.out.kept (Kp.al _ _ _)) ?_;intro v1 Q r B;have U:=bR r;have a:=bR B;obtain⟨g1,a0,rfl⟩:=r.form j.out.ne;clear r B)
  |(at_builtin;refine rM _ rfl _ _ rfl Q.heap.size _ [u8 body.length,u8 (body.length / 256)] rfl (mK Q _ _ (by rw[QJ _ (by have:=S.out;omega)]) (by simp)) _ body rfl (U.out.rd.kept (Kp.al _ _ _)) j.out.ne (by have:=S.out;simp;omega) (by simp) ?_;intro v2 w2 N C l;have y:=bR N;have f:Hid (An Q w2):=(Kp.al (λ_=>False) _ _).trans C (λb hb e=>by simp[Act.eval,Value.ownBlock]at e;omega);clear N C l)
  |(go_at_call 176;refine Fb Q.heap.size v2 _ _ ((HT.out.kept (Kp.al _ _ _)).kept a.out |>.kept f.out) y.out (by have:=S.out;simp;omega) f.out.size ?_;intro v3 w3 P M;have W:=bR P;have g:Hid (An Q w3):=f.out.trans M (λb hb e=>by have:=(y.out.lt b e).1;omega);clear P M)
  |(at_builtin;refine rM _ rfl _ _ rfl 0 v bs rfl (HV.out.kept (((Kp.al _ _ _).trans a.out (λ_ _ h=>h)).trans g.out (λ_ _ h=>h))) v3 _ rfl W.out.rd (by simp[cQ]) (by have:=S.out;have:=HL.out;rw[ld];simp;omega) (aZ _) ?_;intro v4 w4 am ad o)
  |go_in)
 refine HR.out v4 w4 am ((((Kp.al _ _ _).trans a.out (λ_ _ h=>h.elim)).trans g.out (λ_ _ h=>h.elim)).trans ad (λ_ _ h=>h)) (o.imp id (λh=>⟨_,h,?_⟩));have h1:=a.out.size;have h2:=g.out.size;simp at h1;omega
end
end
section
open Go.RowKit Go.Maps
def jP:Keyed prog 3:=int_keyed underlying3
def gS:Keyed prog 9:=string_keyed underlying9
def oY (w:Z):(zeroValue 129).run prog w = .ok (.pointer none) w:=by kernel_rfl
def ux (w:Z):(zeroValue 138).run prog w = .ok (.agg #[.string ByteArray.empty,.bool false]) w:=by kernel_rfl
def qk (w:Z):(zeroValue 26).run prog w = .ok (ae) w:=by kernel_rfl
section
variable {R:Al}
def Hm (p mo n:Nat)(f:D->Option D)(w:Z)(c2:w.cell? ⟨p,7,none⟩=some (.map (some mo)))(a:cH w prog 3 mo n f)(h:(8:Int)<=n)
  (g:R (.returned (.tuple #[Y 0,Y 3])) w) :
  Calls prog 34 #[ab p] w R:=by
 go_enter func34,ntmps34
 go_wp2_with (first
  |(at_len;refine rN _ rfl _ 99 rfl 3 129 underlying99 mo n f rfl a ?_)
  |go_in)
 exact g
def CS (w:Z)(a:Addr)(v:D)(g h:Obj)(i:Nat)(j:i<w.heap.size)(f:i≠a.block):(((w.setCell a v).alloc g).alloc h).drew.heap[i]?=w.heap[i]?:=by
 show(((w.setCell a v).alloc g).alloc h).heap[i]?=_;have l:(w.setCell a v).heap.size=w.heap.size:=by simp[World.setCell]
 rw[Below.heap_alloc _ _ _ (by simp;omega),Below.heap_alloc _ _ _ (by omega),Below.heap_setCell _ _ _ _ f]
def Hn(p mo n:Nat)(f:D->Option D)(w:Z)(now begun:Int)(c0:w.cell? ⟨p,2,none⟩=some (Y now))(c1:w.cell? ⟨p,6,none⟩=some (Y begun))(c2:w.cell? ⟨p,7,none⟩=some (.map (some mo)))
  (f1:w.frozen? ⟨p,6,none⟩=false) (P:0<=begun) (Q:begun<9223372036854775807)
  (h:cH w prog 3 mo n f) (W:(n:Int)<8) (o:f (Y (begun+1))=none)
  {f':D->Option D} (B:jc f (Y (begun+1)) (.pointer (some ⟨w.heap.size+1,0,none⟩)) f')
  (M:∀w',cH w' prog 3 mo (n+1) f'->
   (((w.setCell ⟨p,6,none⟩ (Y (begun+1))).alloc (.map #[] 0)).alloc (.cells #[Y now,.map (some w.heap.size)] 132)).drew.mapTurned w' mo->
   R (.returned (.tuple #[Y (begun+1),Y 0])) w') :
  Calls prog 34 #[ab p] w R:=by
 go_enter func34,ntmps34
 go_wp2_with (first
  |(at_len;refine rN _ rfl _ 99 rfl 3 129 underlying99 mo n f rfl h ?_)
  |go_in)
 have r:mo≠p:=λe=>by subst e;rw[h.noCell]at c0;cases c0
 have hp:p<w.heap.size:=World.block_lt_of_cell? w _ c0;have y:=h.lt;have l:=keyOf_int_mk (a:=begun+1) underlying3 (WalkArith.wf_i64 (by omega));obtain⟨U,C,j,g⟩:=(h.of_block (CS w ⟨p,6,none⟩ (Y (begun+1)) (.map #[] 0) (.cells #[Y now,.map (some w.heap.size)] 132) mo y r)).store jP underlying99 (by unfold maxLen;omega) l (.pointer (some ⟨w.heap.size+1,0,none⟩)) B;have N:=@run_makeMap prog;have S:U.cell? ⟨p,6,none⟩=some (Y (begun+1)):=by
  rw[World.cell?_of_block (w:=(((w.setCell ⟨p,6,none⟩ (Y (begun+1))).alloc (.map #[] 0)).alloc (.cells #[Y now,.map (some w.heap.size)] 132)).drew) (lG g p (Ne.symm r))]
  go_simp
 rw[o]at j
 replace M:=M _ j g
 clear o j g B
 go_region
 all_goals
  clear C N l hp y r c0 c1 c2 f1 h
  go_wp2
  exact M
end
end
section
open Go.RowKit Go.Maps
def LY:laidOutB prog=true:=by kernel_rfl
def EY:225<prog.types.size:=by decide +kernel
def Rj:(match prog.underlying 225 with|some (.array _ _)|some (.struct _)=>true|_=>false)=true:=by kernel_rfl
def yX:Keyed prog 225:=Keyed.of_law (deep_law_laid LY (m:=2) (by omega) EY (by kernel_rfl) Rj)
def QI:∃m,prog.types.size=m+1:=⟨prog.types.size-1,by have:=EY;omega⟩
def LO:prog.keyType 225=true:=by kernel_rfl
def BI:prog.cellsOf 225=2:=by kernel_rfl
def Iz:prog.cellsOf 9=1:=by kernel_rfl
def Iy:prog.cellsOf 3=1:=by kernel_rfl
def yY (s:Ac)(m:Int)(f:s.size<=maxLen)(hm:(Lit.int .i64 m).wf=true):∃kl,keyOf prog 225 (.agg #[.string s,.int .i64 m])=some kl:=by refine⟨.string (keyBytes [.string s.data.toList,.int .i64 m]),?_⟩;obtain⟨k,a⟩:=QI;unfold keyOf;rw[underlying225];simp only[LO,Value.formed,underlying225,BI,Value.cells,a];simp[Program.keyLits,underlying225,underlying9,underlying3,BI,Iz,Iy,f,hm]
def BL:∀(l:List Int) (t:Int),l.Pairwise (·<·)->l.countP (λm=>decide (m<t))+(if l.contains t then 1 else 0)=l.countP (λm=>decide (m<=t))
 |[],_,_=>rfl
 |x::r,t,h=>by
  obtain⟨j,B⟩:=List.pairwise_cons.1 h;have N:=BL r t B
  by_cases o:x<t
  .have a:(t == x)=false:=by simp;omega
   rw[List.countP_cons_of_pos (by simpa using o),List.countP_cons_of_pos (by simp;omega),List.contains_cons,a,Bool.false_or];omega
  .have M:∀y∈r,¬y<t:=λy f=>by have:=j y f;omega
   have g:∀y∈r,¬y<=t:=λy f=>by have:=j y f;omega
   have e2:r.countP (λm=>decide (m<t))=0:=by rw[List.countP_eq_zero];intro y f;simpa using M y f
   have e3:r.countP (λm=>decide (m<=t))=0:=by rw[List.countP_eq_zero];intro y f;simpa using g y f
   have e4:r.contains t=false:=by
    cases D:r.contains t with
    |false=>rfl
    |true=>exact bx (Int.le_refl t) (g t (by simpa using D))
   rw[List.countP_cons_of_neg (by simpa using o),e2,List.contains_cons,e4,Bool.or_false]
   by_cases C:x=t
   .subst C;rw[List.countP_cons_of_pos (by simp),e3];simp
   .have a:(t == x)=false:=by simp;omega
    rw[List.countP_cons_of_neg (by simp;omega),e3,a];simp
section
variable {R:Al}
def IA (ph j n:Nat)(f:D->Option D)(key:Ac)(t:Int)(w:Z)(c1:w.cell? ⟨ph,1,none⟩=some (.map (some j)))(h:cH w prog 9 j n f)
  (l:key.size<=8) (a:Option Addr) (cap:Nat) (r:(f (.string key)).getD (.slice none 0 0) = .slice a 0 cap)
  (o:R (.returned (.bool false)) w) :
  Calls prog 125 #[.pointer (some ⟨ph,0,none⟩),.string key,.int .i64 t] w R:=by
 have g:Hid _:=WideMaps.keyOf_string_mk underlying9 (show key.size<=maxLen by unfold maxLen;omega)
 go_enter func125,ntmps125
 go_wp2_with (first
  |(at_lookup;refine us _ rfl _ _ 207 rfl 9 26 gS underlying207 (qk _) j n f rfl h (.string key) _ rfl g.out _ r ?_)
  |go_in)
 exact o
def IB (ph l n:Nat)(f:D->Option D)(key:Ac)(t:Int)(w:Z)(c1:w.cell? ⟨ph,1,none⟩=some (.map (some l)))(j:cH w prog 9 l n f)
  (h:key.size<=8) (g len cap:Nat) (r:(f (.string key)).getD (.slice none 0 0) = .slice (some ⟨g,0,none⟩) (len+1) cap) (B:(len:Int)<1000000) (last:Int) (y:w.cell? ⟨g,len,none⟩=some (.int .i64 last))
  (o:R (.returned (.bool (decide (t<last)))) w) :
  Calls prog 125 #[.pointer (some ⟨ph,0,none⟩),.string key,.int .i64 t] w R:=by
 have a:Hid _:=WideMaps.keyOf_string_mk underlying9 (show key.size<=maxLen by unfold maxLen;omega);clear h
 go_enter func125,ntmps125
 go_wp2_with (first
  |(at_lookup;refine us _ rfl _ _ 207 rfl 9 26 gS underlying207 (qk _) l n f rfl j (.string key) _ rfl a.out _ r ?_)
  |go_in)
 exact o
def QQ (a:Option Addr)(cap:Nat)(t:Int)(w:Z)(f:R (.returned (.int .i64 0)) w) :
  Calls prog 134 #[.slice a 0 cap,.int .i64 t] w R:=by
 go_enter func134,ntmps134
 go_wp2_with (first
  |(go_at_call 180;refine(slices_BinarySearch_int_empty _ _ _ _).mono ?_;rintro e w' ⟨rfl,rfl⟩)
  |go_in)
 exact f
def AQ (g cap:Nat)(zs:List Int)(t:Int)(w:Z)(n:Nat)(M:zs.length<1000000)
  (C:∀j,j<zs.length->w.cell? ⟨g,j,none⟩=some (.int .i64 (zs.getD j 0))) (r:zs.Pairwise (·<·)) (o:zs.countP (λm=>decide (m<=t))=n)
  (B:∀q,R (.returned (.int .i64 n)) (w.drewN q)) :
  Calls prog 134 #[.slice (some ⟨g,0,none⟩) zs.length cap,.int .i64 t] w R:=by
 have y:=bR B;have f:=bR (slices_BinarySearch_int g 0 zs.length cap zs t w (aW _) (by omega) (by simpa using C) (by simpa using r.imp (λh=>Int.le_of_lt h)));have a:=BL zs t r;rw[o]at a;have l:n<=zs.length:=by rw[<- o];exact List.countP_le_length
 rw[List.take_length]at f;generalize zs.countP (·<t)=pos at f a;generalize zs.contains t=D at f a;have N:(n:Int)<=1000000:=by omega
 generalize zs.length=L at f;clear B C r o M l;cases D
 .simp only[bg,if_false,Nat.add_zero]at a;subst a
  go_enter func134,ntmps134
  go_wp2_with (first
   |(go_at_call 180;refine Calls.mono f.out ?_;rintro e w' ⟨rfl,q,rfl⟩)
   |go_in)
  exact y.out q
 .simp only[if_true]at a;subst a
  go_enter func134,ntmps134
  go_wp2_with (first
   |(go_at_call 180;refine Calls.mono f.out ?_;rintro e w' ⟨rfl,q,rfl⟩)
   |go_in)
  exact y.out q
def QS (ph l n:Nat)(f:D->Option D)(key:Ac)(t:Int)(w:Z)(c1:w.cell? ⟨ph,1,none⟩=some (.map (some l)))(j:cH w prog 9 l n f)
  (h:key.size<=8) (a:Option Addr) (cap:Nat) (r:(f (.string key)).getD (.slice none 0 0) = .slice a 0 cap)
  (o:R (.returned (.tuple #[.string ⟨#[]⟩,.bool false])) w) :
  Calls prog 91 #[.pointer (some ⟨ph,0,none⟩),.string key,.int .i64 t] w R:=by
 have g:Hid _:=WideMaps.keyOf_string_mk underlying9 (show key.size<=maxLen by unfold maxLen;omega);clear h
 go_enter func91,ntmps91
 go_wp2_with (first
  |(at_lookup;refine us _ rfl _ _ 207 rfl 9 26 gS underlying207 (qk _) l n f rfl j (.string key) _ rfl g.out _ r ?_)
  |(go_at_call 134;refine QQ _ _ _ _ ?_)
  |go_in)
 exact o
def QT (ph o n:Nat)(f:D->Option D)(key:Ac)(t:Int)(w:Z)(c1:w.cell? ⟨ph,1,none⟩=some (.map (some o)))(l:cH w prog 9 o n f)
  (h:key.size<=8) (g cap:Nat) (zs:List Int) (N:(f (.string key)).getD (.slice none 0 0) = .slice (some ⟨g,0,none⟩) zs.length cap) (P:zs.length<1000000)
  (y:∀j,j<zs.length->w.cell? ⟨g,j,none⟩=some (.int .i64 (zs.getD j 0))) (B:zs.Pairwise (·<·)) (h0:zs.countP (λm=>decide (m<=t))=0)
  (r:∀q,R (.returned (.tuple #[.string ⟨#[]⟩,.bool false])) (w.drewN q)) :
  Calls prog 91 #[.pointer (some ⟨ph,0,none⟩),.string key,.int .i64 t] w R:=by
 have a:Hid _:=WideMaps.keyOf_string_mk underlying9 (show key.size<=maxLen by unfold maxLen;omega);have C:=bR r;have M:=bR (λ(R:Al)=>AQ (R:=R) g cap zs t w 0 P y B h0);clear h r y B h0
 go_enter func91,ntmps91
 go_wp2_with (first
  |(at_lookup;refine us _ rfl _ _ 207 rfl 9 26 gS underlying207 (qk _) o n f rfl l (.string key) _ rfl a.out _ N ?_)
  |(go_at_call 134;refine M.out _ (λq=>?_))
  |go_in)
 exact C.out q
end
end
end Go.Proofs.YthbdpfccfcceiaaGreatDoor
