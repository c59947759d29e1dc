/-
  Of hurt_card.
-/
import Derived.Test.YthbdpfccfcceiaaGreatDoorZA1x
import Derived.Conc.Listed
import Derived.Conc.CrowdSel
set_option linter.all false
namespace Go.Proofs.YthbdpfccfcceiaaGreatDoor
variable {m u y:Machine}{o:Oper}{e:Halt}{f:Next}{h:Bool}
structure dq where
 sl:Ag->Nat->Nat
 fD:Ag->Bool
 jr:Ag->Bool
 lf:Ag
 ar:Ag->Ag->Nat->Bool
def jd (T:dq):Nat->D->Prop
 |0,_=>True
 |1,x=>x=undef\/x = .nilFunc\/∃g y,x = .func (.func g) #[] #[y]/\T.jr g=true
 |_,x=>x=undef\/∃l,x = .func (.yield l) #[] #[]
def ug (T:dq)(n:Nat):jd T n undef:=by
 unfold jd;split
 .trivial
 .exact .inl rfl
 .exact .inl rfl
def wO (T:dq)(fn:Ag):Ae->Bool
 |.tmp s=>T.sl fn s == 1
 |.const .nilFunc=>true
 |_=>false
def vg (T:dq)(fn:Ag)(o:Oper):Bool:=match o.dst with
 |none=>true
 |some d=>match T.sl fn d with
  |0=>true
  |1=>match o.op with
   |.move x | .assign x=>wO T fn x
   |.makeFunc (.func g) f c=>T.jr g && f.isEmpty && c.size == 1
   |.call c=>match c.callee with
    |.value (.func g)=>T.fD g
    |_=>false
   |_=>false
  |_=>match o.op with
   |.move (.tmp s) | .assign (.tmp s)=>T.sl fn s == T.sl fn d
   |_=>false
def sE (T:dq)(fn:Ag):Op->Bool
 |.call c=>match c.callee with
  |.value (.func g)=>T.ar fn g c.args.size && (List.range c.args.size).all λi=>match T.sl g i with
   |0=>true
   |1=>match c.args[i]? with
    |some x=>wO T fn x
    |none=>true
   |_=>false
  |_=>true
 |_=>true
def yo (T:dq)(fn:Ag)(o:Oper):Bool:=match o.op with
 |.call c=>match c.callee with
  |.value (.tmp s)=>T.sl fn s == 2 && match o.dst with
   |some d=>T.sl fn d == 0
   |none=>true
  |_=>false
 |_=>false
def j6 (P:Ad)(T:dq)(fn:Ag)(o:Oper):Bool:=(ig P o.op && vg T fn o && sE T fn o.op) || yo T fn o
def codeOk (P:Ad)(T:dq)(fn:Ag):Code->Bool
 |.skip | .ret | .exit _=>true
 |.region _ g _=>g.all (j6 P T fn)
 |.seq a b=>codeOk P T fn a && codeOk P T fn b
 |.cond _ a b=>codeOk P T fn a && codeOk P T fn b
 |.block _ c=>codeOk P T fn c
 |.loop c=>codeOk P T fn c
 |.rangeFunc f h a b=>fn == T.lf && (match f with | .tmp s=>T.sl fn s == 1|_=>false) && h.all (λs=>T.sl fn s == 0) && codeOk P T fn a && codeOk P T fn b
 |_=>false
def ix (P:Ad)(T:dq)(fn:Ag):Item->Bool
 |.code c | .inLoop c=>codeOk P T fn c
 |.inBlock _ | .beginRound=>true
 |.inRangeFunc _ | .endRangeFunc _=>fn == T.lf
 |.inRegion a _=>a.all (j6 P T fn)
 |_=>false
def ma (T:dq)(fn:Ag)(tmps:Ak):Prop:=∀s x,tmps[s]?=some x->jd T (T.sl fn s) x
structure df (P:Ad)(T:dq)(l:Loop):Prop where
 fn:l.fn=T.lf
 assign:codeOk P T T.lf l.assign=true
 body:codeOk P T T.lf l.body=true
 iW:∀c,l.pending=some c->codeOk P T T.lf c=true
 fO:ma T T.lf l.tmps
 params:∀s∈l.params,T.sl T.lf s=0
structure TF (P:Ad)(X:Ag->Prop)(T:dq)(fr:Ai):Prop where
 nX:¬X fr.fn
 bd:¬gL P fr.fn
 todo:∀it∈fr.todo,ix P T fr.fn it=true
 fO:ma T fr.fn fr.tmps
 iP:∀d∈fr.defers,∃r,d.target = .collected r
 kind:fr.kind = .normal
 ms:∀l,fr.roundOf=some l->fr.fn=T.lf
def jF (T:dq)(c:Ai):Nat:=match c.todo with
 |.inRegion a (i::_)::_=>match(a[i]?).bind (·.dst)with
  |some d=>T.sl c.fn d
  |none=>0
 |_=>0
def sd (T:dq)(fr c:Ai):Prop:=c.mode = .run/\(jF T c=0\/(jF T c=1/\fr.roundOf=none/\T.fD fr.fn=true))
def TS (P:Ad)(X:Ag->Prop)(T:dq):List Ai->Prop
 |[]=>True
 |fr::cs=>TF P X T fr/\TS P X T cs/\(∀c,cs.head?=some c->sd T fr c)/\(cs=[]->fr.roundOf=none)
section
variable {P:Ad}{F:Array Func}{G0:Base}{Lk:Loop->Prop}{X:Ag->Prop}{T:dq}{fr:Ai}
def ma.set{fn:Ag}{tmps:Ak}(h:ma T fn tmps){d:Nat}{x:D}(f:jd T (T.sl fn d) x):ma T fn (tmps.setIfInBounds d x):=by
 intro s y a;rw[Array.getElem?_setIfInBounds]at a;split at a
 .rename_i e
  subst e;split at a
  .cases a;exact f
  .cases a
 .exact h s y a
def ma.eval{fn:Ag}{tmps:Ak}(h:ma T fn tmps){n s:Nat}(a:T.sl fn s=n):jd T n (tmps.getD s undef):=by
 rw[aU];cases f:tmps[s]? with
 |none=>exact ug T n
 |some x=>exact a ▸ h s x f
def Ar (h:TF P X T fr){x:Ae}(a:wO T fr.fn x=true):jd T 1 (fr.eval x):=by
 unfold wO at a;split at a
 .exact h.fO.eval (by simpa using a)
 .exact .inr (.inl rfl)
 .cases a
def TF.finish(h:TF P X T fr){x:D}(j:jd T (jF T fr) x):TF P X T (fr.finish x):=by
 unfold jF at j;unfold Frame.finish;split
 .rename_i g i rest k e
  rw[e]at j;have o:∀f∈Item.inRegion g rest::k,ix P T fr.fn f=true:=by
   intro f a;rcases bE.1 a with rfl|a
   .exact h.todo (.inRegion g (i::rest)) (by rw[e];exact bi)
   .exact h.todo f (by rw[e];exact aD _ a)
  refine⟨h.nX,h.bd,o,?_,h.iP,h.kind,h.ms⟩;dsimp only at j ⊢;cases r:(g[i]?).bind (·.dst)with
  |none=>exact h.fO
  |some d=>rw[r]at j;exact h.fO.set j
 .rename_i l k e
  refine⟨h.nX,h.bd,λf a=>?_,h.fO,h.iP,h.kind,h.ms⟩;rcases bE.1 a with rfl|a
  .exact h.todo (.inRangeFunc l) (by rw[e];exact bi)
  .exact h.todo f (by rw[e];exact aD _ a)
 .rename_i k e
  exact⟨h.nX,h.bd,λf a=>h.todo f (by rw[e];exact aD _ a),h.fO,h.iP,h.kind,h.ms⟩
 .rename_i d wr y B k e
  have:=h.todo (.call d wr y B) (by rw[e];exact bi);cases this
 .rename_i row args k e
  have:=h.todo (.extern row args) (by rw[e];exact bi);cases this
 .exact h
def sV (fr:Ai)(x:D):(fr.finish x).mode=fr.mode:=by unfold Frame.finish;split<;>rfl
def qJ (fr:Ai)(x:D):(fr.finish x).fn=fr.fn:=by unfold Frame.finish;split<;>rfl
def qK (fr:Ai)(x:D):(fr.finish x).roundOf=fr.roundOf:=by unfold Frame.finish;split<;>rfl
def sd.same {fr a c:Ai}(h:sd T fr c)(h1:a.fn=fr.fn)(f:a.roundOf=fr.roundOf):sd T a c:=by
 refine⟨h.1,h.2.imp id λx=>⟨x.1,?_,?_⟩⟩
 .rw[f];exact x.2.1
 .rw[h1];exact x.2.2
def TS.top {cs:List Ai}{a:Ai}(h:TS P X T (fr::cs))(g:TF P X T a)(h1:a.fn=fr.fn)(f:a.roundOf=fr.roundOf):TS P X T (a::cs):=
 ⟨g,h.2.1,λc j=>(h.2.2.1 c j).same h1 f,λe=>by rw[f];exact h.2.2.2 e⟩
end
section
open Go.Conc
section
variable {P:Ad}{F:Array Func}{G0:Base}{Lk:Loop->Prop}{X:Ag->Prop}{T:dq}{fr:Ai}{S:Nat->Prop}{w v:Z}
def ia {p:Ad}{s:Sem D}{v v':Z}{nx:Next}(h:(do pure (Next.value (<- s)):Sem Next).run p v = .ok nx v'):∃x,nx = .value x:=by
 rw[Sem.run_bind]at h;cases a:s.run p v with
 |halt e z=>rw[a]at h;cases h
 |ok x z=>rw[a]at h;simp only[Result.andThen_ok,Sem.run_pure,Result.ok.injEq]at h;exact⟨x,h.1.symm⟩
def vX {p:Ad}{s:Sem Unit}{v v':Z}{nx:Next}(h:(do s;pure Next.skip:Sem Next).run p v = .ok nx v'):nx = .skip:=by
 rw[Sem.run_bind]at h;cases a:s.run p v with
 |halt e z=>rw[a]at h;cases h
 |ok x z=>rw[a]at h;simp only[Result.andThen_ok,Sem.run_pure,Result.ok.injEq]at h;exact h.1.symm
def D1 (ρ:Ae->D)(r:∀f,ρ (.func f) = .func (.func f) #[] #[])(o:Oper)(hF:uG F o)(h:ig P o.op=true){nx:Next}{v':Z}(g:(Go.execOp ρ o).run (imag P F) v = .ok nx v') :
  (∃x,nx = .value x)\/nx = .skip\/∃c f,o.op = .call c/\c.callee = .value (.func f)/\nx = .enter f (c.args.map ρ):=by
 obtain⟨N,op,C,pos,M,Q⟩:=o;unfold Go.execOp at g;dsimp only at h g ⊢;cases op with
 |move x=>exact .inl (by cases g;exact⟨_,rfl⟩)
 |assign x=>exact .inl (by cases g;exact⟨_,rfl⟩)
 |pick c a b=>
  dsimp only at g;rw[Sem.run_bind]at g;cases l:(Go.asBool (ρ c)).run (imag P F) v with
  |halt e z=>rw[l]at g;cases g
  |ok x z=>rw[l]at g;simp only[Result.andThen_ok,Sem.run_pure,Result.ok.injEq]at g;exact .inl ⟨_,g.1.symm⟩
 |store t a x=>exact .inr (.inl (vX g))
 |mapUpdate t m k x=>exact .inr (.inl (vX g))
 |insert t m k x=>exact .inr (.inl (vX g))
 |nilCheck x=>
  dsimp only at g;refine .inl ?_;split at g
  .exact bx g (by unfold Go.runtimePanic;rintro⟨⟩)
  .exact bx g (by unfold Go.runtimePanic;rintro⟨⟩)
  .exact bx g (by unfold Go.runtimePanic;rintro⟨⟩)
  .split at g
   .exact bx g (by unfold Go.runtimePanic;rintro⟨⟩)
   .rename_i t z _
    change (Go.nilAhead ((imag P F).types.size+Made.depth) t z _ >>= _).run (imag P F) v=_ at g
    rw[Sem.run_bind]at g;cases l:(Go.nilAhead ((imag P F).types.size+Made.depth) t z _).run (imag P F) v with
    |halt e z=>rw[l]at g;cases g
    |ok y z=>
     rw[l,Result.andThen_ok]at g;split at g
     .cases g
     .cases g;exact⟨_,rfl⟩
   .cases g;exact⟨_,rfl⟩
  .cases g;exact⟨_,rfl⟩
 |call c=>
  unfold ig at h;dsimp only at h
  change (Go.resolve ρ c C >>= λd=>Go.invoke d.target d.args).run (imag P F) v=_ at g
  unfold Go.resolve at g;split at h
  .rename_i b j
   rw[j]at g
   change (Go.builtin b c.argTypes C _ (c.args.map ρ)).run (imag P F) v=_ at g
   refine .inl ?_;cases b with
   |append=>exact ia g
   |len=>exact ia g
   |cap=>exact ia g
   |copy=>exact ia g
   |clear=>exact ia g
   |max=>exact ia g
   |min=>exact ia g
   |delete=>exact ia g
   |unsafeString=>exact ia g
   |_=>simp[uh]at h
  .rename_i f j
   rw[j]at g;dsimp only at g;rw[r]at g
   change (Go.callFunc f (#[]++c.args.map ρ++#[])).run (imag P F) v=_ at g
   rw[tX (hF _ f rfl j)]at g;cases B:F[f]? with
   |none=>rw[B]at g;cases g
   |some fn=>rw[B]at g;cases g;exact .inr (.inr ⟨c,f,rfl,j,by simp⟩)
  .cases h
 |makeFunc fn a b=>exact .inl (ia g)
 |_=>first|exact .inl (ia g) | (simp[ig]at h;done)
/-! ### what a step makes of an operation's answer -/
section
variable {p:Ad}{cs:List Ai}{s:Sem Next}{w':Z}{es:Array Event}
def Bn{x:D}(a:fr.kind = .normal)(h:s.runT p w #[]=(.ok (.value x) w',es)):stepG.apply p true fr cs none s w = .go (G (fr.finish x) cs) w' (seen p fr.fn es):=by simp only[stepG.apply,if_true,h,a,G,GStep.after];simp
def uU (a:fr.kind = .normal)(h:s.runT p w #[]=(.ok .skip w',es)):stepG.apply p true fr cs none s w = .go (G (fr.finish undef) cs) w' (seen p fr.fn es):=by simp only[stepG.apply,if_true,h,a,G,GStep.after];simp
def sB {f:Ag}{args:Ak}(a:fr.kind = .normal)(ht:∀d b r z k,fr.todo≠.call d b r z::k)(h:s.runT p w #[]=(.ok (.enter f args) w',es)):stepG.apply p true fr cs none s w = .go (G (Frame.enter p f args .normal) (fr::cs)) w' (seen p fr.fn es):=by
 simp only[stepG.apply,if_true,h,a,G,GStep.after];simp;split
 .rename_i h;exact bx h (ht _ _ _ _ _)
 .rfl
def Bm{l:Nat}{f:Ag}{tmps:Ak}{a b:Code}(g:fr.kind = .normal)(h:s.runT p w #[]=(.ok (.round l f tmps a b) w',es)):stepG.apply p true fr cs none s w = .go (G (Frame.round l f tmps a b .normal) (fr::cs)) w' (seen p fr.fn es):=by simp only[stepG.apply,if_true,h,g,G,GStep.after];simp
def sC{x:D}(a:fr.kind = .normal)(h:s.runT p w #[]=(.halt (.panic x) w',es)):stepG.apply p true fr cs none s w = .go (G (fr.raise [{ v:=x,recovered:=false }]) cs) w' (seen p fr.fn es):=by simp only[stepG.apply,if_true,h,a,G,GStep.after];simp
def py{why:String}(a:fr.kind = .normal)(h:s.runT p w #[]=(.halt (.stuck why) w',es)):∃o es',stepG.apply p true fr cs none s w = .ended o w' es':=by simp only[stepG.apply,if_true,h,a,GStep.after];exact⟨_,_,rfl⟩
def uV{u:Unsupported}(f:∀g,u≠.initOrder g)(a:fr.kind = .normal)(h:s.runT p w #[]=(.halt (.unsupported u) w',es)):∃o es',stepG.apply p true fr cs none s w = .ended o w' es':=by
 cases u with
 |initOrder g=>exact bx rfl (f g)
 |_=>simp only[stepG.apply,if_true,h,a,GStep.after];exact⟨_,_,rfl⟩
end
end
end
section
open Go.Conc
structure Env (P:Ad)(F:Array Func)(X:Ag->Prop)(T:dq)(G0:Base):Prop where
 hb:P.info? bad=none
 hG:P.globals.size<=G0.n
 hF:∀c f n,¬X c->T.ar c f n=true->oZ F f
 hS:∀g,T.jr g=true->oZ F g
 kept:∀f:Ag,¬X f->F[f]?=P.funcs[f]?
 code:∀(f:Ag) fn c,¬X f->P.funcs[f]?=some fn->fn.body=some c->codeOk P T f c=true
 fD:∀(f:Ag) fn,¬X f->T.fD f=true->P.funcs[f]?=some fn->∃r,fn.results=#[.tmp r]/\T.sl f r=1
 jr:∀g,T.jr g=true->¬X g/\T.sl g 0=2/\T.sl g 1=0/\T.fD g=false
 pK:¬X T.lf
 oC:¬gL P T.lf
 oX:∀f,X f->T.fD f=false
section
variable {P:Ad}{F:Array Func}{X:Ag->Prop}{T:dq}{G0:Base}{N:Nat}{S:Nat->Prop}{w v:Z}{fr:Ai}{cs:List Ai}{R1 R2:List Ai}
def uL (G0:Base)(N:Nat)(S:Nat->Prop)(w:Z)(f:GStep)(g':Ah)(v':Z)(c:Nat):Prop:=
 ∃a g,f = .go g' a g/\cM G0 (N-c) S a v'/\w.heap.size<=a.heap.size/\(a.drawn=w.drawn+c/\a.tape=w.tape)/\∀e∈g,fX S a.heap.size e
def GL (P:Ad)(X:Ag->Prop)(T:dq)(G0:Base)(N:Nat)(S:Nat->Prop)(w v:Z)(R2:List Ai)(g:GStep)(v':Z)(a:Ai)(f:List Ai):Prop:=
 ∃c,(v'.drawn=v.drawn+c/\v'.tape=v.tape)/\Ht (df P T) v'/\TS P X T (a::f)/\(a.mode = .run\/a.mode = .returning)/\(c<=N->uL G0 N S w g (G a (f++R2)) v' c)
def Enters (P:Ad)(F:Array Func)(X:Ag->Prop)(T:dq)(G0:Base)(N:Nat)(S:Nat->Prop)(w v:Z)(R2:List Ai)(a:GStep)(v':Z)(fr:Ai)(cs:List Ai)(h:Ai)(g:List Ai):Prop:=
 ∃f args,X f/\h=Frame.enter (imag P F) f args .normal/\g=fr::cs/\jF T fr=0/\T.ar fr.fn f args.size=true/\
  (gL P f\/∃c,(v'.drawn=v.drawn+c/\v'.tape=v.tape)/\Ht (df P T) v'/\(c<=N->uL G0 N S w a (G (Frame.enter P f args .normal) (fr::cs++R2)) v' c))
def kr (P:Ad)(F:Array Func)(X:Ag->Prop)(T:dq)(G0:Base)(N:Nat)(S:Nat->Prop)(w v:Z)(fr:Ai)(cs:List Ai)(R1 R2:List Ai)(f:GStep):GStep->Prop
 |.go l j _=>(∃a g,l=G a (cs++R1)/\a.mode = .panicking g/\a.fn=fr.fn/\Ht (df P T) j/\∀d∈a.defers,∃r,d.target = .collected r)\/∃a h,l=G a (h++R1)/\(GL P X T G0 N S w v R2 f j a h\/Enters P F X T G0 N S w v R2 f j fr cs a h)
 |.ended ..=>True
 |_=>False
def mh {todo:List Item}(g:cM G0 N S w v)(ht:Ht (df P T) v)(a:TS P X T (fr::cs))(hm:fr.mode = .run)(f:∀it∈todo,ix P T fr.fn it=true)
  (h:∀(p:Ad) (cs:List Ai) (w:Z),stepG p true (G fr cs) w = .go (G { fr with todo } cs) w) :
  kr P F X T G0 N S w v fr cs R1 R2 (stepG P true (G fr (cs++R2)) w) (stepG (imag P F) true (G fr (cs++R1)) v):=by
 rw[h,h];exact .inr ⟨_,cs,rfl,.inl ⟨0,⟨rfl,rfl⟩,ht,a.top ⟨a.1.nX,a.1.bd,f,a.1.fO,a.1.iP,a.1.kind,a.1.ms⟩ rfl rfl,.inl hm,λ_=>⟨w,#[],rfl,g,aW _,⟨rfl,rfl⟩,by simp⟩⟩⟩
def eZ {p:Ad}(hm:fr.mode = .run):stepG p true (G fr cs) w=stepG.exec p true true fr cs none w:=by simp only[G,stepG,hm]
def zi {id:Nat}:∀{k k':List Item},exitTo id k=some k'->∀it∈k',it∈k
 |[],_,h=>by cases h
 |it::k,k',h=>by
  intro x a;cases it with
  |inBlock f=>
   unfold exitTo at h;split at h
   .cases h;exact aD _ a
   .exact aD _ (zi h x a)
  |_=>exact aD _ (zi (id:=id) (by simpa [exitTo]using h) x a)
def TF.enter (E:Env P F X T G0){f:Ag}{args:Ak}(y:¬X f)(j:¬gL P f)(M:∀i x,args[i]?=some x->jd T (T.sl f i) x):TF P X T (Frame.enter P f args .normal):=by
 obtain⟨fn,hp,D,_⟩ : ∃ fn,P.funcs[f]? = some fn /\ fn.body.isSome = true /\ fn.name ≠ "runtime.NumGoroutine" := by
  cases hp:P.funcs[f]? with
  |none=>exact bx (λfn h=>by rw[hp]at h;cases h) j
  |some fn=>refine⟨fn,rfl,Classical.byContradiction λQ=>j λC r=>?_⟩;rw[hp]at r;cases r;exact Q
 obtain⟨c,B⟩:=Option.isSome_iff_exists.1 D;refine⟨y,j,λR g=>?_,λs x a=>?_,λd N=>(by simp[Frame.enter]at N),rfl,λl h=>(by simp[Frame.enter]at h)⟩
 .simp only[Frame.enter,hp,Option.bind_some,B,aC,au]at g;subst g;exact E.code f fn c y hp B
 .simp only[Frame.enter]at a;rcases Nat.lt_or_ge s args.size with o|o
  .rw[Array.getElem?_append_left o]at a;exact M s x a
  .rw[Array.getElem?_append_right o,Array.getElem?_replicate]at a;split at a
   .cases a;exact ug T _
   .cases a
def sG (E:Env P F X T G0){f:Ag}(g:oZ F f)(j:¬X f)(l:F[f]?≠none):¬gL P f:=by
 intro h;cases a:F[f]? with
 |none=>exact l a
 |some fn=>exact h fn (by rw[<- E.kept f j];exact a) (g fn a)
def vn (E:Env P F X T G0){f:Ag}(a:¬X f)(args:Ak)(k:CallKind):Frame.enter (imag P F) f args k=Frame.enter P f args k:=by have:(imag P F).funcs[f]?=P.funcs[f]?:=E.kept f a;simp only[Frame.enter,this]
def uc{p:Ad}{ops:Am}{i:Nat}{rest:List Nat}{k:List Item}(hm:fr.mode = .run)(a:fr.todo = .inRegion ops (i::rest)::k)(g:ops[i]?=some o)(j:Region.wanted o (yielded ops fr.tmps)=true)(f:∀c,o.op≠.defer c) :
  stepG p true (G fr cs) w=stepG.apply p true fr cs none (execOp fr.eval o) w:=by
 rw[eZ hm];simp only[stepG.exec,a,g,Option.map_some,j,aC,if_true,stepG.oper,Frame.oper?];split
 .rename_i h;exact bx h (f _)
 .rfl
def En{ops:Am}{i:Nat}{rest:List Nat}{k:List Item}(a:fr.todo = .inRegion ops (i::rest)::k)(f:ops[i]?=some o):jF T fr=match o.dst with
  |some d=>T.sl fr.fn d
  |none=>0:=by
 simp only[jF,a,f,Option.bind_some]
 try(cases o.dst<;>rfl)
def TS.push {a:Ai}(g:TS P X T (fr::cs))(f:TF P X T a)(hp:sd T a fr):TS P X T (a::fr::cs):=
 ⟨f,g,λc h=>by cases h;exact hp,λe=>by cases e⟩
def KQ(E:Env P F X T G0)(hs:cM G0 N S w v)(ht:Ht (df P T) v)(Y:TS P X T (fr::cs))(hm:fr.mode = .run){ops:Am}{i:Nat}{rest:List Nat}{k:List Item}(am:fr.todo = .inRegion ops (i::rest)::k)
  (ho:ops[i]?=some o) (hw:Region.wanted o (yielded ops fr.tmps)=true) (h1:ig P o.op=true) (C:vg T fr.fn o=true) (M:sE T fr.fn o.op=true) :
  kr P F X T G0 N S w v fr cs R1 R2 (stepG P true (G fr (cs++R2)) w) (stepG (imag P F) true (G fr (cs++R1)) v):=by
 have hd:∀c,o.op≠.defer c:=λc h=>by rw[h]at h1;cases h1
 rw[uc hm am ho hw hd,uc hm am ho hw hd];have hk:=Y.1.kind;have a0:∀d b r z k',fr.todo≠.call d b r z::k':=λd b r z k' h=>by rw[am]at h;cases h
 have W:uG F o:=λc f e1 e2=>by refine E.hF fr.fn f c.args.size Y.1.nX ?_;rw[e1]at M;unfold sE at M;dsimp only at M;rw[e2]at M;dsimp only at M;rw[av]at M;exact M.1
 have key:=bT.op (G0:=G0) (Lk:=df P T) E.hb E.hG fr.eval (λ_=>rfl) (λ_=>rfl) o W h1 S N w v #[] hs ht;have eQ:=Sem.runT_eq (imag P F) (execOp fr.eval o) v #[];have a4:=En (T:=T) am ho;cases R:(execOp fr.eval o).run (imag P F) v with
 |halt h v'=>
  rw[R]at key eQ;cases h with
  |panic x=>
   rw[sC hk eQ];refine .inl ⟨_,[{ v:=x,recovered:=false }],rfl,?_,?_,?_,?_⟩
   .simp only[Frame.raise,hm]
   .simp only[Frame.raise,hm]
   .exact key.2
   .simp only[Frame.raise,hm];exact Y.1.iP
  |stuck bf=>
   obtain⟨o',a7,e⟩:=py (cs:=cs++R1) hk eQ;rw[e]
   trivial
  |unsupported u=>
   have hu:∀g,u≠.initOrder g:=λg h=>by subst h;exact key.1.elim
   obtain⟨o',a7,e⟩:=uV (cs:=cs++R1) hu hk eQ;rw[e]
   trivial
  |_=>exact key.1.elim
 |ok nx v'=>
  rw[R]at key eQ;rcases D1 fr.eval (λ_=>rfl) o W h1 R with⟨x,rfl⟩|rfl|⟨c,f,Q,D,rfl⟩
  .rcases key with⟨_,_,e,_⟩|⟨n,hn,t',kk⟩
   .cases e
   have hx:jd T (jF T fr) x:=by
    rw[a4];unfold vg at C;cases Z:o.dst with
    |none=>trivial
    |some d=>
     rw[Z]at C;dsimp only at C ⊢;split at C
     .rename_i e0;rw[e0];trivial
     .rename_i e1
      rw[e1];have U:∀y,(o.op = .move y\/o.op = .assign y)->x=fr.eval y:=by
       intro y B;have e2:(execOp fr.eval o).run (imag P F) v = .ok (.value (fr.eval y)) v:=by unfold execOp;rcases B with B|B<;>rw[B]<;>rfl
       rw[e2]at R;cases R;rfl
      split at C
      .rename_i y B;rw[U y (.inl B)];exact Ar Y.1 C
      .rename_i y B;rw[U y (.inr B)];exact Ar Y.1 C
      .rename_i g a c B
       simp only[av,bD,Array.isEmpty_iff]at C;obtain⟨⟨a8,a9⟩,ba⟩:=C;have e2:(execOp fr.eval o).run (imag P F) v = .ok (.value (.func (.func g) (a.map fr.eval) (c.map fr.eval))) v:=by
        unfold execOp;rw[B]
        rfl
       rw[e2]at R;cases R;refine .inr (.inr ?_);have one:∀z:Array Ae,z.size=1->∃y,z.map fr.eval=#[y]:=by
        rintro⟨l⟩ h
        match l,h with
        |[a],_=>exact⟨fr.eval a,by simp⟩
       obtain⟨y,be⟩:=one c ba;exact⟨g,y,by rw[a9,be];simp,a8⟩
      .rename_i c B
       exfalso
       split at C
       .rename_i g hg
        rcases D1 fr.eval (λ_=>rfl) o W h1 R with _|h|⟨c',f',e1,e2,e3⟩
        .have e2:(execOp fr.eval o).run (imag P F) v=(Go.callFunc g (#[]++c.args.map fr.eval++#[])).run (imag P F) v:=by
          unfold execOp;rw[B];dsimp only;unfold resolve;rw[hg]
          rfl
         rw[e2,tX (W _ g B hg)]at R;cases hf:F[g]? with
         |none=>rw[hf]at R;cases R
         |some _=>rw[hf]at R;cases R
        .cases h
        .cases e3
       .cases C
      .cases C
     .rename_i n0 n1
      have U:∀y,(o.op = .move y\/o.op = .assign y)->x=fr.eval y:=by
       intro y B;have e2:(execOp fr.eval o).run (imag P F) v = .ok (.value (fr.eval y)) v:=by unfold execOp;rcases B with B|B<;>rw[B]<;>rfl
       rw[e2]at R;cases R;rfl
      split at C
      .rename_i s B;rw[U _ (.inl B)];exact Y.1.fO.eval (by simpa using C)
      .rename_i s B;rw[U _ (.inr B)];exact Y.1.fO.eval (by simpa using C)
      .cases C
   rw[Bn hk eQ];refine .inr ⟨_,cs,rfl,.inl ⟨n,hn,t',Y.top (Y.1.finish hx) (qJ _ _) (qK _ _),.inl (by rw[sV];exact hm),λhN=>?_⟩⟩;obtain⟨w',a1,e,s',z,d,ev⟩:=kk hN;exact⟨w',_,Bn hk (by rw[e,Array.empty_append]),s',z,d,λy B=>ev y (mem_seen B)⟩
  .rcases key with⟨_,_,e,_⟩|⟨n,hn,t',kk⟩
   .cases e
   rw[uU hk eQ];refine .inr ⟨_,cs,rfl,.inl ⟨n,hn,t',Y.top (Y.1.finish (ug T _)) (qJ _ _) (qK _ _),.inl (by rw[sV];exact hm),λhN=>?_⟩⟩;obtain⟨w',a1,e,s',z,d,ev⟩:=kk hN;exact⟨w',_,uU hk (by rw[e,Array.empty_append]),s',z,d,λy B=>ev y (mem_seen B)⟩
  .rw[sB hk a0 eQ];have ad:jF T fr=0\/(jF T fr=1/\T.fD f=true):=by
    rw[a4];unfold vg at C;cases Z:o.dst with
    |none=>exact .inl rfl
    |some d=>
     rw[Z]at C;dsimp only at C ⊢;split at C
     .rename_i e0;exact .inl e0
     .rename_i e1
      rw[Q]at C;dsimp only at C;rw[D]at C;exact .inr ⟨e1,C⟩
     .rw[Q]at C;cases C
   have an:∀i x,(c.args.map fr.eval)[i]?=some x->jd T (T.sl f i) x:=by
    intro j x hx;rw[Array.getElem?_map]at hx;obtain⟨y,B,rfl⟩:=aB.1 hx;rw[Q]at M;unfold sE at M;dsimp only at M;rw[D]at M;dsimp only at M;rw[av]at M;have hj:=List.all_eq_true.1 M.2 j (List.mem_range.2 (aO.1 B).1);split at hj
    .rename_i e0;rw[e0];trivial
    .rename_i e1
     rw[e1];rw[B]at hj;exact Ar Y.1 hj
    .cases hj
   have bb:T.ar fr.fn f (c.args.map fr.eval).size=true:=by rw[Q]at M;unfold sE at M;dsimp only at M;rw[D]at M;dsimp only at M;rw[av]at M;rw[Array.size_map];exact M.1
   have a3:F[f]?≠none:=by
    intro hn;have e2:(execOp fr.eval o).run (imag P F) v=(Go.callFunc f (#[]++c.args.map fr.eval++#[])).run (imag P F) v:=by
     unfold execOp;rw[Q];dsimp only;unfold resolve;rw[D]
     rfl
    rw[e2,tX (W _ f Q D),hn]at R;cases R
   by_cases hX:X f
   .refine .inr ⟨_,fr::cs,rfl,.inr ⟨f,_,hX,rfl,rfl,?_,bb,?_⟩⟩
    .rcases ad with h|⟨_,h⟩
     .exact h
     .rw[E.oX f hX]at h;cases h
    .rcases key with⟨f',a',e,hB⟩|⟨n,hn,t',kk⟩
     .cases e;exact .inl hB
     .refine .inr ⟨n,hn,t',λhN=>?_⟩;obtain⟨w',a1,e,s',z,d,ev⟩:=kk hN;exact⟨w',_,sB hk a0 (by rw[e,Array.empty_append]),s',z,d,λy B=>ev y (mem_seen B)⟩
   .rcases key with⟨f',a',e,hB⟩|⟨n,hn,t',kk⟩
    .cases e;exact bx hB (sG E (W _ f Q D) hX a3)
    .rw[vn E hX];refine .inr ⟨_,fr::cs,rfl,.inl ⟨n,hn,t',Y.push (TF.enter E hX (sG E (W _ f Q D) hX a3) an) ⟨hm,ad.imp id λh=>⟨h.1,rfl,h.2⟩⟩,.inl rfl,λhN=>?_⟩⟩;obtain⟨w',a1,e,s',z,d,ev⟩:=kk hN;exact⟨w',_,sB hk a0 (by rw[e,Array.empty_append]),s',z,d,λy B=>ev y (mem_seen B)⟩
end
end
section
open Go.Conc
section
variable {P:Ad}{F:Array Func}{G0:Base}{N:Nat}{Lk:Loop->Prop}{α β:Type}{E:α->Prop}{S:Nat->Prop}{w v:Z}
def bT.getLoop (l:Nat){f:Loop->Sem α}(h:∀r,Lk r->bT P F G0 Lk E (f r)):bT P F G0 Lk E (Instr.getLoop l >>= f):=by
 intro S N w v g j ht;have e1:∀p (u:Z) r,u.heap[l]?=some (.loop r)->(Instr.getLoop l >>= f).run p u=(f r).run p u:=by
  intro p u r y;show(Sem.getObj l _).run p u=_;simp only[Sem.run,y]
  rfl
 have e2:∀(u:Z) r,u.heap[l]?=some (.loop r)->(Instr.getLoop l >>= f).runT P u g=(f r).runT P u (g.push ⟨.obj l,false,false⟩):=by
  intro u r y;show(Sem.getObj l _).runT P u g=_;simp only[Sem.runT,y]
  rfl
 cases hv:v.heap[l]? with
 |none=>
  have : (Instr.getLoop l >>= f).run (imag P F) v = .halt (.stuck "getObj: no such block") v := by
   show(Sem.getObj l _).run (imag P F) v=_;simp only[Sem.run,hv]
  rw[this];exact⟨trivial,ht⟩
 |some o=>
  cases o with
  |loop r=>
   have hS:¬S l:=by intro h;obtain⟨fz,e⟩:=j.hole l h;rw[e]at hv;cases hv
   have C:w.heap[l]?=some (.loop r):=by rw[<- (j.same l hS).eq λ_ _ e=>(by rw[hv]at e;cases e)];exact hv
   have key:=h r (ht.loop l r hv) S N w v (g.push ⟨.obj l,false,false⟩) j ht;rw[e1 _ v r hv]
   revert key
   cases(f r).run (imag P F) v with
   |halt h _=>exact id
   |ok a v'=>
    refineλkey=>key.imp id λ⟨n,Q,Y,R⟩=>⟨n,Q,Y,λD=>?_⟩
    obtain⟨w',B,U,W,r4,r5,r6⟩:=R D;refine⟨w',#[⟨.obj l,false,false⟩]++B,?_,W,r4,r5,λe M=>?_⟩
    .rw[e2 w r C,U,Array.push_eq_append,Array.append_assoc]
    .rcases Array.mem_append.1 M with h|h
     .simp only[aL,au]at h;subst h;exact aR (aO.1 C).1 r4
     .exact r6 e h
  |cells c e z=>
   have : (Instr.getLoop l >>= f).run (imag P F) v = .halt (.stuck "getObj: a row of cells") v := by
    show(Sem.getObj l _).run (imag P F) v=_;simp only[Sem.run,hv]
   rw[this];exact⟨trivial,ht⟩
  |_=>
   have : (Instr.getLoop l >>= f).run (imag P F) v = .halt (.stuck "range over a function: no such loop") v := by
    show(Sem.getObj l _).run (imag P F) v=_;simp only[Sem.run,hv]
    rfl
   rw[this];exact⟨trivial,ht⟩
def Tame.beginRound (a:∀r s,Lk r->Lk { r with state:=s })(l:Nat):Tame P F G0 Lk (Instr.beginRound l):=by
 unfold Instr.beginRound;refine bT.getLoop l λr f=>bT.bd (.setObj _ (a r _ f)) λ_=>?_;split
 .exact .pure _
 all_goals exact .runtimePanic _
def Tame.endRound(l:Nat){jump:Option Code}(a:∀r s,Lk r->Lk { r with state:=s,pending:=jump }):Tame P F G0 Lk (Instr.endRound l jump):=by unfold Instr.endRound;exact bT.getLoop l λr f=>bT.bd (.setObj _ (a r _ f)) λ_=>.pure _
def Tame.endLoop (a:∀r s,Lk r->Lk { r with state:=s })(l:Nat):Tame P F G0 Lk (Instr.endLoop l):=by
 unfold Instr.endLoop;refine bT.getLoop l λr f=>?_;split
 .intro S N w v g h ht;exact⟨trivial,ht⟩
 .exact bT.bd (.setObj _ (a r _ f)) λ_=>.pure _
def Tame.yield (l:Nat)(args:Ak):Tame P F G0 Lk (Instr.yield l args):=by
 unfold Instr.yield;refine bT.getLoop l λr f=>?_;split
 .intro S N w v a g ht;exact⟨trivial,ht⟩
 .exact .pure _
def run_getLoop {p:Ad}{l:Nat}{f:Loop->Sem α}{a:α}{v':Z}(h:(Instr.getLoop l >>= f).run p v = .ok a v'):∃r,v.heap[l]?=some (.loop r)/\(f r).run p v = .ok a v':=by
 cases hv:v.heap[l]? with
 |none=>
  have : (Instr.getLoop l >>= f).run p v = .halt (.stuck "getObj: no such block") v := by
   show(Sem.getObj l _).run p v=_;simp only[Sem.run,hv]
  rw[this]at h;cases h
 |some o=>
  cases o with
  |loop r=>
   refine⟨r,rfl,?_⟩;rw[<- h];show _=(Sem.getObj l _).run p v;simp only[Sem.run,hv]
   rfl
  |cells c e z=>
   have : (Instr.getLoop l >>= f).run p v = .halt (.stuck "getObj: a row of cells") v := by
    show(Sem.getObj l _).run p v=_;simp only[Sem.run,hv]
   rw[this]at h;cases h
  |_=>
   have : (Instr.getLoop l >>= f).run p v = .halt (.stuck "range over a function: no such loop") v := by
    show(Sem.getObj l _).run p v=_;simp only[Sem.run,hv]
    rfl
   rw[this]at h;cases h
def Sc{p:Ad}(ht:Ht Lk v){l:Nat}{args:Ak}{v':Z}(h:(Instr.yield l args).run p v = .ok f v') :
  ∃r,Lk r/\f = .round l r.fn ((r.params.zip args).foldl (λtmps (t,a)=>tmps.setIfInBounds t a) r.tmps) r.assign r.body:=by
 unfold Instr.yield at h;obtain⟨r,g,h⟩:=run_getLoop h;refine⟨r,ht.loop l r g,?_⟩;split at h
 .cases h
 .cases h;rfl
def JS{p:Ad}(ht:Ht Lk v){l:Nat}{j:Option Code}{v':Z}(h:(Instr.endLoop l).run p v = .ok j v'):∃r,Lk r/\j=r.pending:=by
 unfold Instr.endLoop at h;obtain⟨r,f,h⟩:=run_getLoop h;refine⟨r,ht.loop l r f,?_⟩;split at h
 .cases h
 .rw[Sem.run_bind]at h;cases a:(Go.setObj l (.loop { r with state:=.exhausted })).run p v with
  |halt e z=>rw[a]at h;cases h
  |ok y z=>rw[a]at h;cases h;rfl
def Tame.takeDeferred (b:Nat):Tame P F G0 Lk (Instr.takeDeferred b):=by
 unfold Instr.takeDeferred;refine bT.getObj (λ_ _ _ _=>rfl) λo=>?_;split
 .exact bT.bd (.setObj _ trivial) λ_=>.pure _
 .exact .stuck _
def FI{p:Ad}(ht:Ht Lk v){b:Nat}{ds:List Deferred}{v':Z}(h:(Instr.takeDeferred b).run p v = .ok ds v'):ds=[]:=by
 unfold Instr.takeDeferred at h;rw[Sem.run_bind]at h;cases hv:v.heap[b]? with
 |none=>
  have e : (Go.getObj b).run p v = .halt (.stuck "getObj: no such block") v := by simp only [Go.getObj,Sem.run,hv]
  rw[e]at h;cases h
 |some o=>
  cases o with
  |cells c e z=>
   have e : (Go.getObj b).run p v = .halt (.stuck "getObj: a row of cells") v := by simp only [Go.getObj,Sem.run,hv]
   rw[e]at h;cases h
  |deferred a=>
   have e:(Go.getObj b).run p v = .ok (.deferred a) v:=by simp only[Go.getObj,Sem.run,hv]
   rw[e,Result.andThen_ok]at h;cases a with
   |none=>cases h
   |some x=>
    dsimp only at h;rw[Sem.run_bind]at h;cases f:(Go.setObj b (.deferred none)).run p v with
    |halt e z=>rw[f]at h;cases h
    |ok y z=>rw[f]at h;cases h;exact ht.kR b _ hv
  |_=>
   rename_i l
   have e:∀o,v.heap[b]?=some o->(∀c e z,o≠.cells c e z)->(Go.getObj b).run p v = .ok o v:=by intro o j g;cases o<;>first|exact bx rfl (g _ _ _)|simp only[Go.getObj,Sem.run,j]
   rw[e _ hv (by intros;simp)]at h;cases h
end
end
section
open Go.Conc
section
variable {P:Ad}{F:Array Func}{G0:Base}{N:Nat}{Lk:Loop->Prop}{S:Nat->Prop}{w v:Z}
def Tame.enterLoop{fn:Ag}{tmps:Ak}{params:Array Tmp}{assign body:Code}(a:Option Nat)(f:∀d,Lk { state:=.ready,pending:=none,fn,tmps,params,assign,body,defers:=d }):Tame P F G0 Lk (Instr.enterLoop fn tmps params assign body a):=by
 unfold Instr.enterLoop;dsimp only;split
 .exact bT.getLoop _ λr g=>bT.bd (.pure _) λx=>bT.bd (.newObj (f _)) λ_=>.pure _
 .exact bT.bd (.newObj rfl) λx=>bT.bd (.pure _) λx=>bT.bd (.newObj (f _)) λ_=>.pure _
def JW{p:Ad}{fn:Ag}{tmps:Ak}{params:Array Tmp}{assign body:Code}{a:Option Nat}{r:Nat × List Deferred}{v':Z}(h:(Instr.enterLoop fn tmps params assign body a).run p v = .ok r v'):∀d∈r.2,∃b,d.target = .collected b:=by
 unfold Instr.enterLoop at h;dsimp only at h;split at h
 .obtain⟨l,_,h⟩:=run_getLoop h;cases h;simp
 .cases h;simp
def Tame.results (hb:P.info? bad=none)(fn:Func)(tmps:Ak):Tame P F G0 Lk (Go.results fn tmps):=by
 unfold Go.results;refine bT.bd (Tame.Du _ (λr=>?_) _) λ_=>.pure _
 split
 .exact .pure _
 .exact bT.bd (Tame.asAddr _) λ_=>Tame.loadVar hb _ _
def fo{p:Ad}{fn:Func}{tmps:Ak}{r:Tmp}(a:fn.results=#[.tmp r])(v:Z):(Go.results fn tmps).run p v = .ok (tmps.getD r undef) v:=by
 unfold Go.results;rw[a,aF]
 rfl
end
section
variable {P:Ad}{F:Array Func}{X:Ag->Prop}{T:dq}{G0:Base}{N:Nat}{S:Nat->Prop}{w v:Z}{fr:Ai}{cs:List Ai}{R1 R2:List Ai}
def Dt{r:Loop}{s:LoopState}(h:df P T r):df P T { r with state:=s }:=⟨h.fn,h.assign,h.body,h.iW,h.fO,h.params⟩
def Ml{r:Loop}{s:LoopState}{j:Option Code}(h:df P T r)(a:∀c,j=some c->codeOk P T T.lf c=true):df P T { r with state:=s,pending:=j }:=⟨h.fn,h.assign,h.body,a,h.fO,h.params⟩
def CK{v':Z}{n:Nat}(l:v'.drawn=v.drawn+n/\v'.tape=v.tape)(ht:Ht (df P T) v'){c:Ai}{rest:List Ai}(g:TS P X T (fr::c::rest)){x:D}(r:jF T c=1->jd T 1 x){a:GStep}{f:Array Event}
  (o:n<=N->uL G0 N S w a (G (c.finish x) (rest++R2)) v' n) :
  kr P F X T G0 N S w v fr (c::rest) R1 R2 a (.go (G (c.finish x) (rest++R1)) v' f):=by
 have hp:=g.2.2.1 c rfl;have j:jd T (jF T c) x:=by
  rcases hp.2 with h|⟨h,_⟩
  .rw[h];trivial
  .rw[h];exact r h
 exact .inr ⟨_,rest,rfl,.inl ⟨n,l,ht,TS.top g.2.1 (g.2.1.1.finish j) (qJ _ _) (qK _ _),.inl (by rw[sV];exact hp.1),o⟩⟩
section
variable {p:Ad}{b:Nat}{ds calls:List Deferred}{ar:Ak}{w':Z}{es:Array Event}
def AP (a:fr.defers={ target:=.collected b,args:=ar }::ds)(h:(Instr.takeDeferred b).runT p w #[]=(.ok calls w',es)):unwind p true fr cs none w = .go (G { fr with defers:=calls++ds } cs) w' (seen p fr.fn es):=by unfold unwind;simp only[a,h,G,GStep.after,Array.append_empty]
def F5(a:fr.defers={ target:=.collected b,args:=ar }::ds)(h:(Instr.takeDeferred b).runT p w #[]=(.halt e w',es)):∃o es',unwind p true fr cs none w = .ended o w' es':=by unfold unwind;simp only[a,h,GStep.after];exact⟨_,_,rfl⟩
def AO{fn:Func}{c:Ai}{x:D}(g:fr.kind = .normal)(hm:fr.mode = .returning)(a:fr.defers=[])(f:p.funcs[fr.fn]?=some fn)(h:(Go.results fn fr.tmps).runT p w #[]=(.ok x w',es)):unwind p true fr (c::cs) none w = .go (G (c.finish x) cs) w' (seen p fr.fn es):=by unfold unwind;simp only[a,hm,f,h,doReturn,g,G,GStep.after,Array.append_empty]
def F4{fn:Func}(hm:fr.mode = .returning)(a:fr.defers=[])(f:p.funcs[fr.fn]?=some fn)(h:(Go.results fn fr.tmps).runT p w #[]=(.halt e w',es)):∃o es',unwind p true fr cs none w = .ended o w' es':=by unfold unwind;simp only[a,hm,f,h];cases e<;>exact⟨_,_,rfl⟩
end
def KT (E:Env P F X T G0)(hs:cM G0 N S w v)(ht:Ht (df P T) v)(a:TS P X T (fr::cs))(hm:fr.mode = .returning)(l:cs≠[]\/fr.defers≠[]) :
  kr P F X T G0 N S w v fr cs R1 R2 (stepG P true (G fr (cs++R2)) w) (stepG (imag P F) true (G fr (cs++R1)) v):=by
 have e1:∀(p:Ad) (cs:List Ai) (w:Z),stepG p true (G fr cs) w=unwind p true fr cs none w:=λp cs w=>by simp only[G,stepG,hm]
 rw[e1,e1];cases g:fr.defers with
 |cons d ds=>
  obtain⟨b,hb⟩:=a.1.iP d (by rw[g];exact bi);obtain⟨tg,ar⟩:=d;simp only at hb;subst hb;have key:=Tame.takeDeferred (P:=P) (F:=F) (G0:=G0) (Lk:=df P T) b S N w v #[] hs ht;have f:=Sem.runT_eq (imag P F) (Instr.takeDeferred b) v #[];cases j:(Instr.takeDeferred b).run (imag P F) v with
  |halt h v'=>rw[j]at f;obtain⟨o,B,e⟩:=F5 (cs:=cs++R1) g f;rw[e];trivial
  |ok calls v'=>rw[j]at key f;obtain⟨n,U,t',kk⟩:=key.resolve_left id;obtain rfl:=FI ht j;rw[AP g f];refine .inr ⟨_,cs,rfl,.inl ⟨n,U,t',a.top ⟨a.1.nX,a.1.bd,a.1.todo,a.1.fO,λd' Q=>a.1.iP d' (by rw[g];exact aD _ (by simpa using Q)),a.1.kind,a.1.ms⟩ rfl rfl,.inr hm,λD=>?_⟩⟩;obtain⟨w',ad,r1,s',z,d,C⟩:=kk D;exact⟨w',_,AP g (by rw[r1,Array.empty_append]),s',z,d,λe R=>C e (mem_seen R)⟩
 |nil=>
  have M:cs≠[]:=l.resolve_right λh=>h g
  obtain⟨c,rest,rfl⟩:=List.exists_cons_of_ne_nil M;obtain⟨fn,hp⟩:∃fn,P.funcs[fr.fn]?=some fn:=by
   cases hp:P.funcs[fr.fn]? with
   |none=>exact bx (λfn h=>by rw[hp]at h;cases h) a.1.bd
   |some fn=>exact⟨fn,rfl⟩
  have hq:(imag P F).funcs[fr.fn]?=some fn:=by rw[<- hp];exact E.kept _ a.1.nX
  have key:=Tame.results (P:=P) (F:=F) (G0:=G0) (Lk:=df P T) E.hb fn fr.tmps S N w v #[] hs ht;have f:=Sem.runT_eq (imag P F) (Go.results fn fr.tmps) v #[];cases j:(Go.results fn fr.tmps).run (imag P F) v with
  |halt h v'=>rw[j]at f;obtain⟨o,B,e⟩:=F4 (cs:=c::rest++R1) hm g hq f;rw[e];trivial
  |ok x v'=>
   rw[j]at key f;obtain⟨n,U,t',kk⟩:=key.resolve_left id;rw[List.cons_append,List.cons_append,AO a.1.kind hm g hq f];refine CK U t' a (λy=>?_) λD=>(by obtain⟨w',ad,r1,s',z,d,C⟩:=kk D;exact⟨w',_,AO a.1.kind hm g hp (by rw[r1,Array.empty_append]),s',z,d,λe R=>C e (mem_seen R)⟩)
   rcases(a.2.2.1 c rfl).2 with h|⟨_,h1,h2⟩
   .rw[h]at y;cases y
   .obtain⟨r,W,Y⟩:=E.fD fr.fn fn a.1.nX h2 hp;rw[fo W]at j;cases j;exact a.1.fO.eval Y
end
end
section
open Go.Conc
section
variable {P:Ad}{F:Array Func}{X:Ag->Prop}{T:dq}{G0:Base}{N:Nat}{S:Nat->Prop}{w v:Z}{fr:Ai}{cs:List Ai}{R1 R2:List Ai}
section
variable {p:Ad}{l:Nat}{j:Option Code}{x:D}{w':Z}{es:Array Event}
def sa (fr:Ai)(j:Option Code):Prop:=(fr.todo=[]/\j=none)\/(∃k,fr.todo = .code .ret::k/\j=some .ret)\/∃id k,fr.todo = .code (.exit id)::k/\exitTo id k=none/\j=some (.exit id)
def L0 (hm:fr.mode = .run)(h:sa fr j)(a:fr.roundOf=none):(stepG p true (G fr cs) w = .go (G { fr with mode:=.returning } cs) w)\/∃o,stepG p true (G fr cs) w = .ended o w:=by
 rw[eZ hm];rcases h with⟨h,rfl⟩|⟨k,h,rfl⟩|⟨id,k,h,f,rfl⟩
 .left;simp only[stepG.exec,h,a];rfl
 .left;simp only[stepG.exec,h,a];rfl
 .right;simp only[stepG.exec,h,a,f];exact⟨_,rfl⟩
def L5 {p r:Ad}{cs a:List Ai}{w w':Z}(hm:fr.mode = .run)(h:sa fr j)(l:fr.roundOf=none)(f:∃g u es,stepG p true (G fr cs) w = .go g u es):stepG r true (G fr a) w' = .go (G { fr with mode:=.returning } a) w':=by
 obtain⟨g,u,es,f⟩:=f;rw[eZ hm]at f ⊢;rcases h with⟨h,rfl⟩|⟨k,h,rfl⟩|⟨id,k,h,o,rfl⟩
 .simp only[stepG.exec,h,l];rfl
 .simp only[stepG.exec,h,l];rfl
 .simp only[stepG.exec,h,l,o]at f;cases f
def Dj {c:Ai}(a:fr.kind = .normal)(hm:fr.mode = .run)(h:sa fr j)(f:fr.roundOf=some l)(g:(Instr.endRound l j).runT p w #[]=(.ok x w',es)):stepG p true (G fr (c::cs)) w = .go (G (c.finish x) cs) w' (seen p fr.fn es):=by
 rw[eZ hm];rcases h with⟨h,rfl⟩|⟨k,h,rfl⟩|⟨id,k,h,o,rfl⟩
 .simp only[stepG.exec,h,f,g,doReturn,a,G,GStep.after,Array.append_empty]
 .simp only[stepG.exec,h,f,g,doReturn,a,G,GStep.after,Array.append_empty]
 .simp only[stepG.exec,h,f,o,Option.elim_none,g,doReturn,a,G,GStep.after,Array.append_empty]
def L6(hm:fr.mode = .run)(h:sa fr j)(a:fr.roundOf=some l)(f:(Instr.endRound l j).runT p w #[]=(.halt e w',es)):∃o es',stepG p true (G fr cs) w = .ended o w' es':=by
 rw[eZ hm];rcases h with⟨h,rfl⟩|⟨k,h,rfl⟩|⟨id,k,h,g,rfl⟩
 .simp only[stepG.exec,h,a,f,GStep.after];exact⟨_,_,rfl⟩
 .simp only[stepG.exec,h,a,f,GStep.after];exact⟨_,_,rfl⟩
 .simp only[stepG.exec,h,a,g,Option.elim_none,f,GStep.after];exact⟨_,_,rfl⟩
end
def yL (D:cM G0 N S w v)(ht:Ht (df P T) v)(a:TS P X T (fr::cs))(hm:fr.mode = .run){j:Option Code}(h:sa fr j) :
  kr P F X T G0 N S w v fr cs R1 R2 (stepG P true (G fr (cs++R2)) w) (stepG (imag P F) true (G fr (cs++R1)) v):=by
 cases f:fr.roundOf with
 |none=>
  rcases L0 (p:=imag P F) (cs:=cs++R1) (w:=v) hm h f with e|⟨o,e⟩
  .rw[e,L5 (p:=imag P F) (cs:=cs++R1) (w:=v) hm h f ⟨_,_,_,e⟩];exact .inr ⟨_,cs,rfl,.inl ⟨0,⟨rfl,rfl⟩,ht,a.top ⟨a.1.nX,a.1.bd,a.1.todo,a.1.fO,a.1.iP,a.1.kind,a.1.ms⟩ rfl rfl,.inr rfl,λ_=>⟨w,#[],rfl,D,aW _,⟨rfl,rfl⟩,by simp⟩⟩⟩
  .rw[e];trivial
 |some l=>
  have B:cs≠[]:=λe=>by rw[a.2.2.2 e]at f;cases f
  obtain⟨c,rest,rfl⟩:=List.exists_cons_of_ne_nil B;have Y:∀c,j=some c->codeOk P T T.lf c=true:=by rintro c rfl;rcases h with⟨_,h⟩|⟨_,_,h⟩|⟨_,_,_,_,h⟩<;>cases h<;>rfl
  have key:=Tame.endRound (P:=P) (F:=F) (G0:=G0) (Lk:=df P T) l (jump:=j) (λr s f=>Ml f Y) S N w v #[] D ht;have y:=Sem.runT_eq (imag P F) (Instr.endRound l j) v #[];cases M:(Instr.endRound l j).run (imag P F) v with
  |halt e v'=>rw[M]at y;obtain⟨o,Q,e⟩:=L6 (cs:=c::rest++R1) hm h f y;rw[e];trivial
  |ok x v'=>
   rw[M]at key y;obtain⟨n,Z,t',kk⟩:=key.resolve_left id;rw[List.cons_append,List.cons_append,Dj a.1.kind hm h f y];refine CK Z t' a (λg=>?_) λU=>(by obtain⟨w',ad,r1,s',z,d,R⟩:=kk U;exact⟨w',_,Dj a.1.kind hm h f (by rw[r1,Array.empty_append]),s',z,d,λe W=>R e (mem_seen W)⟩)
   rcases(a.2.2.1 c rfl).2 with h|⟨_,C,h2⟩
   .rw[h]at g;cases g
   .rw[f]at C;cases C
def KN(E:Env P F X T G0)(hs:cM G0 N S w v)(ht:Ht (df P T) v)(hT:TS P X T (fr::cs))(hm:fr.mode = .run){ops:Am}{i:Nat}{rest:List Nat}{k:List Item}(M:fr.todo = .inRegion ops (i::rest)::k)
  (ho:ops[i]?=some o) (hw:Region.wanted o (yielded ops fr.tmps)=true) (a:yo T fr.fn o=true) :
  kr P F X T G0 N S w v fr cs R1 R2 (stepG P true (G fr (cs++R2)) w) (stepG (imag P F) true (G fr (cs++R1)) v):=by
 unfold yo at a;split at a
 .rename_i c B
  split at a
  .rename_i s W
   simp only[av,bD]at a;have hd:∀c,o.op≠.defer c:=λc h=>by rw[h]at B;cases B
   rw[uc hm M ho hw hd,uc hm M ho hw hd];have R:=hT.1.kind;have ad:jF T fr=0:=by
    rw[En M ho];cases Y:o.dst with
    |none=>rfl
    |some d=>rw[Y]at a;simpa using a.2
   have ex:execOp fr.eval o=(Deferred.ofValue (fr.eval (.tmp s)) (c.args.map fr.eval) >>= λd=>invoke d.target d.args):=by unfold execOp;rw[B];dsimp only;unfold resolve;rw[W]
   have j:=hT.1.fO.eval a.1;rw[ex]
   change jd T 2 (fr.eval (.tmp s))at j
   rcases j with hu|⟨l,hl⟩
   .rw[hu];obtain⟨o',U,e⟩ := py (p := imag P F) (cs := cs ++ R1) (w := v) (w' := v) (es := #[]) (why := "call: function value expected") (s := Deferred.ofValue undef (c.args.map fr.eval) >>= fun d => invoke d.target d.args) R rfl
    rw[e];trivial
   .rw[hl]
    change kr P F X T G0 N S w v fr cs R1 R2 (stepG.apply P true fr (cs++R2) none (Instr.yield l (#[]++c.args.map fr.eval)) w) (stepG.apply (imag P F) true fr (cs++R1) none (Instr.yield l (#[]++c.args.map fr.eval)) v)
    generalize #[]++c.args.map fr.eval=ar;have key:=Tame.yield (P:=P) (F:=F) (G0:=G0) (Lk:=df P T) l ar S N w v #[] hs ht;have Q:=Sem.runT_eq (imag P F) (Instr.yield l ar) v #[];cases hr:(Instr.yield l ar).run (imag P F) v with
    |halt h v'=>
     rw[hr]at key Q;cases h with
     |panic x=>
      rw[sC R Q];refine .inl ⟨_,[{ v:=x,recovered:=false }],rfl,?_,?_,?_,?_⟩
      .simp only[Frame.raise,hm]
      .simp only[Frame.raise,hm]
      .exact key.2
      .simp only[Frame.raise,hm];exact hT.1.iP
     |stuck why=>
      obtain⟨o',U,e⟩:=py (cs:=cs++R1) R Q;rw[e]
      trivial
     |unsupported u=>
      have hu:∀g,u≠.initOrder g:=λg h=>by subst h;exact key.1.elim
      obtain⟨o',U,e⟩:=uV (cs:=cs++R1) hu R Q;rw[e]
      trivial
     |_=>exact key.1.elim
    |ok nx v'=>
     rw[hr]at key Q;obtain⟨r,f,rfl⟩:=Sc ht hr;obtain⟨n,hn,t',kk⟩:=key.resolve_left id;rw[Bm R Q];have C:∀(l:List (Tmp × D)) (tm:Ak),(∀q∈l,T.sl T.lf q.1=0)->ma T T.lf tm->ma T T.lf (l.foldl (λtmps (q:Tmp × D)=>tmps.setIfInBounds q.1 q.2) tm):=by
      intro l
      induction l with
      |nil=>exactλ_ _ h=>h
      |cons q l ih=>intro tm hq h;exact ih _ (λy hy=>hq y (aD _ hy)) (h.set (by rw[hq q bi];trivial))
     refine .inr ⟨_,fr::cs,rfl,.inl ⟨n,hn,t',hT.push ⟨?_,?_,?_,?_,?_,rfl,?_⟩ ⟨hm,.inl ad⟩,.inl rfl,λhN=>(by obtain⟨w',am,r1,s',z,d,ev⟩:=kk hN;exact⟨w',_,Bm R (by rw[r1,Array.empty_append]),s',z,d,λe he=>ev e (mem_seen he)⟩)⟩⟩
     .show ¬X r.fn;rw[f.fn];exact E.pK
     .show ¬gL P r.fn;rw[f.fn];exact E.oC
     .intro it Z;simp only[Frame.round,bE,List.not_mem_nil,or_false]at Z;show ix P T r.fn it=true;rw[f.fn];rcases Z with rfl|rfl|rfl
      .exact f.assign
      .rfl
      .exact f.body
     .show ma T r.fn _;rw[f.fn];simp only[Frame.round];rw[<- Array.foldl_toList];refine C _ _ (λq hq=>?_) f.fO;have:q.1∈r.params:=by rw[Array.toList_zip]at hq;exact Array.mem_toList_iff.1 (List.of_mem_zip hq).1
      exact f.params _ this
     .intro d hd;simp[Frame.round]at hd
     .intro l' _;exact f.fn
  .cases a
 .cases a
end
end
section
open Go.Conc
section
variable {P:Ad}{F:Array Func}{X:Ag->Prop}{T:dq}{G0:Base}{N:Nat}{S:Nat->Prop}{w v:Z}{fr:Ai}{cs:List Ai}{R1 R2:List Ai}
def CL(D:cM G0 N S w v)(ht:Ht (df P T) v)(j:TS P X T (fr::cs))(hm:fr.mode = .run){s:Sem Unit}(hS:Tame P F G0 (df P T) s)(M:∃k,fr.todo = .beginRound::k)
  (h:∀(p:Ad) (cs:List Ai) (w:Z),stepG p true (G fr cs) w=stepG.apply p true fr cs none (do s;pure .skip) w) :
  kr P F X T G0 N S w v fr cs R1 R2 (stepG P true (G fr (cs++R2)) w) (stepG (imag P F) true (G fr (cs++R1)) v):=by
 rw[h,h];have f:=j.1.kind;have key:=bT.done (E:=λ_=>False) hS S N w v #[] D ht;have a:=Sem.runT_eq (imag P F) (do s;pure .skip:Sem Next) v #[];cases o:(do s;pure .skip:Sem Next).run (imag P F) v with
 |halt h v'=>
  rw[o]at key a;cases h with
  |panic x=>
   rw[sC f a];refine .inl ⟨_,[{ v:=x,recovered:=false }],rfl,?_,?_,?_,?_⟩
   .simp only[Frame.raise,hm]
   .simp only[Frame.raise,hm]
   .exact key.2
   .simp only[Frame.raise,hm];exact j.1.iP
  |stuck ad=>
   obtain⟨Y,l,e⟩:=py (cs:=cs++R1) f a;rw[e]
   trivial
  |unsupported u=>
   have Q:∀g,u≠.initOrder g:=λg h=>by subst h;exact key.1.elim
   obtain⟨Y,l,e⟩:=uV (cs:=cs++R1) Q f a;rw[e]
   trivial
  |_=>exact key.1.elim
 |ok nx v'=>obtain rfl:=vX o;rw[o]at key a;obtain⟨n,C,t',U⟩:=key.resolve_left id;rw[uU f a];refine .inr ⟨_,cs,rfl,.inl ⟨n,C,t',j.top (j.1.finish (ug T _)) (qJ _ _) (qK _ _),.inl (by rw[sV];exact hm),λB=>?_⟩⟩;obtain⟨w',W,r1,s',z,d,r⟩:=U B;exact⟨w',_,uU f (by rw[r1,Array.empty_append]),s',z,d,λy R=>r y (mem_seen R)⟩
def KO (hs:cM G0 N S w v)(ht:Ht (df P T) v)(y:TS P X T (fr::cs))(hm:fr.mode = .run){l:Nat}{k:List Item}(f:fr.todo = .endRangeFunc l::k) :
  kr P F X T G0 N S w v fr cs R1 R2 (stepG P true (G fr (cs++R2)) w) (stepG (imag P F) true (G fr (cs++R1)) v):=by
 have M:fr.fn=T.lf:=by have:=y.1.todo (.endRangeFunc l) (by rw[f];exact bi);simpa [ix]using this
 have g1:∀{p:Ad} {cs:List Ai} {w a:Z} {j:Option Code} {g:Array Event},(Instr.endLoop l).runT p w #[]=(.ok j a,g)->stepG p true (G fr cs) w = .go (G { fr with todo:=(j.map Item.code).toList++k } cs) a (seen p fr.fn g):=by intro p cs w a j g h;rw[eZ hm];simp only[stepG.exec,f,h,G,GStep.after,Array.append_empty]
 have g2:∀{p:Ad} {cs:List Ai} {w a:Z} {x:D} {g:Array Event},(Instr.endLoop l).runT p w #[]=(.halt (.panic x) a,g)->stepG p true (G fr cs) w = .go (G (fr.raise [{ v:=x,recovered:=false }]) cs) a (seen p fr.fn g):=by intro p cs w a x g h;rw[eZ hm];simp only[stepG.exec,f,h,G,GStep.after,Array.append_empty]
 have g3:∀{p:Ad} {cs:List Ai} {w a:Z} {e:Halt} {g:Array Event},(∀x,e≠.panic x)->(Instr.endLoop l).runT p w #[]=(.halt e a,g)->∃o C,stepG p true (G fr cs) w = .ended o a C:=by
  intro p cs w a e g R h;rw[eZ hm];cases e with
  |panic x=>exact bx rfl (R x)
  |_=>simp only[stepG.exec,f,h,GStep.after];exact⟨_,_,rfl⟩
 have key:=Tame.endLoop (P:=P) (F:=F) (G0:=G0) (Lk:=df P T) (λr s h=>Dt h) l S N w v #[] hs ht;have B:=Sem.runT_eq (imag P F) (Instr.endLoop l) v #[];cases U:(Instr.endLoop l).run (imag P F) v with
 |halt h v'=>
  rw[U]at B key
  by_cases hp:∃x,h = .panic x
  .obtain⟨x,rfl⟩:=hp;rw[g2 B];refine .inl ⟨_,[{ v:=x,recovered:=false }],rfl,?_,?_,?_,?_⟩
   .simp only[Frame.raise,hm]
   .simp only[Frame.raise,hm]
   .exact key.2
   .simp only[Frame.raise,hm];exact y.1.iP
  .obtain⟨o,C,e⟩:=g3 (cs:=cs++R1) (λx e=>hp ⟨x,e⟩) B;rw[e];trivial
 |ok j v'=>
  rw[U]at key B;obtain⟨r,Y,rfl⟩:=JS ht U;obtain⟨n,R,t',kk⟩:=key.resolve_left id;rw[g1 B];refine .inr ⟨_,cs,rfl,.inl ⟨n,R,t',y.top ⟨y.1.nX,y.1.bd,λit Q=>?_,y.1.fO,y.1.iP,y.1.kind,y.1.ms⟩ rfl rfl,.inl hm,λhN=>(by obtain⟨a,ad,r1,s',z,d,W⟩:=kk hN;exact⟨a,_,g1 (by rw[r1,Array.empty_append]),s',z,d,λe he=>W e (mem_seen he)⟩)⟩⟩
  rcases aM.1 Q with h|h
  .simp only[Option.mem_toList,aB]at h;obtain⟨c,hc,rfl⟩:=h;show codeOk P T fr.fn c=true;rw[M];exact Y.iW c hc
  .exact y.1.todo it (by rw[f];exact aD _ h)
def KS(a:cM G0 N S w v)(ht:Ht (df P T) v)(f:TS P X T (fr::cs))(hm:fr.mode = .run){id:Nat}{ops:Am}{k:List Item}(g:fr.todo = .code (.region id ops h)::k) :
  kr P F X T G0 N S w v fr cs R1 R2 (stepG P true (G fr (cs++R2)) w) (stepG (imag P F) true (G fr (cs++R1)) v):=by
 have r:ops.all (j6 P T fr.fn)=true:=f.1.todo (.code (.region id ops h)) (by rw[g];exact bi);have y:∀l,∀B∈Item.inRegion ops l::k,ix P T fr.fn B=true:=by
  intro l B o;rcases bE.1 o with rfl|o
  .exact r
  .exact f.1.todo B (by rw[g];exact aD _ o)
 cases h with
 |false=>
  refine mh a ht f hm (y (List.range ops.size)) λp cs w=>?_;rw[eZ hm];simp only[stepG.exec,g]
  rfl
 |true=>
  have g1:∀(p:Ad) (cs:List Ai) (w:Z),stepG p true (G fr cs) w = .go (G { fr with todo:=.inRegion ops (Region.schedule (p.follows .mixedOrders) ops (w.tape w.drawn (.order fr.fn id)))::k } cs) { w with drawn:=w.drawn+1 }:=by
   intro p cs w;rw[eZ hm];simp only[stepG.exec,g]
   rfl
  rw[g1 (imag P F)];have e:(imag P F).follows .mixedOrders=P.follows .mixedOrders:=rfl;rw[e];refine .inr ⟨_,cs,rfl,.inl ⟨1,⟨rfl,rfl⟩,⟨ht.iW,ht.loop,ht.kR,ht.vw⟩,f.top ⟨f.1.nX,f.1.bd,y _,f.1.fO,f.1.iP,f.1.kind,f.1.ms⟩ rfl rfl,.inl hm,λC=>⟨{ w with drawn:=w.drawn+1 },#[],?_,⟨a.size,a.same,a.hole,a.eH,a.high,λi D q=>?_,a.os,a.output,a.fix⟩,aW _,⟨rfl,rfl⟩,by simp⟩⟩⟩
  .have:=a.agree 0 (by omega) (.order fr.fn id);simp only[Nat.add_zero]at this;rw[g1,this]
  .have:=a.agree (1+i) (by omega) q;rw[<- Nat.add_assoc,<- Nat.add_assoc]at this;exact this
def KR(E:Env P F X T G0)(hs:cM G0 N S w v)(ht:Ht (df P T) v)(M:TS P X T (fr::cs))(hm:fr.mode = .run){f:Ae}{ps:Array Tmp}{a b:Code}{k:List Item}(ad:fr.todo = .code (.rangeFunc f ps a b)::k) :
  kr P F X T G0 N S w v fr cs R1 R2 (stepG P true (G fr (cs++R2)) w) (stepG (imag P F) true (G fr (cs++R1)) v):=by
 have hc:codeOk P T fr.fn (.rangeFunc f ps a b)=true:=M.1.todo (.code (.rangeFunc f ps a b)) (by rw[ad];exact bi);simp only[codeOk,av,bD]at hc;obtain⟨⟨⟨⟨D,hf⟩,bA⟩,ha⟩,bm⟩:=hc;have hk:=M.1.kind;have hL:∀d,df P T { state:=.ready,pending:=none,fn:=fr.fn,tmps:=fr.tmps,params:=ps,assign:=a,body:=b,defers:=d }:=λd=>⟨D,D ▸ ha,D ▸ bm,λc h=>(by cases h),D ▸ M.1.fO,λs hs=>(by rw[<- D];obtain⟨i,hi,rfl⟩:=Array.mem_iff_getElem.1 hs;have:=Array.all_eq_true.1 bA i hi;simpa using this)⟩
 have key:=Tame.enterLoop (P:=P) (F:=F) (G0:=G0) (Lk:=df P T) fr.roundOf hL S N w v #[] hs ht;have eQ:=Sem.runT_eq (imag P F) (Instr.enterLoop fr.fn fr.tmps ps a b fr.roundOf) v #[];have g1:∀{p:Ad} {cs:List Ai} {w w':Z} {l:Nat} {mark:List Deferred} {es:Array Event},(Instr.enterLoop fr.fn fr.tmps ps a b fr.roundOf).runT p w #[]=(.ok (l,mark) w',es)->
   stepG p true (G fr cs) w=GStep.after (seen p fr.fn es) (stepG.apply p true { fr with todo:=.inRangeFunc l::k,defers:=mark++fr.defers } cs none (do
    let d <- Deferred.ofValue (fr.eval f) #[.func (.yield l) #[] #[]]
    invoke d.target d.args) w'):=by
  intro p cs w w' l mark es h;rw[eZ hm];have er:resolve ({ fr with todo:=.inRangeFunc l::k,defers:=mark++fr.defers }:Ai).eval { callee:=.value f,args:=#[.const (.func (.yield l) #[] #[])],argTypes:=#[] } 0=Deferred.ofValue (fr.eval f) #[.func (.yield l) #[] #[]]:=by
   have e1:({ fr with todo:=.inRangeFunc l::k,defers:=mark++fr.defers }:Ai).eval=fr.eval:=by
    funext x
    cases x<;>rfl
   rw[e1];simp only[resolve,List.map_toArray,List.map_cons,List.map_nil]
   rfl
  simp only[stepG.exec,ad,h,er]
 have g2:∀{p:Ad} {cs:List Ai} {w w':Z} {e:Halt} {es:Array Event},(Instr.enterLoop fr.fn fr.tmps ps a b fr.roundOf).runT p w #[]=(.halt e w',es)->∃o U,stepG p true (G fr cs) w = .ended o w' U:=by intro p cs w w' e es h;rw[eZ hm];simp only[stepG.exec,ad,h,GStep.after];exact⟨_,_,rfl⟩
 cases hr:(Instr.enterLoop fr.fn fr.tmps ps a b fr.roundOf).run (imag P F) v with
 |halt h v'=>rw[hr]at eQ;obtain⟨o,U,e⟩:=g2 (cs:=cs++R1) eQ;rw[e];trivial
 |ok lm v1=>
  obtain⟨l,mark⟩:=lm;rw[hr]at key eQ;have a3:=JW hr;obtain⟨n1,bv,t1,bB⟩:=key.resolve_left id;rw[g1 eQ];have W:TF P X T { fr with todo:=.inRangeFunc l::k,defers:=mark++fr.defers }:=by
   refine⟨M.1.nX,M.1.bd,λit a1=>?_,M.1.fO,λd hd=>?_,hk,M.1.ms⟩
   .rcases bE.1 a1 with rfl|a1
    .show(fr.fn == T.lf)=true;rw[D];simp
    .exact M.1.todo it (by rw[ad];exact aD _ a1)
   .rcases aM.1 hd with h|h
    .exact a3 d h
    .exact M.1.iP d h
  generalize j:({ fr with todo:=.inRangeFunc l::k,defers:=mark++fr.defers }:Ai)=B at W ⊢;have Y:B.mode = .run:=by rw[<- j];exact hm
  have Q:B.kind = .normal:=W.kind;have am:B.todo = .inRangeFunc l::k:=by rw[<- j]
  have bl:TS P X T (B::cs):=M.top W (by rw[<- j]) (by rw[<- j]);have a8:jd T 1 (fr.eval f):=by
   cases f with
   |tmp s=>exact M.1.fO.eval (by simpa using hf)
   |_=>cases hf
  rcases a8 with hu|hu|⟨g,y,hu,hg⟩
  .rw[hu];obtain⟨o',U,e⟩ := py (p := imag P F) (fr := B) (cs := cs ++ R1) (w := v1) (w' := v1) (es := #[]) (why := "call: function value expected") (s := Deferred.ofValue undef #[.func (.yield l) #[] #[]] >>= fun d => invoke d.target d.args) Q rfl
   rw[e];trivial
  .rw[hu];have hp : ((Deferred.ofValue .nilFunc #[.func (.yield l) #[] #[]] >>= fun d => invoke d.target d.args) : Sem Next).runT (imag P F) v1 #[] = (.halt (.panic (.iface (imag P F).rt.errorString (strVal "invalid memory address or nil pointer dereference"))) v1,#[]) := rfl
   rw[sC Q hp];refine .inl ⟨_,[{ v := .iface (imag P F).rt.errorString (strVal "invalid memory address or nil pointer dereference"),recovered := false }],rfl,?_,?_,?_,?_⟩
   .simp only[Frame.raise,Y]
   .simp only[Frame.raise,Y];rw[<- j]
   .exact t1
   .simp only[Frame.raise,Y];exact W.iP
  .rw[hu];obtain⟨hX,bp,bq,b3⟩:=E.jr g hg;have a4:(Deferred.ofValue (.func (.func g) #[] #[y]) #[.func (.yield l) #[] #[]] >>= λd=>invoke d.target d.args:Sem Next)=Go.callFunc g #[.func (.yield l) #[] #[],y]:=rfl;rw[a4];have a7:∀d b r z k',B.todo≠.call d b r z::k':=λd b r z k' h=>by rw[am]at h;cases h
   have R:=Sem.runT_eq (imag P F) (Go.callFunc g #[.func (.yield l) #[] #[],y]) v1 #[];have C:=tX (P:=P) (E.hS g hg) #[.func (.yield l) #[] #[],y] v1;cases a0:F[g]? with
   |none=>rw[a0]at C;rw[C]at R;obtain⟨o',U,e⟩:=py (cs:=cs++R1) Q R;rw[e];trivial
   |some fn=>
    rw[a0]at C;rw[C]at R;have hB:¬gL P g:=sG E (E.hS g hg) hX (by rw[a0];simp);rw[sB Q a7 R,vn E hX];refine .inr ⟨_,B::cs,rfl,.inl ⟨n1,bv,t1,bl.push (TF.enter E hX hB (λi x hx=>?_)) ⟨Y,.inl (by simp only[jF,am])⟩,.inl rfl,λhN=>?_⟩⟩
    .match i,hx with
     |0,hx=>cases hx;rw[bp];exact .inr ⟨l,rfl⟩
     |1,hx=>rw[bq];trivial
     |i+2,hx=>simp at hx
    .obtain⟨w1,a9,r1,s1,z1,d1,bb⟩:=bB hN;have an:=bT.callFunc (P:=P) (G0:=G0) (Lk:=df P T) (E.hS g hg) #[.func (.yield l) #[] #[],y] S (N-n1) w1 v1 #[] s1 t1;rw[C]at an;rcases an with⟨f',a',e,bf⟩|⟨n2,bw,t2,bS⟩
     .cases e;exact bx bf hB
     .have:n2=0:=by have:=bw.1;omega
      subst this;obtain⟨w2,ba,r2,s2,z2,d2,be⟩:=bS (by omega);refine⟨w2,seen P fr.fn a9++seen P B.fn ba,?_,s2,aX z1 z2,⟨by rw[d2.1,d1.1];rfl,by rw[d2.2,d1.2]⟩,λe he=>?_⟩
      .rw[g1 (es:=a9) (by rw[r1,Array.empty_append]),j,hu,a4,sB Q a7 (by rw[r2,Array.empty_append])]
       rfl
      .rcases Array.mem_append.1 he with h|h
       .exact(bb e (mem_seen h)).mono z2
       .exact be e (mem_seen h)
def tc (E:Env P F X T G0)(B:cM G0 N S w v)(ht:Ht (df P T) v)(y:TS P X T (fr::cs))(hm:fr.mode = .run\/fr.mode = .returning)(Q:cs≠[]\/fr.mode = .run\/fr.defers≠[]) :
  kr P F X T G0 N S w v fr cs R1 R2 (stepG P true (G fr (cs++R2)) w) (stepG (imag P F) true (G fr (cs++R1)) v):=by
 rcases hm with hm|hm
 .cases g:fr.todo with
  |nil=>exact yL B ht y hm (.inl ⟨g,rfl⟩)
  |cons it k=>
   have j:=y.1.todo it (by rw[g];exact bi);have U:∀x∈k,ix P T fr.fn x=true:=λx D=>y.1.todo x (by rw[g];exact aD _ D)
   have c1:∀{a:Item},ix P T fr.fn a=true->∀x∈a::k,ix P T fr.fn x=true:=λha x D=>by
    rcases bE.1 D with rfl|D
    .exact ha
    .exact U x D
   have c2:∀{a b:Item},ix P T fr.fn a=true->ix P T fr.fn b=true->∀x∈a::b::k,ix P T fr.fn x=true:=λha hb x D=>by
    rcases bE.1 D with rfl|D
    .exact ha
    .exact c1 hb x D
   cases it with
   |inBlock id=>exact mh B ht y hm U λp cs w=>by rw[eZ hm];simp only[stepG.exec,g];rfl
   |inScope c=>cases j
   |inLoop c=>exact mh B ht y hm (c2 (a:=.code c) (b:=.inLoop c) j j) λp cs w=>by rw[eZ hm];simp only[stepG.exec,g];rfl
   |inRangeFunc l=>
    have e:∀(p:Ad) (cs:List Ai) (w:Z),∃o,stepG p true (G fr cs) w = .ended o w:=λp cs w=>by rw[eZ hm];simp only[stepG.exec,g];exact⟨_,rfl⟩
    obtain⟨o,e⟩:=e (imag P F) (cs++R1) v;rw[e];trivial
   |endRangeFunc l=>exact KO B ht y hm g
   |beginRound=>
    cases hr:fr.roundOf with
    |none=>
     have e : ∀ (p : Ad) (cs : List Ai) (w : Z),stepG p true (G fr cs) w = stepG.apply p true fr cs none (do Go.stuck "beginRound: no round";pure .skip) w := fun p cs w => by
      rw[eZ hm];simp only[stepG.exec,g,hr]
      rfl
     exact CL B ht y hm (.stuck _) ⟨k,g⟩ e
    |some l=>
     have e:∀(p:Ad) (cs:List Ai) (w:Z),stepG p true (G fr cs) w=stepG.apply p true fr cs none (do Instr.beginRound l;pure .skip) w:=λp cs w=>by
      rw[eZ hm];simp only[stepG.exec,g,hr]
      rfl
     exact CL B ht y hm (Tame.beginRound (λr s h=>Dt h) l) ⟨k,g⟩ e
   |call d b r z=>cases j
   |extern r z=>cases j
   |inRegion M l=>
    cases l with
    |nil=>exact mh B ht y hm U λp cs w=>by rw[eZ hm];simp only[stepG.exec,g];rfl
    |cons i rest=>
     cases C:((M[i]?).map (Region.wanted · (yielded M fr.tmps))).getD false with
     |false=>
      have e:∀(p:Ad) (cs:List Ai) (w:Z),stepG p true (G fr cs) w = .go (G (fr.finish undef) cs) w:=λp cs w=>by
       rw[eZ hm];simp only[stepG.exec,g,C,bg,if_false]
       rfl
      rw[e,e];exact .inr ⟨_,cs,rfl,.inl ⟨0,⟨rfl,rfl⟩,ht,y.top (y.1.finish (ug T _)) (qJ _ _) (qK _ _),.inl (by rw[sV];exact hm),λ_=>⟨w,#[],rfl,B,aW _,⟨rfl,rfl⟩,by simp⟩⟩⟩
     |true=>
      cases W:M[i]? with
      |none=>rw[W]at C;cases C
      |some o=>
       rw[W]at C;simp only[Option.map_some,aC]at C;have Y:j6 P T fr.fn o=true:=by have h:M.all (j6 P T fr.fn)=true:=j;obtain⟨hi,R⟩:=aO.1 W;have:=Array.all_eq_true.1 h i hi;rw[R]at this;exact this
       simp only[j6,bz,av]at Y;rcases Y with⟨⟨h1,h2⟩,h3⟩|hd
       .exact KQ E B ht y hm g W C h1 h2 h3
       .exact KN E B ht y hm g W C hd
   |code c=>
    cases c with
    |skip=>exact mh B ht y hm U λp cs w=>by rw[eZ hm];simp only[stepG.exec,g];rfl
    |ret=>exact yL B ht y hm (.inr (.inl ⟨k,g,rfl⟩))
    |seq a b=>
     have h:codeOk P T fr.fn a=true/\codeOk P T fr.fn b=true:=by simpa [ix,codeOk]using j
     exact mh B ht y hm (c2 (a:=.code a) (b:=.code b) h.1 h.2) λp cs w=>by rw[eZ hm];simp only[stepG.exec,g];rfl
    |cond x a b=>
     have h:codeOk P T fr.fn a=true/\codeOk P T fr.fn b=true:=by simpa [ix,codeOk]using j
     by_cases hb:∃t,fr.eval x = .bool t
     .obtain⟨t,hb⟩:=hb;refine mh B ht y hm (c1 (a:=.code (if t then a else b)) (by cases t;exact h.2;exact h.1)) λp cs w=>?_;rw[eZ hm];simp only[stepG.exec,g,hb]
      rfl
     .have e:∀(p:Ad) (cs:List Ai) (w:Z),∃o,stepG p true (G fr cs) w = .ended o w:=λp cs w=>by
       rw[eZ hm];simp only[stepG.exec,g];cases D:fr.eval x with
       |bool t=>exact bx ⟨t,D⟩ hb
       |_=>exact⟨_,rfl⟩
      obtain⟨o,e⟩:=e (imag P F) (cs++R1) v;rw[e];trivial
    |block id c=>exact mh B ht y hm (c2 (a:=.code c) (b:=.inBlock id) j rfl) λp cs w=>by rw[eZ hm];simp only[stepG.exec,g];rfl
    |loop c=>exact mh B ht y hm (c2 (a:=.code c) (b:=.inLoop c) j j) λp cs w=>by rw[eZ hm];simp only[stepG.exec,g];rfl
    |exit id=>
     cases R:exitTo id k with
     |none=>exact yL B ht y hm (.inr (.inr ⟨id,k,g,R,rfl⟩))
     |some k'=>exact mh B ht y hm (λx D=>U x (zi R x D)) λp cs w=>by rw[eZ hm];simp only[stepG.exec,g,R];rfl
    |region id M d=>exact KS B ht y hm g
    |rangeFunc f ps a b=>exact KR E B ht y hm g
    |_=>cases j
 .exact KT E B ht y hm (Q.imp id λh=>h.resolve_left λe=>by rw[hm]at e;cases e)
end
end
section
open Go.Conc
def on (v:Z)(τ:Nat->Question->Nat)(d:Nat):Z:={ v with tape:=τ,drawn:=d }
def DZ (v:Z)(τ τ':Nat->Question->Nat)(d d':Nat):on (on v τ d) τ' d'=on v τ' d':=rfl
def Alike (τ:Nat->Question->Nat)(d:Nat)(τ':Nat->Question->Nat)(d' c:Nat):Prop:=∀i,i<c->∀q,τ (d+i) q=τ' (d'+i) q
def dF (Q : Ad) : Ai := { fn := Q.funcs.size,tmps := #[],todo := [.call { target := .nil,args := #[] } false "fmt's door" #[]],defers := [],mode := .run,kind := .normal }
section
variable {Q:Ad}{X:Ag->Prop}{T:dq}{G0:Nat}{v v' w:Z}{fr fr':Ai}{cs cs':List Ai}
def vJ:imag Q Q.funcs=Q:=rfl
def QE (chain:List PanicEntry):Frame.catches Q { dF Q with mode:=.panicking chain }=true:=by
 have h:Q.funcs[Q.funcs.size]?=none:=by simp
 simp only[Frame.catches,dF,h];simp
def Ht.on (h:Ht (df Q T) v)(τ:Nat->Question->Nat)(d:Nat):Ht (df Q T) (on v τ d):=⟨h.iW,h.loop,h.kR,h.vw⟩
def PS (v:Z)(τ:Nat->Question->Nat)(d:Nat){c:Nat}(h:Alike v.tape v.drawn τ d c):cM (plain G0) c (λ_=>False) (on v τ d) v:=
 ⟨rfl,λ_ _=>.inl rfl,λ_ h=>h.elim,λ_ h=>h.elim,λ_ h=>h.elim,h,rfl,rfl,λ_ _ h=>by cases h⟩
def mz (N:Nat)(v:Z):cM (plain G0) N (λ_=>False) v v:=⟨rfl,λ_ _=>.inl rfl,λ_ h=>h.elim,λ_ h=>h.elim,λ_ h=>h.elim,λ_ _ _=>rfl,rfl,rfl,λ_ _ h=>by cases h⟩
def wR {c:Nat}{Lk f:Loop->Prop}(h:cM (plain G0) c (λ_=>False) w v)(hv:Ht Lk v)(l:Ht f w):w=on v w.tape w.drawn:=by
 have:w.heap=v.heap:=by
  apply Array.ext_getElem?;intro i;rcases h.same i id with e|⟨⟨x,t,e1⟩,y,u,e2⟩
  .exact e.symm
  .obtain⟨rfl,rfl⟩:=hv.vw _ _ _ e1;obtain⟨rfl,rfl⟩:=l.vw _ _ _ e2;rw[e1,e2]
 obtain⟨a,b,c,d,e⟩:=w;obtain⟨o,r,B,C,D⟩:=v;simp only[on]at *;subst this;have g:=h.os;have j:=h.output;simp only at g j;subst g j
 rfl
def mA{g:Ah}{es:Array Event}(h:stepG Q true (G fr cs) v = .go g v' es)(a:g=G fr' cs'):step Q (lone fr cs v) = .next (lone fr' cs' v'):=by
 subst a;refine step_lone_go ?_;have:stepG Q true { frame:=fr,callers:=cs,status:=.running,dying:=none } v = .go (G fr' cs') v' es:=h;rw[this]
 rfl
def nB{o:Outcome}{es:Array Event}(h:stepG Q true (G fr cs) v = .ended o v' es):step Q (lone fr cs v) = .ended o v':=by
 refine step_lone_ended ?_;have:stepG Q true { frame:=fr,callers:=cs,status:=.running,dying:=none } v = .ended o v' es:=h;rw[this]
 rfl
def uz (Q:Ad)(m:Machine):Prop:=∃fr v,m=lone fr [dF Q] v/\fr.mode = .returning
def mX {m l:Z}(h:lone fr cs m=lone fr' cs' l):fr=fr'/\cs=cs'/\m=l:=by have f:=congrArg Machine.world h;have j:=congrArg Machine.gs h;simp only[lone]at f j;have a:=congrArg (λg:Array Ah=>g[0]?) j;simp only[List.getElem?_toArray,List.getElem?_cons_zero,aH,Goroutine.mk.injEq]at a;exact⟨a.1,a.2.1,f⟩
def El:∀(n:Nat) (fr:Ai) (cs:List Ai) (v:Z) (m:Machine) (chain:List PanicEntry),fr.mode = .panicking chain->(∃fn,Q.funcs[fr.fn]?=some fn)->(∀d∈fr.defers,∃r,d.target = .collected r)->TS Q X T cs->Ht (df Q T) v->(∀c∈cs,c.mode = .run)->
  runN Q n (lone fr (cs++[dF Q]) v) = .next m->¬uz Q m:=by
 intro n
 induction n with
 |zero=>rintro fr cs v m chain hm _ _ _ _ _ h ⟨fr',v',rfl,a⟩;simp only[runN,Stepped.next.injEq]at h;obtain⟨rfl,_,_⟩:=mX h;rw[hm]at a;cases a
 |succ n R=>
  intro fr cs v m chain hm y l C ht g h;have e1:stepG Q true (G fr (cs++[dF Q])) v=unwind Q true fr (cs++[dF Q]) none v:=by simp only[G,stepG,hm]
  simp only[runN]at h;cases j:fr.defers with
  |cons d Y=>
   obtain⟨b,hb⟩:=l d (by rw[j];exact bi);obtain⟨tg,ar⟩:=d;simp only at hb;subst hb;have B:=Sem.runT_eq Q (Instr.takeDeferred b) v #[];cases a:(Instr.takeDeferred b).run Q v with
   |halt e S=>rw[a]at B;obtain⟨o,ad,e⟩:=F5 (cs:=cs++[dF Q]) j B;rw[nB (e1.trans e)]at h;cases h
   |ok D S=>rw[a]at B;obtain rfl:=FI ht a;rw[mA (e1.trans (AP j B)) rfl]at h;have key:=Tame.takeDeferred (P:=Q) (F:=Q.funcs) (G0:=plain 0) (Lk:=df Q T) b (λ_=>False) 0 v v #[] (mz 0 v) ht;rw[vJ,a]at key;obtain⟨_,_,t1,_⟩:=key.resolve_left id;exact R { fr with defers:=[]++Y } cs S m chain hm y (λW N=>l W (by rw[j];exact aD _ (by simpa using N))) C t1 g h
  |nil=>
   obtain⟨fn,hf⟩:=y;have f:fr.catches Q=false:=by simp only[Frame.catches,hf]
   cases cs with
   |nil=>
    have e2:unwind Q true fr ([]++[dF Q]) none v = .go (G ((dF Q).raise chain) []) v:=by
     unfold unwind;simp only[j,hm,f,List.nil_append,G]
     rfl
    rw[mA (e1.trans e2) rfl]at h;have e3:(dF Q).raise chain={ dF Q with mode:=.panicking chain }:=rfl;rw[e3]at h;have e4:∃o,stepG Q true (G { dF Q with mode:=.panicking chain } []) v = .ended o v:=by
     have:stepG Q true (G { dF Q with mode:=.panicking chain } []) v=unwind Q true { dF Q with mode:=.panicking chain } [] none v:=by simp only[G,stepG]
     rw[this];unfold unwind;have g:=QE (Q:=Q) chain;simp only[dF]at g ⊢;simp only[g,if_true];exact⟨_,rfl⟩
    obtain⟨o,e4⟩:=e4;cases n with
    |zero=>rintro⟨fr',v',rfl,a⟩;simp only[runN,Stepped.next.injEq]at h;obtain⟨rfl,_,_⟩:=mX h;cases a
    |succ n=>simp only[runN]at h;rw[nB e4]at h;cases h
   |cons c rest=>
    have e2:unwind Q true fr (c::rest++[dF Q]) none v = .go (G (c.raise chain) (rest++[dF Q])) v:=by
     unfold unwind;simp only[j,hm,f,List.cons_append,G]
     rfl
    rw[mA (e1.trans e2) rfl]at h;have M:=g c bi;have e3:c.raise chain={ c with mode:=.panicking chain }:=by simp only[Frame.raise,M]
    rw[e3]at h;refine R { c with mode:=.panicking chain } rest v m chain rfl ?_ C.1.iP C.2.1 ht (λU h'=>g U (aD _ h')) h;show ∃fn,Q.funcs[c.fn]?=some fn;cases hp:Q.funcs[c.fn]? with
    |none=>exact bx (λfn h=>by rw[hp]at h;cases h) C.1.bd
    |some fn=>exact⟨fn,rfl⟩
end
end
section
open Go.Conc
def Kc{α:Type}{R:Nat->α->Prop}{C:α->α->Prop}(a:α)(h0:R 0 a)(h:∀n x,R n x->∃y,R (n+1) y/\C x y):∃f:Nat->α,(∀n,R n (f n))/\∀n,C (f n) (f (n+1)):=by
 let F:(n:Nat)->{ x:α // R n x }:=λn=>Nat.rec (motive:=λn=>{ x:α // R n x }) ⟨a,h0⟩ (λn x=>⟨Classical.choose (h n x.1 x.2),(Classical.choose_spec (h n x.1 x.2)).1⟩) n
 exact⟨λn=>(F n).1,λn=>(F n).2,λn=>(Classical.choose_spec (h n (F n).1 (F n).2)).2⟩
section
variable {Q:Ad}{X:Ag->Prop}{T:dq}{G0:Nat}{v v' w:Z}{fr fr':Ai}{cs cs':List Ai}
def TS.run:∀{fr:Ai} {cs:List Ai},TS Q X T (fr::cs)->∀c∈cs,c.mode = .run
 |fr,c::rest,h,f,a=>by
  rcases bE.1 a with rfl|a
  .exact(h.2.2.1 f rfl).1
  .exact TS.run h.2.1 f a
structure kH (Q:Ad)(X:Ag->Prop)(T:dq)(fr:Ai)(cs:List Ai)(v:Z):Prop where
 ts:TS Q X T (fr::cs)
 ht:Ht (df Q T) v
 mode:fr.mode = .run\/fr.mode = .returning
def xO (Q:Ad)(X:Ag->Prop):Prop:=∀f,X f->∀args cs v,∃o v' a,stepG Q true (G (Frame.enter Q f args .normal) cs) v = .ended o v' a
def Nd(E:Env Q Q.funcs X T (plain G0))(hX:xO Q X)(y:kH Q X T fr cs v)(C:cs≠[]\/fr.mode = .run\/fr.defers≠[]){n:Nat}(a:runN Q (n+1) (lone fr (cs++[dF Q]) v) = .next m)(hm:uz Q m) :
  ∃fr' cs' v' c,kH Q X T fr' cs' v'/\runN Q n (lone fr' (cs'++[dF Q]) v') = .next m/\(v'.drawn=v.drawn+c/\v'.tape=v.tape)/\
   ∀(R:List Ai) (τ:Nat->Question->Nat) (d:Nat),Alike v.tape v.drawn τ d c->∃es,stepG Q true (G fr (cs++R)) (on v τ d) = .go (G fr' (cs'++R)) (on v' τ (d+c)) es:=by
 have gY:=λ(N:Nat) (R2:List Ai) (w:Z) (hw:cM (plain G0) N (λ_=>False) w v)=>tc (R1:=[dF Q]) (R2:=R2) E hw y.ht y.ts y.mode C
 rw[vJ]at gY;have g0:=gY 0 [] v (mz 0 v);simp only[runN]at a;cases l:stepG Q true (G fr (cs++[dF Q])) v with
 |go g' U es=>
  rw[l]at g0 gY;rcases g0 with⟨S,g,rfl,hp,a0,r,an⟩|⟨fr',cs',rfl,h⟩
  .
   exfalso
   rw[mA l rfl]at a;refine El (X:=X) (T:=T) n S cs U m g hp ?_ an y.ts.2.1 r (TS.run y.ts) a hm;rw[a0];cases hq:Q.funcs[fr.fn]? with
   |none=>exact bx (λfn h=>by rw[hq]at h;cases h) y.ts.1.bd
   |some fn=>exact⟨fn,rfl⟩
  .rw[mA l rfl]at a;rcases h with⟨c,hc,r,a1,M,_⟩|⟨f,args,j,rfl,rfl,_,_,_⟩
   .refine⟨fr',cs',U,c,⟨a1,r,M⟩,a,hc,λR τ d ha=>?_⟩;have g1:=gY c R (on v τ d) (PS v τ d ha);rcases g1 with⟨S,g,e,hp,_⟩|⟨D,P,e,h⟩
    .exfalso
     have:fr'=S:=by have:=congrArg Goroutine.frame e;exact this
     subst this;rcases M with h|h<;>(rw[hp]at h;cases h)
    .have e1:fr'=D:=congrArg Goroutine.frame e;have e2:cs'=P:=List.append_cancel_right (congrArg Goroutine.callers e);subst e1 e2;have B:∀f args,X f->fr'=Frame.enter (imag Q Q.funcs) f args .normal->False:=by
      intro f args j e3;cases n with
      |zero=>simp only[runN,Stepped.next.injEq]at a;obtain⟨fz,vz,rfl,W⟩:=hm;obtain⟨rfl,_,_⟩:=mX a;rw[e3]at W;cases W
      |succ n=>simp only[runN]at a;obtain⟨o,v2,ad,e4⟩:=hX f j args (cs'++[dF Q]) U;rw[e3,show(Frame.enter (imag Q Q.funcs) f args .normal)=Frame.enter Q f args .normal from rfl,nB e4]at a;cases a
     rcases h with⟨c2,am,_,_,_,h⟩|⟨f,args,j,e3,_⟩
     .have:c2=c:=by have:=am.1;have:=hc.1;omega
      subst this;obtain⟨w',Y,r1,r2,_,⟨r3,r4⟩,_⟩:=h (aW _);have hw:Ht (df Q T) w':=by
       have g2:=tc (R1:=R) (R2:=R) E (mz 0 (on v τ d)) (y.ht.on τ d) y.ts y.mode C;rw[vJ,r1]at g2;rcases g2 with⟨S,g,e,hp,_⟩|⟨D,P,e,h⟩
       .have e4:fr'=S:=congrArg Goroutine.frame e;subst e4;rcases M with h|h<;>(rw[hp]at h;cases h)
       .have e4:fr'=D:=congrArg Goroutine.frame e;subst e4;rcases h with⟨_,_,h,_⟩|⟨f,args,j,e3,_⟩
        .exact h
        .exact(B f args j e3).elim
      refine⟨Y,?_⟩;rw[r1,wR r2 r hw,r3,r4]
      rfl
     .exact(B f args j e3).elim
   .exfalso
    cases n with
    |zero=>simp only[runN,Stepped.next.injEq]at a;obtain⟨fz,vz,rfl,W⟩:=hm;obtain⟨rfl,_,_⟩:=mX a;cases W
    |succ n=>simp only[runN]at a;obtain⟨o,v2,ad,e4⟩:=hX f j args (fr::cs++[dF Q]) U;have e5:=nB e4;rw[show(Frame.enter (imag Q Q.funcs) f args .normal)=Frame.enter Q f args .normal from rfl]at a;rw[e5]at a;cases a
 |ended o U es=>rw[nB l]at a;cases a
 |_=>rw[l]at g0;exact g0.elim
end
end
section
open Go.Conc
section
variable {Q:Ad}{X:Ag->Prop}{T:dq}{G0:Nat}{v v' w:Z}{fr fr':Ai}{cs cs':List Ai}
def By(y:kH Q X T fr [] v)(hm:fr.mode = .returning)(l:fr.defers=[]){n:Nat}(a:runN Q (n+1) (lone fr ([]++[dF Q]) v) = .next m):¬uz Q m:=by
 have e1:stepG Q true (G fr ([]++[dF Q])) v=unwind Q true fr [dF Q] none v:=by simp only[G,stepG,hm,List.nil_append]
 obtain⟨fn,r⟩:∃fn,Q.funcs[fr.fn]?=some fn:=by
  cases M:Q.funcs[fr.fn]? with
  |none=>exact bx (λfn h=>by rw[M]at h;cases h) y.ts.1.bd
  |some fn=>exact⟨fn,rfl⟩
 have g:=Sem.runT_eq Q (Go.results fn fr.tmps) v #[];simp only[runN]at a;cases B:(Go.results fn fr.tmps).run Q v with
 |halt e f=>rw[B]at g;obtain⟨o,C,e⟩:=F4 (cs:=[dF Q]) hm l r g;rw[nB (e1.trans e)]at a;cases a
 |ok x f=>
  rw[B]at g;rw[mA (e1.trans (AO y.ts.1.kind hm l r g)) rfl]at a;rintro⟨N,R,rfl,P⟩;cases n with
  |zero=>simp only[runN,Stepped.next.injEq]at a;obtain⟨_,h,_⟩:=mX a;cases h
  |succ n=>
   have e2:∃o j,stepG Q true (G ((dF Q).finish x) []) f = .ended o f j:=by
    have:stepG Q true (G ((dF Q).finish x) []) f=stepG.exec Q true true ((dF Q).finish x) [] none f:=eZ rfl;rw[this];have D : Extern.next "fmt's door" = none := by rfl
    simp only[stepG.exec,dF,Frame.finish,D];exact⟨_,_,rfl⟩
   obtain⟨o,j,e2⟩:=e2;simp only[runN]at a;rw[nB e2]at a;cases a
def Body (Q:Ad)(Fin:Ai->Z->Prop)(a:Ai->List Ai->Z->Prop)(fr:Ai)(cs:List Ai)(v:Z):Prop:=
 (cs=[]/\Fin fr v)\/((cs≠[]\/fr.mode = .run\/fr.defers≠[])/\∀g d,∃fr' cs' v' f,stepG Q true (G fr cs) (on v g d) = .go (G fr' cs') v' f/\a fr' cs' v')
def Tr (Q:Ad)(X:Ag->Prop)(T:dq)(Fin:Ai->Z->Prop)(fr:Ai)(cs:List Ai)(v:Z):Prop:=
 ∀a:Ai->List Ai->Z->Prop,(∀fr cs v,kH Q X T fr cs v->Body Q Fin a fr cs v->a fr cs v)->a fr cs v
variable {Fin:Ai->Z->Prop}
def Body.mono {f a:Ai->List Ai->Z->Prop}(h:∀fr cs v,f fr cs v->a fr cs v)(hb:Body Q Fin f fr cs v):Body Q Fin a fr cs v:=
 hb.imp id λ⟨j,l⟩=>⟨j,λo d=>by obtain⟨fr',cs',v',g,e,z⟩:=l o d;exact⟨fr',cs',v',g,e,h _ _ _ z⟩⟩
def Tr.fold (g:kH Q X T fr cs v)(h:Body Q Fin (Tr Q X T Fin) fr cs v):Tr Q X T Fin fr cs v:=
 λf a=>a fr cs v g (h.mono λ_ _ _ t=>t f a)
def Tr.unfold (h:Tr Q X T Fin fr cs v):kH Q X T fr cs v/\Body Q Fin (Tr Q X T Fin) fr cs v:=
 h (λfr cs v=>kH Q X T fr cs v/\Body Q Fin (Tr Q X T Fin) fr cs v) λ_ _ _ a hb=>⟨a,hb.mono λ_ _ _ h=>Tr.fold h.1 h.2⟩
def kH.on (h:kH Q X T fr cs v)(τ:Nat->Question->Nat)(d:Nat):kH Q X T fr cs (on v τ d):=⟨h.ts,h.ht.on τ d,h.mode⟩
def Tr.on (hF:∀fr v τ d,Fin fr v->Fin fr (on v τ d))(h:Tr Q X T Fin fr cs v)(τ:Nat->Question->Nat)(d:Nat):Tr Q X T Fin fr cs (on v τ d):=by
 obtain⟨g,j⟩:=h.unfold;refine Tr.fold (g.on τ d) ?_;rcases j with⟨e,h⟩|⟨e,h⟩
 .exact .inl ⟨e,hF _ _ _ _ h⟩
 .exact .inr ⟨e,λa f=>h a f⟩
def Pq{n:Nat}(h:runN Q n m = .next u)(a:step Q u = .next y):runN Q (n+1) m = .next y:=by rw[runN_add,h];simp only[runN,a]
def QD (E:Env Q Q.funcs X T (plain G0))(hX:xO Q X)(hF:∀fr v τ d,Fin fr v->Fin fr (on v τ d))(a1:∀fr v,Fin fr v->fr.mode = .returning){r:Ai}{o:List Ai}{v0:Z}(bl:kH Q X T r o v0)
  (H:∀τ,∃n fr' v',runN Q n (lone r (o++[dF Q]) (on v0 τ 0)) = .next (lone fr' [dF Q] v')/\Fin fr' v'):Tr Q X T Fin r o v0:=by
 refine Classical.byContradiction λa3=>?_
 let R:Nat->(Ai × List Ai × Z × (Nat->Question->Nat) × Nat)->Prop:=λn x=>
  kH Q X T x.1 x.2.1 x.2.2.1/\¬Tr Q X T Fin x.1 x.2.1 x.2.2.1/\∀τ,(∀i,i<x.2.2.2.2->τ i=x.2.2.2.1 i)->
   runN Q n (lone r (o++[dF Q]) (on v0 τ 0)) = .next (lone x.1 (x.2.1++[dF Q]) (on x.2.2.1 τ x.2.2.2.2))/\
   ∀k,k<n->∀fr' v',runN Q k (lone r (o++[dF Q]) (on v0 τ 0)) = .next (lone fr' [dF Q] v')->¬Fin fr' v'
 let C:(Ai × List Ai × Z × (Nat->Question->Nat) × Nat)->(Ai × List Ai × Z × (Nat->Question->Nat) × Nat)->Prop:=λx y=>x.2.2.2.2<=y.2.2.2.2/\∀i,i<x.2.2.2.2->y.2.2.2.1 i=x.2.2.2.1 i
 have start:R 0 (r,o,v0,λ_ _=>0,0):=⟨bl,a3,λτ _=>⟨rfl,λk hk=>bx hk (by omega)⟩⟩;have next:∀n x,R n x->∃y,R (n+1) y/\C x y:=by
  rintro n ⟨fr,cs,v,t,g⟩ ⟨hs,hb,l⟩;dsimp only at hs hb l;have Y:∀τ d,¬(cs=[]/\Fin fr (on v τ d)):=by rintro τ d ⟨e,hf⟩;exact hb (Tr.fold hs (.inl ⟨e,hF _ (on v τ d) v.tape v.drawn hf⟩))
  have a8:∀τ,(∀i,i<g->τ i=t i)->∃m' fr' v',runN Q (m'+1) (lone fr (cs++[dF Q]) (on v τ g)) = .next (lone fr' [dF Q] v')/\Fin fr' v':=by
   intro τ a0;obtain⟨k,fr',v',B,D⟩:=H τ;obtain⟨r1,r2⟩:=l τ a0;have hk:n<=k:=Nat.le_of_not_lt λam=>r2 k am fr' v' B D
   obtain⟨j,rfl⟩:=Nat.exists_eq_add_of_le hk;rw[runN_add,r1]at B;cases j with
   |zero=>
    exfalso
    simp only[runN,Stepped.next.injEq]at B;obtain⟨rfl,e2,rfl⟩:=mX B;have:cs=[]:=by
     cases cs with
     |nil=>rfl
     |cons a b=>simp at e2
    exact Y τ g ⟨this,D⟩
   |succ j=>exact⟨j,fr',v',B,D⟩
  have U:cs≠[]\/fr.mode = .run\/fr.defers≠[]:=by refine Classical.byContradiction λW=>?_;simp only[not_or,Decidable.not_not]at W;obtain⟨rfl,hm,hd⟩:=W;have ba:=hs.mode.resolve_left hm;obtain⟨m',fr',v',B,D⟩:=a8 t (λ_ _=>rfl);exact By (hs.on t g) ba hd B ⟨fr',v',rfl,a1 _ _ D⟩
  have nb:¬Body Q Fin (Tr Q X T Fin) fr cs v:=λh=>hb (Tr.fold hs h)
  have:∃τ d,∀fr' cs' v' es,stepG Q true (G fr cs) (on v τ d) = .go (G fr' cs') v' es->¬Tr Q X T Fin fr' cs' v':=by refine Classical.byContradiction λW=>nb (.inr ⟨U,λτ d=>Classical.byContradiction λbb=>W ⟨τ,d,λfr' cs' v' es e t=>bb ⟨fr',cs',v',es,e,t⟩⟩⟩)
  obtain⟨τ,d,a0⟩:=this
  let t1:Nat->Question->Nat:=λi=>if i<g then t i else τ (d+(i-g))
  have an:∀i,i<g->t1 i=t i:=λi P=>by simp only[t1,P,if_true]
  have bm:∀i,t1 (g+i)=τ (d+i):=λi=>by
   have:¬g+i<g:=by omega
   simp only[t1,this,if_false]
   congr 1
   omega
  obtain⟨m',yH,vz,B,D⟩:=a8 t1 an;obtain⟨fr',cs',v',c,bf,be,⟨bq,bv⟩,a4⟩:=Nd E hX (hs.on t1 g) U B ⟨yH,vz,rfl,a1 _ _ D⟩;refine⟨(fr',cs',v',t1,g+c),⟨bf,?_,λN M=>?_⟩,by show g<=g+c;omega,an⟩
  .obtain⟨es,e⟩:=a4 [] τ d λi _ q=>by show t1 (g+i) q=τ (d+i) q;rw[bm]
   simp only[bo]at e;rw[DZ]at e;intro bp;exact a0 _ _ _ es e (bp.on hF τ (d+c))
  .dsimp only at M ⊢;have a7:∀i,i<g->N i=t i:=λi P=>by rw[M i (by omega),an i P]
   obtain⟨r1,r2⟩:=l N a7;obtain⟨es,e⟩:=a4 [dF Q] N g λi P q=>by show t1 (g+i) q=N (g+i) q;rw[M (g+i) (by omega)]
   rw[DZ]at e;refine⟨Pq r1 (mA e rfl),λk hk a9 vk S=>?_⟩;rcases Nat.lt_or_ge k n with am|bw
   .exact r2 k am a9 vk S
   .have:k=n:=by omega
    subst this;rw[r1]at S;simp only[Stepped.next.injEq]at S;obtain⟨rfl,e2,rfl⟩:=mX S;have hc:cs=[]:=by
     cases cs with
     |nil=>rfl
     |cons a b=>simp at e2
    exactλhf=>Y N g ⟨hc,hf⟩
 obtain⟨f,hf,hc⟩:=Kc (R:=R) (C:=C) _ start next
 have mono:∀n k,(f n).2.2.2.2<=(f (n+k)).2.2.2.2/\∀i,i<(f n).2.2.2.2->(f (n+k)).2.2.2.1 i=(f n).2.2.2.1 i:=by
  intro n k
  induction k with
  |zero=>exact⟨aW _,λ_ _=>rfl⟩
  |succ k ih=>obtain⟨B,D⟩:=hc (n+k);exact⟨aX ih.1 B,λi P=>(D i (aR P ih.1)).trans (ih.2 i P)⟩
 obtain⟨tape,ht⟩:∃τ:Nat->Question->Nat,∀n i,i<(f n).2.2.2.2->τ i=(f n).2.2.2.1 i:=by
  have ex:∀i,∃a:Question->Nat,∀n,i<(f n).2.2.2.2->a=(f n).2.2.2.1 i:=by
   intro i
   by_cases h:∃n,i<(f n).2.2.2.2
   .obtain⟨n,W⟩:=h;refine⟨(f n).2.2.2.1 i,λm hm=>?_⟩;rcases Nat.le_total n m with ad|ad
    .obtain⟨k,rfl⟩:=Nat.exists_eq_add_of_le ad;exact((mono n k).2 i W).symm
    .obtain⟨k,rfl⟩:=Nat.exists_eq_add_of_le ad;exact(mono m k).2 i hm
   .exact⟨λ_=>0,λn W=>bx ⟨n,W⟩ h⟩
  exact⟨λi=>Classical.choose (ex i),λn i P=>Classical.choose_spec (ex i) n P⟩
 obtain⟨k,fr',v',B,D⟩:=H tape;obtain⟨_,_,l⟩:=hf (k+1);exact(l tape (ht (k+1))).2 k (by omega) fr' v' B D
end
end
section
open Go.Conc
open Go.ConcN (sumTo upd sumTo_upd upd_ne upd_same)
section
variable {P:Ad}{bW:Loc->Prop}{S:Nat->Prop}{w w':Z}{t:Trace}{gs:Array Ah}{q:Nat->Nat}{a a':Ah}{sl:Option (Nat × Nat)}{Post:D->Z->Prop}
def Cf(hS:∀l,bW l->∃a:Addr,l = .cell a/\S a.block){n:Nat}{e:Event}(h:fX S n e):EvL bW n e:=by
 obtain⟨l,x,y⟩:=e;cases l with
 |cell c=>
  simp only[fX]at h;refine⟨λz f g=>?_,by simp,by simp,?_⟩
  .have:z.loc = .cell c:=by cases y<;>simp[MemAct.ofEvent,MemAct.touch?]at f<;>subst f<;>rfl
   rw[this]at g;obtain⟨o,e,j⟩:=hS _ g;cases e;exact bx j h.1
  .cases y<;>exact h.2
 |obj r=>
  simp only[fX]at h;refine⟨λz f g=>?_,by simp,by simp,?_⟩
  .have:z.loc = .obj r:=by cases x<;>cases y<;>simp[MemAct.ofEvent,MemAct.touch?]at f<;>subst f<;>rfl
   rw[this]at g;obtain⟨o,e,j⟩:=hS _ g;cases e
  .cases x<;>cases y<;>exact h
 |mark m=>simp only[fX]at h;subst h;exact⟨λz f=>by simp[MemAct.ofEvent,MemAct.touch?]at f,by simp,by simp,trivial⟩
 |output=>simp only[fX]at h
 |goroutines=>simp only[fX]at h
structure jX (P:Ad)(bW:Loc->Prop)(gs:Array Ah)(n:Nat)(t:Trace)(q:Nat->Nat)(a:Ah):Prop where
 zero:gs[0]?=some a
 leave:Leavers P t gs q
 fU:Past bW n t
def Ends (P:Ad)(Post:D->Z->Prop)(m:Machine)(t:Trace):Prop:=
 ∃N last o w' a,runNT P (N+1) m t=(.ended o w',a)/\runN P N m = .next last/\step P last = .ended o w'/\Good P Post last o w' a
def Ends.step{ops:Array MemOp}(a:stepT P m=(.next u,ops))(h:Ends P Post u (t++ops)):Ends P Post m t:=by obtain⟨n,last,o,w,r,f,g,j,l⟩:=h;exact⟨n+1,last,o,w,r,by rw[runNT_succ_next a];exact f,by rw[runN_succ_next a];exact g,j,l⟩
def Ends.now{o:Outcome}{ops:Array MemOp}(a:stepT P m=(.ended o w,ops))(h:Good P Post m o w (t++ops)):Ends P Post m t:=
 ⟨0,m,o,w,t++ops,by simp[runNT,a],rfl,by simp[Go.step,a],h⟩
def Ends.runs:∀{N:Nat} {m a:Machine} {t t':Trace},runNT P N m t=(.next a,t')->Ends P Post a t'->Ends P Post m t
 |0,m,a,t,t',h,f=>by simp only[runNT,Prod.mk.injEq,Stepped.next.injEq]at h;obtain⟨rfl,rfl⟩:=h;exact f
 |N+1,m,a,t,t',h,f=>by
  simp only[runNT]at h;cases g:stepT P m with
  |mk r j=>
   rw[g]at h;cases r with
   |next m1=>exact Ends.step g (Ends.runs h f)
   |ended o w=>cases h
def jX.step (h:jX P bW gs w.heap.size t q a)(D:a.status = .running) :
  (∃d,(∀a' w' es,stepG P true a (w.at d) = .go a' w' es->(∀e∈es,EvL bW w'.heap.size e)->w.heap.size<=w'.heap.size->
    ∃r o ops,stepT P (crowd gs w sl)=(.next (crowd r w' o),ops)/\r.size=gs.size/\jX P bW r w'.heap.size (t++ops) q a')/\
   ∀v es,stepG P true a (w.at d) = .ended (.done v) (w.at d) es->(∀e∈es,EvL bW w.heap.size e)->Post v (w.at d)->Ends P Post (crowd gs w sl) t)\/
  ∃d r o ops q',stepT P (crowd gs w sl)=(.next (crowd r (w.at d) o),ops)/\r.size=gs.size/\jX P bW r w.heap.size (t++ops) q' a/\sumTo r.size q'<sumTo gs.size q:=by
 obtain⟨h0,W,hP⟩:=h;have a7:∀g∈gs,awake g:=by
  intro g hg;obtain⟨i,N,rfl⟩:=Array.mem_iff_getElem.1 hg;rcases Nat.eq_zero_or_pos i with rfl|C
  .have:gs[0]=a:=by simpa [aP N]using h0
   rw[this];exact awake_of (.inl D)
  .exact awake_of ((W.old i _ C (aP N)).status.elim .inl λx=>.inr (.inr x))
 obtain⟨i,g,d,o,N,hg,an⟩:=crowd_pick (P:=P) (w:=w) (sl:=sl) a7 ⟨0,a,h0,D⟩;rcases Nat.eq_zero_or_pos i with rfl|C
 .obtain rfl:g=a:=by rw[h0]at N;exact(aJ N).symm
  refine .inl ⟨d,λa' w' es a8 Y U=>?_,λv es a1 Y ad=>?_⟩
  .have f:=runT_crowd_go (P:=P) (sl:=o) (i:=0) N (show stepG P (0 == 0) g (w.at d)=_ from a8);have R:0<gs.size:=(aO.1 h0).1;refine⟨_,o,_,an.trans f,by simp,by simp[R],⟨λj x B M=>?_,λj B=>?_⟩,(hP.mono U).own Y⟩
   .have Z:0≠j:=by omega
    rw[aS Z,Array.getElem?_map]at M;obtain⟨y,hy,rfl⟩:=aB.1 M;have S:=W.old j y B hy;rw[woken_quitsD S,Deaf_other t (by omega) _ (λop l=>by obtain⟨e,_,rfl⟩:=Go.Conc.mem_ofEvents l;rfl)];exact S
   .rw[Deaf_other t (g':=0) (by simp at B;omega) _ (λop l=>by obtain⟨e,_,rfl⟩:=Go.Conc.mem_ofEvents l;rfl)];exact W.above j (by simpa using B)
  .have f:=runT_many_ended (P:=P) (sl:=o) (i:=0) N (show stepG P (0 == 0) g (w.at d)=_ from a1);have a0:=hP.own (fn:=g.frame.fn) (pos:=g.frame.place) Y;refine Ends.now (an.trans f) ⟨v,rfl,ad,a0.clean,a0.over,⟨λx M=>?_,rfl⟩,λj x M B=>?_⟩
   .obtain⟨j,B⟩:=List.mem_iff_getElem?.1 M;rw[List.getElem?_drop]at B;exact⟨_,(W.old (1+j) x (by omega) (by simpa [crowd]using B)).leaves⟩
   .have S:=W.old j x (by omega) M;refine⟨q j,?_⟩;have e:(t++MemOp.ofEvents 0 g.frame.fn g.frame.place es).deaf j (t++MemOp.ofEvents 0 g.frame.fn g.frame.place es).size=Deaf t j:=
     Deaf_other t (g:=j) (g':=0) (by omega) _ (λop l=>by obtain⟨e,_,rfl⟩:=Go.Conc.mem_ofEvents l;rfl)
    rw[e];exact S.hears _
 .have S:=W.old i g C N;have a9:(i == 0)=false:=by simp;omega
  have R:i<gs.size:=(aO.1 N).1;cases am:q i with
  |zero=>rw[am]at S;rw[S.1]at hg;cases hg
  |succ k=>
   rw[am]at S;rcases S with⟨hf,_⟩|⟨_,g',es,hm,a4,ba⟩
   .rw[hf]at hg;cases hg
   have f:=runT_crowd_go (P:=P) (sl:=o) (i:=i) N (by rw[a9];exact a4 (w.at d));have U:((gs.map (woken P g g' (w.at d))).setIfInBounds i g').size=gs.size:=by simp
   have bb:sumTo gs.size (upd q i k)+(k+1)=sumTo gs.size q+k:=by have:=sumTo_upd q k id R;simpa [am]using this
   refine .inr ⟨d,_,o,_,upd q i k,an.trans f,U,⟨?_,⟨λj x B M=>?_,λj B=>?_⟩,hP.mute (by omega) hm⟩,by rw[U];omega⟩
   .have Z:i≠0:=by omega
    rw[aS Z,Array.getElem?_map,h0];simp[woken_run D]
   .by_cases Q:i=j
    .subst Q;rw[aT (by simpa using R)]at M;obtain rfl:=aJ M;rw[upd_same,Deaf_own];exact ba
    .rw[aS Q,Array.getElem?_map]at M;obtain⟨y,hy,rfl⟩:=aB.1 M;have a3:=W.old j y B hy;rw[woken_quitsD a3,upd_ne q k (Ne.symm Q),Deaf_other t Q _ (λop l=>by obtain⟨e,_,rfl⟩:=Go.Conc.mem_ofEvents l;rfl)];exact a3
   .rw[Deaf_other t (g':=i) (by simp at B;omega) _ (λop l=>by obtain⟨e,_,rfl⟩:=Go.Conc.mem_ofEvents l;rfl)];exact W.above j (by simpa using B)
end
end
section
open Go.Conc
open Relation (TransGen)
open Go.ConcN (sumTo)
def Sub (Q:Ad)(Fin:Ai->Z->Prop)(y x:Ai × List Ai × Z):Prop:=
 ¬(x.2.1=[]/\Fin x.1 x.2.2)/\∃f d a,stepG Q true (G x.1 x.2.1) (on x.2.2 f d) = .go (G y.1 y.2.1) y.2.2 a
def A9 {Q:Ad}{X:Ag->Prop}{T:dq}{Fin:Ai->Z->Prop}{fr:Ai}{cs:List Ai}{v:Z}(h:Tr Q X T Fin fr cs v):Acc (TransGen (Sub Q Fin)) (fr,cs,v):=by
 refine Acc.transGen (h (λfr cs v=>Acc (Sub Q Fin) (fr,cs,v)) λfr cs v _ hb=>?_);refine Acc.intro _ ?_;rintro⟨l,g,M⟩ ⟨r,C,d,D,f⟩;dsimp only at r f;rcases hb with a|⟨_,hb⟩
 .exact bx a r
 .obtain⟨o,j,N,B,e,z⟩:=hb C d;rw[f]at e;simp only[GStep.go.injEq]at e;obtain⟨e1,rfl,_⟩:=e;have y:l=o:=congrArg Goroutine.frame e1;have a2:g=j:=congrArg Goroutine.callers e1;subst y a2;exact z
section
variable {P:Ad}{F:Array Func}{G0:Base}{N:Nat}{S:Nat->Prop}{w v:Z}
def rI {d:Nat}(h:cM G0 0 S w v):cM G0 0 S (w.at d) v:=⟨h.size,h.same,h.hole,h.eH,h.high,λi a=>bx a (by omega),h.os,h.output,h.fix⟩
def Fs (N:Nat)(h:cM G0 0 S w v):cM G0 N S w (on v w.tape w.drawn):=⟨h.size,h.same,h.hole,h.eH,h.high,λ_ _ _=>rfl,h.os,h.output,h.fix⟩
def cM.any (h:cM G0 N S w v):cM G0 0 S w v:=⟨h.size,h.same,h.hole,h.eH,h.high,λi a=>bx a (by omega),h.os,h.output,h.fix⟩
end
structure xH (P:Ad)(F:Array Func)(X X':Ag->Prop)(T:dq)(Fin:Ai->Z->Prop)(G0:Base)(bW:Loc->Prop)(S:Nat->Prop)(gs:Array Ah)(w:Z)(t:Trace)(q:Nat->Nat)(fr:Ai)(cs:List Ai)(v:Z):Prop where
 Jh:jX P bW gs w.heap.size t q (G fr cs)
 fV:cM G0 0 S w v
 fN:∀l,bW l->∃a:Addr,l = .cell a/\S a.block
 ts:TS P X T (fr::cs)
 ht:Ht (df P T) v
 tr:Tr (imag P F) X' T Fin fr cs v
 Bs:G0.m<=w.heap.size
def uI (P:Ad)(F:Array Func)(X X':Ag->Prop)(T:dq)(Fin:Ai->Z->Prop)(G0:Base)(f:Ag):Prop:=
 ∀(bW:Loc->Prop) (S:Nat->Prop) (y:Array Ah) (w:Z) (sl:Option (Nat × Nat)) (t:Trace) (q:Nat->Nat) (fr:Ai) (cs:List Ai) (v:Z) (args:Ak),
  jX P bW y w.heap.size t q (G (Frame.enter P f args .normal) (fr::cs))->cM G0 0 S w v->(∀l,bW l->∃a:Addr,l = .cell a/\S a.block)->TS P X T (fr::cs)->jF T fr=0->T.ar fr.fn f args.size=true->Ht (df P T) v->G0.m<=w.heap.size->
  Tr (imag P F) X' T Fin (Frame.enter (imag P F) f args .normal) (fr::cs) v->
  ∃N o D r B Q g M j h C,runNT P N (crowd y w sl) t=(.next (crowd o D r),B)/\xH P F X X' T Fin G0 g M o D B Q j h C/\
   TransGen (Sub (imag P F) Fin) (j,h,C) (Frame.enter (imag P F) f args .normal,fr::cs,v)
section
variable {P:Ad}{F:Array Func}{X X':Ag->Prop}{T:dq}{Fin:Ai->Z->Prop}{G0:Base}{Post:D->Z->Prop}
def IX (E:Env P F X T G0)(hX:∀f,X f->(∃c n,¬X c/\T.ar c f n=true)->X' f\/(¬gL P f/\uI P F X X' T Fin G0 f))
  (ad:∀(S:Nat->Prop) (w v:Z) (fr:Ai),Fin fr v->cM G0 0 S w v->TS P X T [fr]->∃val es,stepG P true (G fr []) w = .ended (.done val) w es/\(∀e∈es,fX S w.heap.size e)/\Post val w)
  (x:Ai × List Ai × Z) (hx:Acc (TransGen (Sub (imag P F) Fin)) x) :
  ∀(M:Nat) (bW:Loc->Prop) (S:Nat->Prop) (gs:Array Ah) (w:Z) (sl:Option (Nat × Nat)) (t:Trace) (q:Nat->Nat),sumTo gs.size q<=M->xH P F X X' T Fin G0 bW S gs w t q x.1 x.2.1 x.2.2->Ends P Post (crowd gs w sl) t:=by
 induction hx with
 |intro x _ ih=>
  obtain⟨fr,cs,v⟩:=x;intro M
  induction M using Nat.strongRecOn with
  |ind M bm=>
   intro bW S gs w sl t q hM J;dsimp only at J;rcases J.Jh.step (Post:=Post) (sl:=sl) rfl with⟨d,a9,a0⟩|⟨d,a,j,g,q',bf,bw,hc,bv⟩
   .obtain⟨be,hb⟩:=J.tr.unfold
    by_cases l:cs=[]/\Fin fr v
    .obtain⟨rfl,l⟩:=l;obtain⟨val,es,e1,e2,e3⟩:=ad S (w.at d) v fr l (rI J.fV) J.ts;exact a0 val es e1 (λe he=>Cf J.fN (e2 e he)) e3
    .obtain⟨an,hb⟩:=hb.resolve_left l;obtain⟨B,R,v',es,hq,o⟩:=hb w.tape d;have C:Sub (imag P F) Fin (B,R,v') (fr,cs,v):=⟨l,w.tape,d,es,hq⟩;obtain⟨a1,_⟩:=o.unfold;have gY:=λN=>tc (R1:=[]) (R2:=[]) E (Fs N (rI (d:=d) J.fV)) (J.ht.on w.tape d) J.ts be.mode an
     simp only[bo]at gY;rw[show on v (w.at d).tape (w.at d).drawn=on v w.tape d from rfl,hq]at gY;have D:∀{g':Ah} {N c:Nat},uL G0 N S (w.at d) (stepG P true (G fr cs) (w.at d)) g' v' c->
       ∃a r j g,stepT P (crowd gs w sl)=(.next (crowd a r j),g)/\a.size=gs.size/\jX P bW a r.heap.size (t++g) q g'/\cM G0 0 S r v'/\G0.m<=r.heap.size:=by
      rintro g' N c ⟨r,bq,r1,r2,r3,_,r5⟩;obtain⟨a,j,g,k1,k2,Y⟩:=a9 _ _ _ r1 (λe he=>Cf J.fN (r5 e he)) r3;exact⟨a,r,j,g,k1,k2,Y,r2.any,aX J.Bs r3⟩
     rcases gY v'.drawn with⟨fp,a3,e,hp,_⟩|⟨U,y,e,h⟩
     .have:B=fp:=congrArg Goroutine.frame e;subst this;rcases a1.mode with h|h<;>(rw[hp]at h;cases h)
     .have e1:B=U:=congrArg Goroutine.frame e;have e2:R=y:=(congrArg Goroutine.callers e).trans (bo y);subst e1 e2;rcases h with⟨c,hc,W,bl,_,h⟩|⟨f,args,a8,e3,e4,bb,am,h⟩
      .obtain⟨a,r,j,g,k1,k2,Y,k4,k5⟩:=D (h (by have:=hc.1;omega));rw[bo]at Y;exact Ends.step k1 (ih (B,R,v') (.single C) _ bW S a r j (t++g) q (aW _) ⟨Y,k4,J.fN,bl,W,o,k5⟩)
      .subst e3 e4;rcases hX f a8 ⟨fr.fn,args.size,J.ts.1.nX,am⟩with a7 | ⟨hB,ba⟩
       .exact bx a7 a1.ts.1.nX
       .obtain⟨c,hc,W,h⟩:=h.resolve_left hB;obtain⟨a,r,j,g,k1,k2,Y,k4,k5⟩:=D (h (by have:=hc.1;omega));rw[bo]at Y;obtain⟨N,a4,w2,bp,t2,q2,Q,S2,U,y,v2,r1,r2,r3⟩:=ba bW S a r j (t++g) q fr cs v' args Y k4 J.fN J.ts bb am W k5 o;exact Ends.step k1 (Ends.runs r1 (ih (U,y,v2) (.tail r3 C) _ Q S2 a4 w2 bp t2 q2 (aW _) r2))
   .exact Ends.step bf (bm (sumTo a.size q') (by omega) bW S a (w.at d) j (t++g) q' (aW _) ⟨hc,rI J.fV,J.fN,J.ts,J.ht,J.tr,J.Bs⟩)
end
end
section
open Go.Conc
section
variable {P:Ad}{gs:Array Ah}{w w₁:Z}{sl:Option (Nat × Nat)}{i j k:Nat}{g g₂ gj:Ah}{es:Array Event}{c cap s r:Nat}{buf:Ak}{tm closed:Bool}{v z zj:D}
 {blocking:Bool} {shape shj:CommShape} {cs cases:Array CommCase}
def Pb (D:gs[i]?=some g)(h:stepG P (i == 0) g w = .comm g₂ #[rcase c z] blocking shape w₁ es)(C:w₁.heap[c]?=some (.chan cap #[] closed s r tm))
  (o:j≠i) (M:gs[j]?=some (parked gj cs shj)) (B:cs[k]?=some (scase c v zj)) (hp:partners (gs.setIfInBounds i ph) c true=[(j,k)]) :
  runT P (crowd gs w sl) i=(.next (crowd ((gs.setIfInBounds j (gj.finishComm P cs shj k undef false)).setIfInBounds i (g₂.finishComm P #[rcase c z] shape 0 v true)) (w₁.setChan c cap #[] closed (s+1) (r+1) tm) sl),
   MemOp.ofEvents i g.frame.fn g.frame.place es++#[{ g:=j,fn:=gj.frame.fn,pos:=gj.frame.place,act:=.send c s },{ g:=i,fn:=g₂.frame.fn,pos:=g₂.frame.place,act:=.recv c r cap },
    { g:=j,fn:=gj.frame.fn,pos:=gj.frame.place,act:=.sendDone c s },{ g:=i,fn:=g₂.frame.fn,pos:=g₂.frame.place,act:=.recvDone c r }]):=by
 rw[runT_crowd_comm D h];have a:=stand_get (i:=i) o M;have f:=finishPartner_at P (gs.setIfInBounds i ph) a (cs:=cs) (sh:=shj) rfl k undef;have l:(gs.setIfInBounds i ph).getD j default=parked gj cs shj:=by rw[aU,a];rfl
 have y:offeredValue (gs.setIfInBounds i ph) j k=v:=by simp[offeredValue,a,parked,B,scase]
 simp[communicate,ways,rcase,C,hp,choose,Sem.run,Question.forced,bind,Sem.bind,pure,World.setChan,crowd,f,l,y,set_stand2,finishComm_parked,scase,parked,B]
 rfl
def Pv (M:gs[i]?=some g)(h:stepG P (i == 0) g w = .comm g₂ cases blocking shape w₁ es)(B:cases[k]?=some (scase c v z))
  (C:∀(m:Nat) (c':CommCase),m≠k->cases[m]?=some c'->NoWays w₁ (gs.setIfInBounds i ph) c')
  (f:w₁.heap[c]?=some (.chan cap buf false s r tm)) (y:j≠i) (N:gs[j]?=some (parked gj #[rcase c zj] shj)) (hp:partners (gs.setIfInBounds i ph) c false=[(j,0)]) :
  runT P (crowd gs w sl) i=(.next (crowd ((gs.setIfInBounds j (gj.finishComm P #[rcase c zj] shj 0 v true)).setIfInBounds i (g₂.finishComm P cases shape k undef false)) (w₁.setChan c cap buf false (s+1) (r+1) tm) sl),
   MemOp.ofEvents i g.frame.fn g.frame.place es++#[{ g:=i,fn:=g₂.frame.fn,pos:=g₂.frame.place,act:=.send c s },{ g:=j,fn:=gj.frame.fn,pos:=gj.frame.place,act:=.recv c r cap },
    { g:=i,fn:=g₂.frame.fn,pos:=g₂.frame.place,act:=.sendDone c s },{ g:=j,fn:=gj.frame.fn,pos:=gj.frame.place,act:=.recvDone c r }]):=by
 have D:ways w₁ (gs.setIfInBounds i ph) (scase c v z)=[.partner j 0]:=by simp[ways,scase,f,hp]
 have a:=stand_get (i:=i) y N;have l:=finishPartner_at P (gs.setIfInBounds i ph) a (cs:=#[rcase c zj]) (sh:=shj) rfl 0 v;have o:(gs.setIfInBounds i ph).getD j default=parked gj #[rcase c zj] shj:=by rw[aU,a];rfl
 rw[runT_crowd_comm M h];unfold communicate;simp only[ready_one B (by rw[D];simp) C,D];rw[if_neg]
 .simp[choose,Sem.run,Question.forced,bind,Sem.bind,pure,scase,crowd,f,l,o,set_stand2,finishComm_parked,rcase,parked,World.setChan]
  rfl
 .rw[Bool.not_eq_true];exact any_ill (made_of_one B (made_send v z f) C)
end
abbrev sr (c d:Nat)(v z z':D):Array CommCase:=#[scase c v z,rcase d z']
section
variable {P:Ad}{g:Ah}{w:Z}{sh:CommShape}{c d:Nat}{v z z':D}
def G2 {cap s r f y o:Nat}{buf a:Ak}{tm h:Bool}(j:w.heap[c]?=some (.chan cap buf false s r tm))(l:w.heap[d]?=some (.chan f a false y o h)):(parked g (sr c d v z z') sh).again w=parked g (sr c d v z z') sh:=by simp[Goroutine.again,parked,scase,rcase,sr,j,l]
def Rm (a a':Ah){cap s r h B y:Nat}{buf f:Ak}{tm j:Bool}(l:w.heap[c]?=some (.chan cap buf false s r tm))(o:w.heap[d]?=some (.chan h f false B y j)):woken P a a' w (parked g (sr c d v z z') sh)=parked g (sr c d v z z') sh:=by
 unfold woken;split
 .exact G2 l o
 .rfl
def MZ (a:c≠d):offersAt (parked g (sr c d v z z') sh) c true=[0]:=by simp[offersAt,parked,sr,scase,rcase]
end
end
end Go.Proofs.YthbdpfccfcceiaaGreatDoor
