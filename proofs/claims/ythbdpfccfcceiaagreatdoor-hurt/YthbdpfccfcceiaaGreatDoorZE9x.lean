/-
  Of hurt_card.
-/
import Derived.Test.YthbdpfccfcceiaaGreatDoorZE2x
import Derived.Orders
import Derived.Conc.Company
import Derived.Conc.DeferLaws
import Derived.Conc.FxSpec
set_option linter.all false
namespace Go.Proofs.YthbdpfccfcceiaaGreatDoor
open Go.Conc
variable {d:Addr}
section
variable {P:Ad}{F:Array Func}{X:Ag->Prop}{T:dq}{Fin:Ai->Z->Prop}{G0:Base}{b:Ai}{a:Act}{k:List Item}{cs:List Ai}{v:Z}
def Tr.ok(hb:P.info? bad=none)(hG:P.globals.size<=G0.n)(hF:lq F){ops:Am}{i:Nat}{rest:List Nat}{o:Oper}(t:Tr (imag P F) X T Fin (b.at a (.inRegion ops (i::rest)::k)) cs v)(f:cs≠[])(j:b.kind = .normal)
  (l:ops[i]?=some o) (h:o.guard=none) (ht:ig P o.op=true) (τ:Nat->Question->Nat) (d:Nat):∃nx v',(execOp a.eval o).run (imag P F) (jJ v τ d) = .ok nx v':=by
 have g:(b.at a (.inRegion ops (i::rest)::k)).eval=a.eval:=funext λx=>Frame.eval_at b a _ x
 have:=t.oper f (ops:=ops) (i:=i) (rest:=rest) (k:=k) (o:=o) rfl j rfl l (by simp[Region.wanted,h]) (λc e=>by rw[e]at ht;cases ht) τ d;rw[g]at this;refine this λe v' r=>?_;have y:=mz (G0:=G0.n) 0 (jJ v τ d);have:=bT.op (P:=P) (F:=F) (G0:=plain G0.n) (Lk:=df (imag P F) T) hb hG a.eval (λ_=>rfl) (λ_=>rfl) o (hF.op o) ht (λ_=>False) 0 _ _ #[] y (t.unfold.1.ht.on τ d);rw[r]at this;exact this.1
def CB {P : Ad}(f : D -> Ac -> Sem (ForInStep Ac))(j : ∀ c s,(∀ n,c ≠ Value.int .u8 n) -> f c s = Go.stuck "bytesToString: byte expected")(r : ∀ n s,∃ g,f (Value.int .u8 n) s = Pure.pure (ForInStep.yield g)) : ∀ (l : List D) (s g : Ac) (w w' : Z),Sem.run P (forIn l s f) w = Result.ok g w' -> w' = w /\ ∀ c ∈ l,∃ n,c = Value.int .u8 n
 |[],_,_,_,_,h=>by cases h;exact⟨rfl,λc a=>by cases a⟩
 |x::l,s,g,w,w',h=>by
  rw[List.forIn_cons,Sem.run_bind]at h
  by_cases o:∃n,x=Value.int .u8 n
  .obtain⟨n,rfl⟩:=o;obtain⟨B,e⟩:=r n s;rw[e]at h;have y:=CB f j r l B g w w' h;refine⟨y.1,λc a=>?_⟩;rcases bE.1 a with rfl|a
   .exact⟨n,rfl⟩
   .exact y.2 c a
  .rw[j x s λn e=>o ⟨n,e⟩]at h;cases h
def zh {P:Ad}{w:Z}(hv:qn w)(a:Addr):∀(n i:Nat) (f g:Ak) (w':Z),(loadCellsFrom a i n f).run P w = .ok g w'->w'=w/\∃l:List D,l.length=n/\g=f++l.toArray/\∀j x,l[j]?=some x->w.cell? (a.add (i+j))=some x
 |0,i,f,g,w',h=>by cases h;exact⟨rfl,[],rfl,by simp,by simp⟩
 |n+1,i,f,g,w',h=>by
  unfold loadCellsFrom at h;rw[Sem.run_bind]at h;cases r:w.cell? (a.add i)with
  |none=>
   exfalso
   obtain⟨Q,B⟩:=hv P (a.add i) false;have:(Go.load (a.add i)).run P w = .halt Q w:=by simp only[Go.load,Sem.run,r];rw[show(Mode.plain == Mode.atomic)=false from rfl,B]
   rw[this]at h;cases h
  |some x=>
   have:(Go.load (a.add i)).run P w = .ok x w:=by simp only[Go.load,Sem.run,r]
   rw[this]at h;obtain⟨e,l,C,M,N⟩:=zh hv a n (i+1) (f.push x) g w' h;refine⟨e,x::l,by simp[C],by simp[M],λj y o=>?_⟩;cases j with
   |zero=>simp at o;subst o;simpa using r
   |succ j=>rw[show i+(j+1)=i+1+j by omega];exact N j y (by simpa using o)
def Im{P:Ad}{w w':Z}(hv:qn w){n c:Nat}{x:D}(h:(Conv.bytesToString (.slice (some d) n c)).run P w = .ok x w'):w'=w/\∀j,j<n->∃m,w.cell? (d.add j)=some (.int .u8 m):=by
 unfold Conv.bytesToString at h;dsimp only at h;rw[Sem.run_bind]at h;cases f:(loadCells d n).run P w with
 |halt e g=>rw[f]at h;cases h
 |ok a g=>
  obtain⟨rfl,l,N,o,y⟩:=zh hv d n 0 #[] a g f;rw[f]at h;dsimp only[Result.andThen]at h;rw[Sem.run_bind]at h;simp only[o,Array.empty_append,List.forIn_toArray]at h;generalize C:Sem.run P (forIn l _ _) g=r at h;cases r with
  |halt e M=>cases h
  |ok s M=>
   have hb:=CB (P:=P) _ (λc s B=>by
    split
    .rename_i n;exact bx rfl (B n)
    .rfl) (λn s=>⟨_,rfl⟩) l _ _ _ _ C
   refine⟨?_,λj Q=>?_⟩
   .have:=hb.1;subst this;cases h
    rfl
   .obtain⟨m,e⟩:=hb.2 _ (List.getElem_mem (l:=l) (n:=j) (by omega));exact⟨m,by have:=y j _ (aQ (by omega));rw[e]at this;simpa using this⟩
/-! ### the function that looks -/
def QC (ts tstr:Af):Am:=#[cp (some 1) (.call ⟨.builtin .cap,#[.tmp 0],#[ts]⟩),cp (some 2) (.slice ts (.tmp 0) none (some (.tmp 1)) none),cp (some 3) (.convert ts tstr (.tmp 2))]
def uj (ts tstr:Af):Code:=.region 0 (QC ts tstr) false
def top (tf:Ag)(x:Ae):Oper:=cp none (.call ⟨.value (.func tf),#[x],#[]⟩)
structure xR (P Q:Ad)(tf:Ag)(ts:Af)(fn:Func)(tstr e:Af):Prop where
 at_:Q.funcs[tf]?=some fn
 name : (fn.name == "runtime.NumGoroutine") = false
 body:fn.body=some (uj ts tstr)
 ntmps:fn.ntmps=4
 results:fn.results=#[]
 ll:P.underlying ts=some (.slice e)
 FY:P.underlying e=some (.int .u8)
 cells:P.cellsOf e=1
 info:∃i,P.info? e=some i
 str:P.underlying tstr=some .string
def tY{Q:Ad}{t:Af}{d:TypeDesc}(h:Q.underlying t=some d)(w:Z):(Go.underlying t).run Q w = .ok d w:=by
 simp only[Go.underlying];show(match Q.underlying t with | some d => (Pure.pure d : Sem TypeDesc) | none => Go.stuck "no such type").run Q w = _
 rw[h];rfl
variable {tf:Ag}{fn:Func}{ts tstr e:Af}
def looked (hb:P.info? bad=none)(hG:P.globals.size<=G0.n)(hF:lq F)(r:eF Fin)(f:xR P (imag P F) tf ts fn tstr e){x:Ae}(t:Tr (imag P F) X T Fin (b.at a (.inRegion #[top tf x] [0]::k)) cs v)(hc:cs≠[])(hk:b.kind = .normal) :
  Ru (imag P F) Fin (b.at a (.inRegion #[top tf x] [0]::k),cs,v) (b.at a (.inRegion #[top tf x] []::k),cs,v)/\∃base l c,a.eval x = .slice base l c/\∀y,base=some y->∀j,j<c->∃m,v.cell? (y.add j)=some (.int .u8 m):=by
 have R:b.kind≠.early:=by rw[hk];simp
 have c1:=bV.call (Q:=imag P F) (Fin:=Fin) (b:=b) (a:=a) (k:=k) (ops:=#[top tf x]) (i:=0) (rest:=[]) (o:=top tf x) (args:=#[x]) hc rfl rfl R rfl f.at_ f.name f.body;have e1:(#[x].map a.eval++Array.replicate (fn.ntmps-(#[x]:Array Ae).size) undef:Ak)=#[a.eval x,undef,undef,undef]:=by rw[f.ntmps];simp
 rw[e1]at c1;have c2:=c1.trans r (bV.region (by simp));have t2:=(c2 v).tr r t;dsimp only at t2;obtain⟨nx,v1,r1⟩:=t2.ok hb hG hF (by simp) rfl (o:=cp (some 1) (.call ⟨.builtin .cap,#[.tmp 0],#[ts]⟩)) rfl rfl rfl v.tape v.drawn;have m1:(#[Operand.tmp 0].map (Act.eval ⟨#[a.eval x,undef,undef,undef],[]⟩))=#[a.eval x]:=by simp[Act.eval]
 have g:(Builtin.cap_ #[ts] 0 (#[Operand.tmp 0].map (Act.eval ⟨#[a.eval x,undef,undef,undef],[]⟩)) >>= λy=>(Pure.pure (Next.value y):Sem Next)).run (imag P F) v = .ok nx v1:=r1;rw[m1,Sem.run_bind]at g;have M:∀w,(Go.underlying ts).run (imag P F) w = .ok (.slice e) w:=tY f.ll;obtain⟨base,l,c,W⟩:∃base l c,a.eval x = .slice base l c:=by unfold Builtin.cap_ at g;simp only[List.getElem?_toArray,List.getElem?_cons_zero]at g;rw[Sem.run_bind,M]at g;dsimp only[Result.andThen]at g;cases hv:a.eval x<;>rw[hv]at g<;>first|exact⟨_,_,_,rfl⟩|cases g
 have q1:∀w,(execOp (Act.eval ⟨#[a.eval x,undef,undef,undef],[]⟩) (cp (some 1) (.call ⟨.builtin .cap,#[.tmp 0],#[ts]⟩))).run (imag P F) w = .ok (.value (goInt c)) w:=by
  intro w;show(Builtin.cap_ #[ts] 0 (#[Operand.tmp 0].map (Act.eval ⟨#[a.eval x,undef,undef,undef],[]⟩)) >>= λy=>(Pure.pure (Next.value y):Sem Next)).run (imag P F) w=_;rw[m1,Sem.run_bind,W];unfold Builtin.cap_;simp only[List.getElem?_toArray,List.getElem?_cons_zero];rw[Sem.run_bind,M]
  rfl
 have N:=c2.trans r (bV.value (by simp) (o:=cp (some 1) (.call ⟨.builtin .cap,#[.tmp 0],#[ts]⟩)) rfl rfl (base_kind tf) q1);have t3:=(N v).tr r t;have a3:(Act.put ⟨#[a.eval x,undef,undef,undef],[]⟩ (some 1) (goInt c))=⟨#[.slice base l c,goInt c,undef,undef],[]⟩:=by rw[W];rfl
 rw[show(cp (some 1) (.call ⟨.builtin .cap,#[.tmp 0],#[ts]⟩)).dst=some 1 from rfl,a3]at N;have q2:∀w,(execOp (Act.eval ⟨#[.slice base l c,goInt c,undef,undef],[]⟩) (cp (some 2) (.slice ts (.tmp 0) none (some (.tmp 1)) none))).run (imag P F) w = .ok (.value (.slice base c c)) w:=by
  intro w;show(Instr.sliceAt ts (.slice base l c) none (some (goInt c)) none >>= λy=>(Pure.pure (Next.value y):Sem Next)).run (imag P F) w=_;rw[Sem.run_bind];unfold Instr.sliceAt;rw[Sem.run_bind,M];dsimp only[Result.andThen];unfold Instr.slice;rw[Sem.run_bind,M];have u2:∀w,(Go.sizeOf e).run (imag P F) w = .ok 1 w:=by
   intro w;obtain⟨i,Z⟩:=f.info;have hn:i.size=1:=by have:=f.cells;simpa [Program.cellsOf,Z]using this
   show((match(imag P F).info? e with | some i => (Pure.pure i : Sem TypeInfo) | none => Go.stuck "no such type") >>= fun i => (Pure.pure i.size : Sem Nat)).run (imag P F) w = _
   rw[show(imag P F).info? e=P.info? e from rfl,Z];show Result.ok i.size w=_;rw[hn]
  simp[Instr.sliceBounds,Instr.sliceBound,asIntOf,goInt,u2];cases base<;>simp[Addr.add]
 have c4:=N.trans r (bV.value (by simp) (o:=cp (some 2) (.slice ts (.tmp 0) none (some (.tmp 1)) none)) rfl rfl (base_kind tf) q2);have a4:(Act.put ⟨#[.slice base l c,goInt c,undef,undef],[]⟩ (some 2) (.slice base c c))=⟨#[.slice base l c,goInt c,.slice base c c,undef],[]⟩:=rfl;rw[show(cp (some 2) (.slice ts (.tmp 0) none (some (.tmp 1)) none)).dst=some 2 from rfl,a4]at c4;have t4:=(c4 v).tr r t;dsimp only at t4;have S:tN P ts tstr=true:=by simp[tN,f.ll,f.str,f.FY]
 obtain⟨Y,v2,r2⟩:=t4.ok hb hG hF (by simp) rfl (o:=cp (some 3) (.convert ts tstr (.tmp 2))) rfl rfl S v.tape v.drawn;have C:(Go.convert ts tstr (.slice base c c) >>= λy=>(Pure.pure (Next.value y):Sem Next)).run (imag P F) v = .ok Y v2:=r2;have D:∀w,(Go.convert ts tstr (.slice base c c)).run (imag P F) w=(Conv.bytesToString (.slice base c c)).run (imag P F) w:=by
  intro w;unfold Go.convert;rw[Sem.run_bind,M];dsimp only[Result.andThen];rw[Sem.run_bind,tY (Q:=imag P F) f.str];dsimp only[Result.andThen];rw[Sem.run_bind,tY (Q:=imag P F) f.FY]
  rfl
 have key:∃y,(Conv.bytesToString (.slice base c c)).run (imag P F) v = .ok y v/\∀z,base=some z->∀j,j<c->∃m,v.cell? (z.add j)=some (.int .u8 m):=by
  rw[Sem.run_bind,D]at C;cases U:(Conv.bytesToString (.slice base c c)).run (imag P F) v with
  |halt h v3=>rw[U]at C;cases C
  |ok y v3=>
   cases base with
   |none=>cases U;exact⟨_,rfl,λz h=>by cases h⟩
   |some z=>obtain⟨rfl,h⟩:=Im t.unfold.1.ht.no U;exact⟨y,rfl,λz' h'=>by cases h';exact h⟩
 obtain⟨y,hy,B⟩:=key;refine⟨(c4 v).trans r ?_,base,l,c,W,B⟩;refine Ru.trans r (Ru.go (by simp) v.tape v.drawn (τ':=v.tape) (d':=v.drawn) (v':=v) (stepG_value (o:=cp (some 3) (.convert ts tstr (.tmp 2))) (v:=y) rfl rfl (base_kind tf) ?_)) ?_
 .show(Go.convert ts tstr (.slice base c c) >>= λy=>(Pure.pure (Next.value y):Sem Next)).run (imag P F) v = .ok (.value y) v;rw[Sem.run_bind,D,hy]
  rfl
 .refine((bV.fM (by simp)).trans r ((bV.fin (by simp)).trans r (.go (by simp) (es:=#[]) λw=>?_))) v;rw[stepG_leave (b:=Go.Conc.base tf) rfl rfl f.at_ (results_none f.results _ _ w) (events_results_none f.results _ _)]
  rfl
end
section
open Relation (TransGen)
structure Ins where
 jf:Ag
 tf:Ag
 ts:Af
 ι:Ag->Option Ag
def eU (I:Ins):Op->Op
 |.call c=>match c.callee with
  |.value (.func f)=>.call { c with callee:=.value (.func ((I.ι f).getD f)) }
  |_=>.call c
 |o=>o
def qo (I:Ins)(o:Oper):Oper:={ o with op:=eU I o.op,after:=#[] }
def iN:Op->Option Ae
 |.call c=>match c.callee with
  |.builtin .append=>c.args[0]?
  |_=>none
 |_=>none
def gA (I:Ins)(o:Oper):Code:=match iN o.op with
 |some x=>.seq (.region 0 #[top I.tf x] false) (.region 0 #[qo I o] false)
 |none=>.region 0 #[qo I o] false
def mQ (I:Ins)(ops:Am):List Nat->Code
 |[]=>.skip
 |i::r=>.seq (gA I (ops.getD i default)) (.seq (dC I.jf) (mQ I ops r))
def ie (ops:Am)(listed:Array Bool):List Nat:=(List.range ops.size).filter λi=>!listed.getD i true && ((ops[i]?).map (·.after.all λe=>!Region.binds .any e || listed.getD e.on false)).getD false
def rp (s:Nat)(f:Nat->Code):List Nat->Code
 |[]=>.skip
 |[i]=>f i
 |i::j::r=>.seq (.region 9 (je s) true) (.cond (.tmp s) (f i) (rp s f (j::r)))
def mP (I:Ins)(ops:Am)(s:Nat):Nat->Array Bool->Code
 |0,_=>.skip
 |n+1,listed=>rp s (λi=>.seq (gA I (ops.getD i default)) (.seq (dC I.jf) (mP I ops s n (listed.setIfInBounds i true)))) (ie ops listed)
def gy (I:Ins)(s:Nat):Code->Code
 |.seq a b=>.seq (gy I s a) (gy I s b)
 |.cond c a b=>.cond c (gy I s a) (gy I s b)
 |.region _ f false=>mQ I f (List.range f.size)
 |.region _ f true=>mP I f s f.size (Array.replicate f.size false)
 |c=>c
/-! ### what is asked of the program's text -/
def vK (n:Nat):Ae->Bool
 |.tmp t=>t<n
 |_=>true
def Bh (P:Ad)(I:Ins)(c:Call):Bool:=c.args.size == 2 && (c.argTypes[0]? == some I.ts) && match c.argTypes[1]? with
 |some t=>match P.underlying t with
  |some (.int _)=>false
  |some _=>true
  |none=>false
 |none=>false
def sI (P:Ad)(I:Ins)(c:Call):Bool:=match c.callee with
 |.builtin .append=>Bh P I c
 |.value (.func f)=>(I.ι f).isSome && match P.funcs[f]? with
  |some fn=>c.args.size<=fn.ntmps
  |none=>false
 |_=>iX P (.call c)
def jj (P:Ad)(I:Ins)(n:Nat)(o:Oper):Bool:=
 o.guard.isNone && (match o.dst with|some d=>d<n|none=>true) && o.op.operands.all (vK n) && ig P o.op && match o.op with
  |.call c=>sI P I c
  |op=>iX P op
def kN (P:Ad)(I:Ins)(n:Nat):Code->Bool
 |.skip=>true
 |.ret=>true
 |.seq a b=>kN P I n a && kN P I n b
 |.cond c a b=>vK n c && kN P I n a && kN P I n b
 |.region _ f d=>f.all (jj P I n) && (!d || !Region.departs f)
 |_=>false
structure rX (P Q:Ad)(I:Ins)(f f':Ag)(fn fn':Func)(c:Code)(r:Nat):Prop where
 tL:P.funcs[f]?=some fn
 Eo : (fn.name == "runtime.NumGoroutine") = false
 Em:fn.body=some c
 Ep:fn.results=#[.tmp r]
 Ph:r<fn.ntmps
 ok:kN P I fn.ntmps c=true
 zM:Q.funcs[f']?=some fn'
 Ey : (fn'.name == "runtime.NumGoroutine") = false
 nk:fn'.body=some (.seq (dC I.jf) (gy I fn.ntmps c))
 Ez:fn'.ntmps=fn.ntmps+1
 EA:fn'.results=#[.tmp r]
def qw (P:Ad)(I:Ins)(n:Nat):List Item->List Item->Prop
 |[],f=>f=[]
 |.code c::k,f=>kN P I n c=true/\∃g,f = .code (gy I n c)::g/\qw P I n k g
 |.inRegion a r::k,f=>(∀i∈r,∃o,a[i]?=some o/\jj P I n o=true)/\∃g,(f = .code (mQ I a r)::g\/∃m t listed,r=Region.linearise.go .any a m t listed []/\f = .code (mP I a n m listed)::g)/\qw P I n k g
 |_::_,_=>False
section
variable (P Q:Ad)(I:Ins)
def uM (fr z:Ai):Prop:=∃f h fn g c r a x j l,rX P Q I f h fn g c r/\fr=(base f).at a j/\z=(base h).at ⟨a.tmps.push x,[]⟩ l/\a.defers=[]/\a.tmps.size=fn.ntmps/\qw P I fn.ntmps j l
def xQ (fr z:Ai):Prop:=∃f h fn g c r a x j l,rX P Q I f h fn g c r/\fr={ (base f).at a j with mode:=.returning }/\z={ (base h).at ⟨a.tmps.push x,[]⟩ l with mode:=.returning }/\a.defers=[]/\a.tmps.size=fn.ntmps
def GN (fr z:Ai):Prop:=∃f j fn h c r a x g i o y k rest l,rX P Q I f j fn h c r/\fr=(base f).at a (.inRegion g (i::y)::k)/\g[i]?=some o/\jj P I fn.ntmps o=true/\
 z=(base j).at ⟨a.tmps.push x,[]⟩ (.inRegion #[qo I o] [0]::.code (.seq (dC I.jf) rest)::l)/\a.defers=[]/\a.tmps.size=fn.ntmps/\qw P I fn.ntmps (.inRegion g y::k) (.code rest::l)
def xP:List Ai->List Ai->Prop
 |[],f=>f=[]
 |p::g,f=>∃q a,f=q::a/\GN P Q I p q/\xP g a
end
/-! ### the imagined program waits in its loop of empty blocks -/
section
variable {Q:Ad}{X:Ag->Prop}{T:dq}{Fin:Ai->Z->Prop}{jf:Ag}{fn:Func}{xq xq' x y:Ai × List Ai × Z}{c:Nat}{z z':Ai}{zs zs':List Ai}{v:Z}
def kG (Q:Ad)(Fin:Ai->Z->Prop)(x y:Ai × List Ai × Z):Prop:=∃a d,TransGen (Sub Q Fin) (y.1,y.2.1,on y.2.2 a d) x
def Ru.strict (h:Ru Q Fin x y)(a:x.2.1.length≠y.2.1.length\/x.2.2.heap.size≠y.2.2.heap.size):kG Q Fin x y:=by
 obtain⟨f,d,h⟩:=h;rcases h with e|h
 .exfalso
  rw[e]at a;exact a.elim (λh=>h rfl) (λh=>h rfl)
 .exact⟨f,d,h⟩
def kG.then (hF:eF Fin){f:Ai × List Ai × Z}(h:kG Q Fin x y)(k:Ru Q Fin y f):kG Q Fin x f:=by
 obtain⟨j,d,h⟩:=h;obtain⟨o,r,k⟩:=k;obtain⟨a,d2,g⟩:=k.on hF j d;rcases g with e|g
 .exact⟨a,d2,by have l:(y.1,y.2.1,on y.2.2 j d)=(f.1,f.2.1,on f.2.2 a d2):=e;rw[<- l];exact h⟩
 .exact⟨a,d2,mB g h⟩
def fu (Q:Ad)(Fin:Ai->Z->Prop)(jf:Ag)(xq:Ai × List Ai × Z)(c:Nat)(z:Ai)(zs:List Ai):Prop:=
 ∃(b:Ai) (a:Act) (k:List Item) (f:List Ai),xq.2.1=b.at a (.inRegion #[kV jf] [0]::k)::f/\JF jf c xq.1/\f≠[]/\bV Q Fin (b.at a (.inRegion #[kV jf] []::k),f) (z,zs)
def fu.ru (j:lY Q jf fn)(hF:eF Fin)(h:fu Q Fin jf xq c z zs):kG Q Fin xq (z,zs,xq.2.2):=by obtain⟨fr,cs,v⟩:=xq;obtain⟨b,a,k,g,e,f,o,l⟩:=h;dsimp only at e f ⊢;subst e;exact kG.then hF (Ru.strict (x:=(fr,b.at a (.inRegion #[kV jf] [0]::k)::g,v)) (y:=(b.at a (.inRegion #[kV jf] []::k),g,v)) (f.leave j hF v) (.inl (by simp))) (l v)
def fu.more (hF:eF Fin)(h:fu Q Fin jf xq c z zs)(k:bV Q Fin (z,zs) (z',zs')):fu Q Fin jf xq c z' zs':=by obtain⟨b,a,l,o,e,j,f,g⟩:=h;exact⟨b,a,l,o,e,j,f,g.trans hF k⟩
def fu.push (hF:eF Fin)(h:fu Q Fin jf xq c z zs)(j:(c:Int)<iS):∃xq' τ d,TransGen (Sub Q Fin) xq' xq/\fu Q Fin jf xq' (c+1) z zs/\xq'.2.2=on (cy xq.2.2 lA) τ d:=by obtain⟨fr,cs,v⟩:=xq;obtain⟨b,a,k,B,e,r,l,y⟩:=h;dsimp only at e r;obtain⟨f,g,o⟩:=r.push (Q:=Q) hF j (cs:=cs) (by rw[e];simp) v;obtain⟨τ,d,o⟩:=o.strict (.inr (by simp[cy]));exact⟨(f,cs,on (cy v lA) τ d),τ,d,o,⟨b,a,k,B,e,g,l,y⟩,rfl⟩
def fu.start(j:lY Q jf fn)(hF:eF Fin){b:Ai}{a:Act}{k:List Item}(r:b.kind≠.early)(f:zs≠[])(h:kG Q Fin xq (b.at a (.code (dC jf)::k),zs,v)) :
  ∃xq' τ d,TransGen (Sub Q Fin) xq' xq/\fu Q Fin jf xq' 0 (b.at a k) zs/\xq'.2.2=on v τ d:=by
 obtain⟨g,o,l⟩:=j.enter (Fin:=Fin) hF f r (a:=a) (k:=k);obtain⟨τ,d,y⟩:=h.then hF (((bV.region f).trans hF l) v);exact⟨(g,b.at a (.inRegion #[kV jf] [0]::k)::zs,on v τ d),τ,d,y,⟨b,a,k,zs,rfl,o,f,.fM f⟩,rfl⟩
end
end
section
open Relation (TransGen)
section
variable {P:Ad}{F:Array Func}{I:Ins}{n:Nat}{a:Act}{y:D}{w v:Z}{S:Nat->Prop}{G0:Base}{N:Nat}
def yw (f:a.tmps.size=n){x:Ae}(g:vK n x=true):(⟨a.tmps.push y,[]⟩:Act).eval x=a.eval x:=by
 cases x with
 |tmp t=>
  have:t<n:=by simpa [vK]using g
  simp only[Act.eval,aU];rw[aq,if_neg (by rw[f];exact Nat.ne_of_lt this)]
 |_=>rfl
def zK(g:a.tmps.size=n)(l:a.defers=[]){d:Option Tmp}(h:(match d with|some d=>decide (d<n)|none=>true)=true)(x:D):(⟨a.tmps.push y,[]⟩:Act).put d x=⟨(a.put d x).tmps.push y,[]⟩/\(a.put d x).tmps.size=n/\(a.put d x).defers=[]:=by
 cases d with
 |none=>exact⟨rfl,g,l⟩
 |some d=>
  have f:d<n:=by simpa using h
  refine⟨?_,by simpa [Act.put]using g,l⟩;simp only[Act.put,Act.mk.injEq,and_true];refine Array.ext_getElem? λi=>?_;simp only[Array.getElem?_setIfInBounds,aq,Array.size_push,Array.size_setIfInBounds]
  by_cases j:d=i
  .subst j;simp only[if_true];rw[if_pos (by rw[g];exact Nat.lt_succ_of_lt f),if_neg (by rw[g];exact Nat.ne_of_lt f),if_pos (by rw[g];exact f)]
  .simp only[if_neg j]
def pB(h:cM G0 N S w v){a:Addr}{x:D}(f:v.cell? a=some x):w.cell? a=some x/\¬S a.block:=by
 by_cases g:S a.block
 .obtain⟨j,e⟩:=h.hole _ g;unfold World.cell? at f;rw[e]at f;simp at f
 .unfold World.cell? at f ⊢;rcases h.same _ g with e|⟨⟨x,t,e1⟩,_⟩
  .rw[e]at f;exact⟨f,g⟩
  .rw[e1]at f;cases f
structure nN (S:Nat->Prop)(w w':Z)(es:Array Event):Prop where
 oh:gK (λa=>¬S a.block/\∃m,w.cell? ⟨a.block,a.off,none⟩=some (.int .u8 m)) w w'
 Cg:∀e∈es,fX S w'.heap.size e
 wr:∀e∈es,e.write=true->∃a m,e.loc = .cell a/\w.cell? ⟨a.block,a.off,none⟩=some (.int .u8 m)
def nN.still:nN S w w #[]:=⟨.refl,by simp,by simp⟩
def J7 (ρ g:Ae->D)(o:Oper)(h:jj P I n o=true)(l:∀c f,o.op = .call c->c.callee≠.value (.func f))(a:∀x∈o.op.operands,g x=ρ x):execOp g (qo I o)=execOp ρ o:=by
 obtain⟨M,op,R,pos,C,N⟩:=o;unfold jj at h;simp only[av]at h;obtain⟨_,h⟩:=h;dsimp only at h l a;unfold execOp qo;cases op with
 |call c=>
  dsimp only at h;unfold sI at h;have e:eU I (.call c) = .call c:=by
   unfold eU;dsimp only;split
   .rename_i f j;exact bx j (l c f rfl)
   .rfl
  dsimp only;rw[e];dsimp only;have hm:c.args.map g=c.args.map ρ:=Array.map_congr_left λx Q=>a x (by simp only[Op.operands,Call.operands];exact Array.mem_append.2 (.inr Q))
  unfold resolve;cases j:c.callee with
  |builtin b=>dsimp only;rw[hm]
  |value f=>
   cases f with
   |func f=>exact bx j (l c f rfl)
   |_=>rw[j]at h;simp[iX,j]at h
  |invoke r m=>rw[j]at h;simp[iX,j]at h
 |move x=>simp[eU,a x (by simp[Op.operands])]
 |assign x=>simp[eU,a x (by simp[Op.operands])]
 |box t x=>simp[eU,a x (by simp[Op.operands])]
 |load t x=>simp[eU,a x (by simp[Op.operands])]
 |fieldAddr t x i=>simp[eU,a x (by simp[Op.operands])]
 |convert s d x=>simp[eU,a x (by simp[Op.operands])]
 |binOp op t x y k=>simp[eU,a x (by simp[Op.operands]),a y (by simp[Op.operands])]
 |buildSlice t m B=>
  have hm:(B.map λp=>(p.1,g p.2))=B.map λp=>(p.1,ρ p.2):=Array.map_congr_left λp hp=>by rw[a p.2 (by simp only[Op.operands,aL,aK];exact⟨p,by simpa using hp,rfl⟩)]
  simp only[eU];exact congrArg (λz=>(Instr.buildSlice t m z >>= λx=>(Pure.pure (Next.value x):Sem Next))) hm
 |_=>simp[iX]at h
end
end
section
open Relation (TransGen)
structure rY (P:Ad)(F:Array Func)(I:Ins)(Fin:Ai->Z->Prop)(G0:Base):Prop where
 hb:P.info? bad=none
 hG:P.globals.size<=G0.n
 hF:lq F
 nt:eF Fin
 J:∃fn,lY (imag P F) I.jf fn
 L:∃fn tstr e,xR P (imag P F) I.tf I.ts fn tstr e
 yG:∀f f',I.ι f=some f'->∃fn fn' c r,rX P (imag P F) I f f' fn fn' c r
section
variable {P:Ad}{F:Array Func}{I:Ins}{X:Ag->Prop}{T:dq}{Fin:Ai->Z->Prop}{G0:Base}{n:Nat}{S:Nat->Prop}{w:Z}{xq:Ai × List Ai × Z}{f':Ag}{a:Act}{x:D}{o:Oper}{rest:Code}{k1:List Item}{zs:List Ai}
def kG.ru {Q:Ad}{x y:Ai × List Ai × Z}(h:kG Q Fin x y):Ru Q Fin x y:=by obtain⟨a,d,h⟩:=h;exact⟨a,d,.inr h⟩
def QR{Q:Ad}(ρ:Ae->D)(h:jj P I n o=true)(j:∀c f,o.op = .call c->c.callee≠.value (.func f)){v v':Z}{nx:Next}(a:(execOp ρ o).run Q v = .ok nx v'):∃y,nx = .value y:=by
 obtain⟨B,op,N,pos,l,C⟩:=o;unfold jj at h;simp only[av]at h;obtain⟨_,h⟩:=h;dsimp only at h j;unfold execOp at a;cases op with
 |call c=>
  dsimp only at h;unfold sI at h;dsimp only at a;unfold resolve at a;cases g:c.callee with
  |builtin b=>
   rw[g]at h a;cases b with
   |append=>exact ia a
   |len=>exact ia a
   |_=>simp[iX,g]at h
  |value f=>
   cases f with
   |func f=>exact bx g (j c f rfl)
   |_=>rw[g]at h;simp[iX,g]at h
  |invoke r m=>rw[g]at h;simp[iX,g]at h
 |move x=>cases a;exact⟨_,rfl⟩
 |assign x=>cases a;exact⟨_,rfl⟩
 |box t x=>exact ia a
 |load t x=>exact ia a
 |fieldAddr t x i=>exact ia a
 |convert s d x=>exact ia a
 |binOp op t x y k=>exact ia a
 |buildSlice t m M=>exact ia a
 |_=>simp[iX]at h
def Ow (h:∀c f,o.op = .call c->c.callee≠.value (.func f)):eU I o.op=o.op:=by
 unfold eU;split
 .rename_i c g
  split
  .rename_i f a;exact bx a (h c f g)
  .exact g.symm
 .rfl
def MA (r:∃fn a e,xR P (imag P F) I.tf I.ts fn a e)(ρ:Ae->D)(h:jj P I n o=true)(C:∀c f,o.op = .call c->c.callee≠.value (.func f)){U:Addr->Prop}(B:∀z,iN o.op=some z->∀b,uN (ρ z) b->U b):eR P U (execOp ρ o):=by
 obtain⟨tf,a,e,r⟩:=r;have Y:=h;unfold jj at h;simp only[av]at h;obtain⟨_,h⟩:=h
 by_cases hp:iX P o.op=true
 .exact Mk.op ρ o hp
 .obtain⟨Q,op,ty,pos,M,R⟩:=o;dsimp only at h C hp B;cases op with
  |call c=>
   dsimp only at h;unfold sI at h;split at h
   .rename_i g
    unfold Bh at h;simp only[av,bD]at h;obtain⟨⟨Z,S⟩,l⟩:=h;have W:iN (.call c)=c.args[0]?:=by simp[iN,g]
    obtain⟨z,j⟩:∃z,c.args[0]?=some z:=⟨c.args[0],aP (by omega)⟩;split at l
    .rename_i t ht
     obtain⟨N,args,ats⟩:=c;dsimp only at g;subst g;cases y:P.underlying t with
     |none=>simp[y]at l
     |some k=>exact Mk.Ng (args:=args) (ats:=ats) (x:=z) (st:=I.ts) (xt:=t) (e:=e) (k:=k) ρ _ rfl j S r.ll r.cells ht y (λi e=>by simp[y,e]at l) (B z (W.trans j))
    .cases l
   .rename_i f g
    exact bx g (C c f rfl)
   .exact bx h hp
  |_=>exact bx h hp
def GY (v:Z)(b:Addr)(j:Nat){z:D}(h:v.cell? (b.add j)=some z):v.cell? ⟨b.block,b.off+j,none⟩=some z:=by
 have a:(b.add j).spot=none:=by
  unfold World.cell? at h;split at h
  .split at h
   .cases h
   .rename_i g
    cases l:(b.add j).spot<;>simp_all
  .cases h
 have:b.add j=⟨b.block,b.off+j,none⟩:=by
  unfold Addr.add at a ⊢;split
  .rename_i f
   rw[if_pos f]at a;obtain⟨x,y,z⟩:=b;cases a;simp[f]
  .rfl
 rw[<- this];exact h
def Mi (H:rY P F I Fin G0)(t:Tr (imag P F) X T Fin xq.1 xq.2.1 xq.2.2)(hs:cM G0 0 S w xq.2.2)(j:zs≠[])(hn:a.tmps.size=n)(hd:a.defers=[])(ho:jj P I n o=true)(C:∀c f,o.op = .call c->c.callee≠.value (.func f))
  (hr:kG (imag P F) Fin xq ((base f').at ⟨a.tmps.push x,[]⟩ (.code (gA I o)::.code (.seq (dC I.jf) rest)::k1),zs,xq.2.2)) :
  ∃y w',(execOp a.eval o).run P w = .ok (.value y) w'/\(∀fn,nN S w w' (listed P fn a o w))/\∃B,TransGen (Sub (imag P F) Fin) B xq/\fu (imag P F) Fin I.jf B 0 ((base f').at ⟨(a.put o.dst y).tmps.push x,[]⟩ (.code rest::k1)) zs/\cM G0 0 S w' B.2.2:=by
 obtain⟨lB,hJ⟩:=H.J;have N:=ho;unfold jj at N;simp only[av]at N;obtain⟨⟨⟨⟨hg,ad⟩,an⟩,r⟩,_⟩:=N;have hg:o.guard=none:=by simpa using hg
 have a3:∀z∈o.op.operands,(⟨a.tmps.push x,[]⟩:Act).eval z=a.eval z:=λz j=>yw hn (Array.all_eq_true_iff_forall_mem.1 an z j)
 have look:kG (imag P F) Fin xq ((base f').at ⟨a.tmps.push x,[]⟩ (.inRegion #[qo I o] [0]::.code (.seq (dC I.jf) rest)::k1),zs,xq.2.2)/\
   ∀z,iN o.op=some z->∀b,uN (a.eval z) b->∃m,xq.2.2.cell? ⟨b.block,b.off,none⟩=some (.int .u8 m):=by
  unfold gA at hr;cases g:iN o.op with
  |none=>rw[g]at hr;exact⟨hr.then H.nt (bV.region j _),λz h=>by cases h⟩
  |some z=>
   rw[g]at hr;have h1:=hr.then H.nt (((bV.seq j).trans H.nt (bV.region j)) _);have t1:=h1.ru.tr H.nt t;obtain⟨lf,bv,e,hL⟩:=H.L;obtain⟨h2,base,l,c,e1,e2⟩:=looked H.hb H.hG H.hF H.nt hL t1 j rfl;refine⟨(h1.then H.nt h2).then H.nt (((bV.fM j).trans H.nt (bV.region j)) _),λz' bp b hb=>?_⟩;cases bp;have bq:z∈o.op.operands:=by
    unfold iN at g;split at g
    .rename_i cc ba
     split at g
     .rw[ba];simp only[Op.operands,Call.operands];exact Array.mem_append.2 (.inr (Array.mem_of_getElem? g))
     .cases g
    .cases g
   rw[a3 z bq]at e1;obtain⟨b0,l0,c0,f1,f2,f3,f4⟩:=hb;rw[e1]at f1;cases f1;obtain⟨m,hm⟩:=e2 b0 rfl (b.off-b0.off) (by omega);have:=GY _ _ _ hm;rw[show b0.off+(b.off-b0.off)=b.off by omega,<- f2]at this;exact⟨m,this⟩
 obtain⟨a0,M⟩:=look;have t2:=a0.ru.tr H.nt t;have bb:=Ow (I:=I) C;obtain⟨nx,Y,a1⟩:=t2.ok H.hb H.hG H.hF j rfl (o:=qo I o) rfl hg (by simp only[qo];rw[bb];exact r) w.tape w.drawn;have be:=J7 (I:=I) a.eval _ o ho C a3;have R:=a1;rw[be]at R;obtain⟨y,rfl⟩:=QR a.eval ho C R;have D:=bT.op (P:=P) (F:=F) (G0:=G0) (Lk:=df (imag P F) T) H.hb H.hG a.eval (λ_=>rfl) (λ_=>rfl) o (H.hF.op o) r S Y.drawn w (on xq.2.2 w.tape w.drawn) #[] (Fs _ hs) (t.unfold.1.ht.on _ _);rw[show on xq.2.2 w.tape w.drawn=jJ xq.2.2 w.tape w.drawn from rfl,R]at D;rcases D with⟨_,_,hx,_⟩|⟨c,hc,bw,Q⟩
 .cases hx
 obtain⟨w',a8,W,k2,k3,_,k5⟩:=Q (by have:=hc.1;omega);have a7:(execOp a.eval o).run P w = .ok (.value y) w':=by have:=congrArg Prod.fst W;simpa using this
 have a4:(execOp a.eval o).events P w #[]=a8:=by have:=congrArg Prod.snd W;simpa using this
 have bl:Rows (λb=>¬S b.block/\∃m,w.cell? ⟨b.block,b.off,none⟩=some (.int .u8 m)) w:=by
  rintro b ⟨_,m,hm⟩;unfold World.cell? at hm;dsimp only at hm;split at hm
  .rename_i e;exact⟨_,_,_,e⟩
  .cases hm
 obtain⟨_,Z,a9,am,bm⟩:=MA (P:=P) (F:=F) (I:=I) (n:=n) (U:=λb=>¬S b.block/\∃m,w.cell? ⟨b.block,b.off,none⟩=some (.int .u8 m)) H.L a.eval ho C (λz j b hb=>by obtain⟨m,hm⟩:=M z j b hb;exact⟨(pB hs hm).2,m,(pB hs hm).1⟩) w #[] bl (.value y) w' _ W
 have bf:a9=a8:=by simpa using am.symm
 refine⟨y,w',a7,λfn=>⟨Z,λe he=>?_,λe he hw=>?_⟩,?_⟩
 .exact k5 e (by have:=mem_seen he;rwa [a4]at this)
 .obtain⟨b,e1,e2⟩:=bm e (by have:=mem_seen he;rw[a4]at this;rwa [bf]) hw;exact⟨b,e2.2.choose,e1,e2.2.choose_spec⟩
 .have hp:=zK (y:=x) hn hd ad y;have h3:Ru (imag P F) Fin ((base f').at ⟨a.tmps.push x,[]⟩ (.inRegion #[qo I o] [0]::.code (.seq (dC I.jf) rest)::k1),zs,xq.2.2) ((base f').at ⟨(a.put o.dst y).tmps.push x,[]⟩ (.inRegion #[qo I o] []::.code (.seq (dC I.jf) rest)::k1),zs,Y):=by have st:=stepG_value (P:=imag P F) (main:=true) (k:=.code (.seq (dC I.jf) rest)::k1) (cs:=zs) (ops:=#[qo I o]) (i:=0) (rest:=[]) (o:=qo I o) (v:=y) rfl (by simp[Region.wanted,qo,hg]) (base_kind f') a1;rw[show(qo I o).dst=o.dst from rfl,hp.1]at st;exact Ru.go j w.tape w.drawn (τ':=Y.tape) (d':=Y.drawn) st
  obtain⟨B,τ,d,r1,r2,r3⟩:=fu.start (v:=Y) hJ H.nt (base_kind f') j ((a0.then H.nt h3).then H.nt (((bV.fM j).trans H.nt (bV.seq j)) Y));refine⟨B,r1,r2,?_⟩;rw[r3];have:=k2.any;exact⟨this.size,this.same,this.hole,this.eH,this.high,λi hi=>bx hi (by omega),this.os,this.output,this.fix⟩
end
end
section
open Relation (TransGen)
def lQ:Code->Nat
 |.seq a b=>lQ a+lQ b+1
 |.cond _ a b=>lQ a+lQ b+1
 |.region ..=>3
 |_=>1
def nI:Item->Nat
 |.code c=>lQ c
 |.inRegion ..=>2
 |_=>1
def lR:List Item->Nat
 |[]=>0
 |i::k=>nI i+lR k
def ln (fr:Ai):Nat:=match fr.mode with
 |.returning=>1
 |_=>2+lR fr.todo
def qj:List Ai->Nat
 |[]=>0
 |f::a=>ln f+qj a
section
variable {P:Ad}{F:Array Func}{I:Ins}{X:Ag->Prop}{T:dq}{Fin:Ai->Z->Prop}{G0:Base}{n:Nat}{S:Nat->Prop}{w v:Z}{f':Ag}{b:Ai}{a:Act}{x:D}{k k1:List Item}{cs zs:List Ai}{Q:Ad}
def IY{c:Ae}{y z:Code}(t:Tr Q X T Fin (b.at a (.code (.cond c y z)::k)) cs v)(j:cs≠[]):∃t,a.eval c = .bool t:=by
 obtain⟨h,g,r,o,e,_⟩:=t.goes j v.tape v.drawn;cases l:a.eval c with
 |bool t=>exact⟨t,rfl⟩
 |_=>
  exfalso
  have f:=Frame.eval_at b a (.code (.cond c y z)::k) c;rw[l]at f;simp only[Frame.at]at f;simp[G,stepG,stepG.exec,Frame.at,f]at e
def Qj (id:Nat)(ops:Am)(w:Z):∃t d,stepG P true (G (b.at a (.code (.region id ops true)::k)) cs) w = .go (G (b.at a (.inRegion ops (Region.schedule (P.follows .mixedOrders) ops t)::k)) cs) (w.at d) #[]:=by
 have f:∃t d,(choose (.order b.fn id)).run P w = .ok t (w.at d):=by
  simp only[choose,Sem.run];split
  .exact⟨_,w.drawn,rfl⟩
  .exact⟨_,w.drawn+1,rfl⟩
 obtain⟨t,d,f⟩:=f;refine⟨t,d,?_⟩;simp only[G,stepG,stepG.exec,Frame.at,Bool.not_true,bg,if_false,f]
def Pu (m:Bool){ops:Am}(h:Region.departs ops=false)(t:Nat):Region.schedule m ops t=Region.linearise.go .any ops ops.size t (Array.replicate ops.size false) []:=by simp[Region.schedule,h,Region.linearise]
def yJ (ops:Am)(m t:Nat)(listed:Array Bool):(∃i,(ie ops listed)[t % (ie ops listed).length]?=some i/\Region.linearise.go .any ops (m+1) t listed []=i::Region.linearise.go .any ops m (t / (ie ops listed).length) (listed.setIfInBounds i true) [])\/
  (ie ops listed=[]/\Region.linearise.go .any ops (m+1) t listed []=[]):=by
 have e:Region.linearise.go .any ops (m+1) t listed []=(match(ie ops listed)[t % (ie ops listed).length]? with
   |some i=>Region.linearise.go .any ops m (t / (ie ops listed).length) (listed.setIfInBounds i true) [i]
   |none=>[]):=rfl
 cases a:(ie ops listed)[t % (ie ops listed).length]? with
 |some i=>rw[a]at e;dsimp only at e;rw[linearise_go_acc .any ops m _ _ [i]]at e;exact .inl ⟨i,rfl,e⟩
 |none=>
  rw[a]at e;refine .inr ⟨?_,e⟩;rw[List.getElem?_eq_none_iff]at a
  by_cases f:(ie ops listed).length=0
  .exact List.length_eq_zero_iff.1 f
  .have:=Nat.mod_lt t (Nat.pos_of_ne_zero f);omega
def O2 {ops:Am}{listed:Array Bool}{i:Nat}(h:i∈ie ops listed):i<ops.size:=by have:=(List.mem_filter.1 h).1;simpa using this
def CJ (ops:Am):∀(m t:Nat) (listed:Array Bool) (i:Nat),i∈Region.linearise.go .any ops m t listed []->i<ops.size
 |0,t,listed,i,h=>by simp[Region.linearise.go]at h
 |m+1,t,listed,i,h=>by
  rcases yJ ops m t listed with⟨j,a,e⟩|⟨_,e⟩
  .rw[e]at h;rcases bE.1 h with rfl|h
   .exact O2 (aI a)
   .exact CJ ops m _ _ i h
  .rw[e]at h;cases h
def bV.pick (hF:eF Fin)(g:zs≠[]){tmps:Ak}(o:tmps.size=n)(f:Nat->Code){i:Nat}:∀(rs:List Nat) (x:D),i∈rs->∃B,bV Q Fin ((base f').at ⟨tmps.push x,[]⟩ (.code (rp n f rs)::k1),zs) ((base f').at ⟨tmps.push B,[]⟩ (.code (f i)::k1),zs)
 |[],x,h=>by cases h
 |[j],x,h=>by
  have:i=j:=by simpa using h
  subst this;exact⟨x,.refl⟩
 |j::M::r,x,h=>by
  have put:∀(x y:D),(Act.mk (tmps.push x) []).put (some n) y=⟨tmps.push y,[]⟩:=by
   intro x y;simp only[Act.put,Act.mk.injEq,and_true];refine Array.ext_getElem? λi=>?_;simp only[Array.getElem?_setIfInBounds,aq,Array.size_push,o]
   by_cases l:n=i
   .subst l;simp
   .have N:¬i=n:=λe=>l e.symm
    simp[l,N]
  have bit:=λt=>((bV.seq (Q:=Q) (Fin:=Fin) (b:=base f') (a:=⟨tmps.push x,[]⟩) (k:=k1) (x:=.region 9 (je n) true) (y:=.cond (.tmp n) (f j) (rp n f (M::r))) g).trans hF (Ru.bit hF g (base_kind f') t))
  simp only[put]at bit;have C:∀t:Bool,(Act.mk (tmps.push (.bool t)) []).eval (.tmp n) = .bool t:=by
   intro t;simp only[Act.eval,aU];rw[aq,if_pos o.symm]
   rfl
  rcases bE.1 h with rfl|h
  .exact⟨.bool true,(bit true).trans hF (bV.cond g (C true))⟩
  .obtain⟨B,P⟩:=bV.pick hF g o f (i:=i) (M::r) (.bool false) h;exact⟨B,((bit false).trans hF (bV.cond g (C false))).trans hF P⟩
def bV.LG (f:∃fn,lY Q I.jf fn)(hF:eF Fin)(g:zs≠[])(l:b.kind≠.early):bV Q Fin (b.at a (.code (dC I.jf)::k),zs) (b.at a k,zs):=by obtain⟨fn,f⟩:=f;obtain⟨o,j,h⟩:=f.enter (Fin:=Fin) hF g l (a:=a) (k:=k);exact(bV.region g).trans hF (h.trans hF ((j.leave f hF).trans hF (.fM g)))
end
end
section
open Relation (TransGen)
section
variable (P:Ad)(F:Array Func)(I:Ins)(Fin:Ai->Z->Prop)(BP BQ:List Ai)
def A2 (fr:Ai)(cs:List Ai)(xq:Ai × List Ai × Z)(c:Nat):Prop:=
 ∃z g a f,fu (imag P F) Fin I.jf xq c z g/\(uM P (imag P F) I fr z\/xQ P (imag P F) I fr z)/\cs=a++BP/\g=f++BQ/\xP P (imag P F) I a f
end
section
variable {P:Ad}{F:Array Func}{I:Ins}{X:Ag->Prop}{T:dq}{Fin:Ai->Z->Prop}{G0:Base}{S:Nat->Prop}{w:Z}{bp bq fr:Ai}{bps bqs cs:List Ai}{xq:Ai × List Ai × Z}{c:Nat}
def A4 (P:Ad)(F:Array Func)(I:Ins)(Fin:Ai->Z->Prop)(G0:Base)(S:Nat->Prop)(bp bq:Ai)(bps bqs:List Ai)(w:Z)(fr:Ai)(cs:List Ai)(xq:Ai × List Ai × Z)(c:Nat):Prop:=
 ∃g f j l a h,stepG P true (G fr cs) w = .go (G g f) j l/\nN S w j l/\cM G0 0 S j a.2.2/\h<=c/\
  ((((a=xq/\qj (g::f)<qj (fr::cs))\/TransGen (Sub (imag P F) Fin) a xq)/\A2 P F I Fin (bp::bps) (bq::bqs) g f a h)\/∃val,g=bp.finish val/\f=bps/\a=xq/\fu (imag P F) Fin I.jf a h (bq.finish val) bqs)
def D2{ops:Am}{d:Bool}{id n:Nat}(h:kN P I n (.region id ops d)=true){i:Nat}(a:i<ops.size):∃o,ops[i]?=some o/\jj P I n o=true:=by simp only[kN,av]at h;exact⟨ops[i],aP a,by have:=Array.all_eq_true_iff_forall_mem.1 h.1 ops[i] (Array.getElem_mem a);exact this⟩
def Mg (H:rY P F I Fin G0)(L:A2 P F I Fin (bp::bps) (bq::bqs) fr cs xq c)(t:Tr (imag P F) X T Fin xq.1 xq.2.1 xq.2.2)(hs:cM G0 0 S w xq.2.2):A4 P F I Fin G0 S bp bq bps bqs w fr cs xq c:=by
 obtain⟨z,zs,ps,qs,hl,hrel,rfl,rfl,am⟩:=L;have C:qs++bq::bqs≠[]:=by simp
 have U:∀{ad z'},(∀w,stepG P true (G fr (ps++bp::bps)) w = .go (G ad (ps++bp::bps)) w #[])->bV (imag P F) Fin (z,qs++bq::bqs) (z',qs++bq::bqs)->(uM P (imag P F) I ad z'\/xQ P (imag P F) I ad z')->ln ad<ln fr->A4 P F I Fin G0 S bp bq bps bqs w fr (ps++bp::bps) xq c:=
  λ{ad z'} N h2 h3 h4=>⟨ad,ps++bp::bps,w,#[],xq,c,N w,.still,hs,aW _,.inl ⟨.inl ⟨rfl,by simp only[qj];omega⟩,z',_,ps,qs,hl.more H.nt h2,h3,rfl,rfl,am⟩⟩
 rcases hrel with⟨f,f',fn,W,cd,r,a,x,kP,kQ,l,rfl,rfl,hd,hn,R⟩|⟨f,f',fn,W,cd,r,a,x,kP,kQ,l,rfl,rfl,hd,hn⟩
 .cases kP with
  |nil=>have:kQ=[]:=R;subst this;exact U (λ_=>stepG_end) (bV.fin C) (.inr ⟨f,f',fn,W,cd,r,a,x,[],[],l,rfl,rfl,hd,hn⟩) (by simp[ln,lR,Frame.at])
  |cons it k=>
   cases it with
   |code cc=>
    obtain⟨D,k1,rfl,R⟩:=R;have a9:∀{ck cm},qw P I fn.ntmps ck cm->uM P (imag P F) I ((base f).at a ck) ((base f').at ⟨a.tmps.push x,[]⟩ cm):=λh=>⟨f,f',fn,W,cd,r,a,x,_,_,l,rfl,rfl,hd,hn,h⟩
    cases cc with
    |skip=>exact U (λ_=>stepG_skip) (bV.skip C) (.inl (a9 R)) (by simp[ln,lR,nI,lQ,Frame.at])
    |ret=>exact U (λ_=>stepG_ret') (bV.ret C) (.inr ⟨f,f',fn,W,cd,r,a,x,_,_,l,rfl,rfl,hd,hn⟩) (by simp[ln,lR,nI,lQ,Frame.at];omega)
    |seq c1 c2=>simp only[kN,av]at D;exact U (λ_=>bP) (bV.seq C) (.inl (a9 ⟨D.1,_,rfl,D.2,_,rfl,R⟩)) (by simp[ln,lR,nI,lQ,Frame.at];omega)
    |cond o c1 c2=>
     simp only[kN,av]at D;obtain⟨⟨h0,N⟩,h2⟩:=D;have t1:=(hl.ru H.J.choose_spec H.nt).ru.tr H.nt t;obtain⟨tv,ch⟩:=IY t1 C;have bl:=ch;rw[yw hn h0]at bl;refine U (λ_=>stepG_cond bl) (bV.cond C ch) (.inl (a9 ?_)) ?_
     .cases tv
      .exact⟨h2,_,rfl,R⟩
      .exact⟨N,_,rfl,R⟩
     .cases tv<;>simp[ln,lR,nI,lQ,Frame.at]<;>omega
    |region id ops d=>
     cases d with
     |false=>refine U (λ_=>stepG_region) .refl (.inl (a9 ⟨λi hi=>D2 D (by simpa using hi),k1,.inl rfl,R⟩)) (by simp[ln,lR,nI,lQ,Frame.at])
     |true=>
      obtain⟨tt,d,e⟩:=Qj (P:=P) (b:=base f) (a:=a) (k:=k) (cs:=ps++bp::bps) id ops w;have b5:Region.departs ops=false:=by simp only[kN,av,Bool.not_true,Bool.false_or,Bool.not_eq_true']at D;exact D.2
      rw[Pu _ b5]at e;refine⟨_,_,w.at d,#[],xq,c,e,⟨⟨aW _,λ_ _ h=>.inl h⟩,by simp,by simp⟩,rI hs,aW _,.inl ⟨.inl ⟨rfl,by simp[qj,ln,lR,nI,lQ,Frame.at]⟩,_,_,ps,qs,hl,.inl (a9 ⟨λi hi=>D2 D (CJ ops _ _ _ i hi),k1,.inr ⟨_,_,_,rfl,rfl⟩,R⟩),rfl,rfl,am⟩⟩
    |_=>cases D
   |inRegion ops rs=>
    obtain⟨a4,k1,cb,R⟩:=R;cases rs with
    |nil=>
     have cA:kQ = .code .skip::k1:=by
      rcases cb with h|⟨m,tt,listed,N,h2⟩
      .exact h
      .cases m with
       |zero=>exact h2
       |succ m=>
        rcases yJ ops m tt listed with⟨i,_,e⟩|⟨e,_⟩
        .rw[e]at N;cases N
        .rw[h2];simp only[mP,e,rp]
     subst cA;exact U (λ_=>bJ) (bV.skip C) (.inl ⟨f,f',fn,W,cd,r,a,x,_,_,l,rfl,rfl,hd,hn,R⟩) (by simp[ln,lR,nI,Frame.at])
    |cons i rs=>
     obtain⟨o,ho,B⟩:=a4 i (by simp);have bv:ops.getD i default=o:=by rw[aU,ho];rfl
     obtain⟨x',rest,hc,a7⟩:∃x' rest,bV (imag P F) Fin ((base f').at ⟨a.tmps.push x,[]⟩ kQ,qs++bq::bqs) ((base f').at ⟨a.tmps.push x',[]⟩ (.code (gA I o)::.code (.seq (dC I.jf) rest)::k1),qs++bq::bqs)/\qw P I fn.ntmps (.inRegion ops rs::k) (.code rest::k1):=by
      rcases cb with rfl|⟨m,tt,listed,N,rfl⟩
      .refine⟨x,mQ I ops rs,?_,λj hj=>a4 j (by simp[hj]),k1,.inl rfl,R⟩;have:=bV.seq (Q:=imag P F) (Fin:=Fin) (b:=base f') (a:=⟨a.tmps.push x,[]⟩) (k:=k1) (x:=gA I (ops.getD i default)) (y:=.seq (dC I.jf) (mQ I ops rs)) C;rw[bv]at this;simp only[mQ,bv];exact this
      .cases m with
       |zero=>simp[Region.linearise.go]at N
       |succ m=>
        rcases yJ ops m tt listed with⟨j,hj,e⟩|⟨_,e⟩
        .rw[e]at N;simp only[List.cons.injEq]at N;obtain⟨rfl,N⟩:=N;obtain⟨x',hp⟩:=bV.pick (Q:=imag P F) (f':=f') (k1:=k1) H.nt C hn (λi=>.seq (gA I (ops.getD i default)) (.seq (dC I.jf) (mP I ops fn.ntmps m (listed.setIfInBounds i true)))) (ie ops listed) x (aI hj);refine⟨x',mP I ops fn.ntmps m (listed.setIfInBounds i true),?_,λj hj=>a4 j (by simp[hj]),k1,.inr ⟨m,_,_,N,rfl⟩,R⟩;simp only[mP];simp only[bv]at hp;exact hp.trans H.nt (bV.seq C)
        .rw[e]at N;cases N
     have hr:=(hl.ru H.J.choose_spec H.nt).then H.nt (hc xq.2.2);have hg:o.guard=none:=by unfold jj at B;simp only[av]at B;simpa using B.1.1.1.1
     by_cases a0:∃cl g,o.op = .call cl/\cl.callee = .value (.func g)
     .obtain⟨⟨cT,args,co⟩,g,ba,bf⟩:=a0;dsimp only at bf;subst bf;have a3:=B;unfold jj at a3;simp only[av]at a3;obtain⟨⟨⟨_,be⟩,_⟩,bm⟩:=a3;rw[ba]at bm be;simp only[sI,av]at bm;obtain⟨cv,ca⟩:=bm;obtain⟨g',b7⟩:=Option.isSome_iff_exists.1 cv;obtain⟨Y,bb,cg,rg,M⟩:=H.yG g g' b7;rw[M.tL]at ca;have c3:args.size<=Y.ntmps:=by simpa using ca
      have cr:gA I o = .region 0 #[qo I o] false:=by simp[gA,iN,ba]
      have ce:(qo I o).op = .call { callee:=.value (.func g'),args,argTypes:=co }:=by simp[qo,eU,ba,b7]
      have hm:args.map (Act.eval ⟨a.tmps.push x',[]⟩)=args.map a.eval:=Array.map_congr_left λy hy=>yw hn (Array.all_eq_true_iff_forall_mem.1 be y (by simp only[Op.operands,Call.operands];exact Array.mem_append.2 (.inr hy)))
      have cf:args.map (Act.eval ⟨a.tmps.push x',[]⟩)++Array.replicate (bb.ntmps-args.size) undef=(args.map a.eval++Array.replicate (Y.ntmps-args.size) undef).push undef:=by rw[hm,M.Ez,show Y.ntmps+1-args.size=Y.ntmps-args.size+1 by omega,Array.replicate_succ,Array.append_push]
      rw[cr]at hr;have bS:=bV.call (Q:=imag P F) (Fin:=Fin) (b:=base f') (a:=⟨a.tmps.push x',[]⟩) (k:=.code (.seq (dC I.jf) rest)::k1) (ops:=#[qo I o]) (i:=0) (rest:=[]) (o:=qo I o) (args:=args) C rfl hg (base_kind f') ce M.zM M.Ey M.nk;rw[cf]at bS;obtain⟨bA,τ,d,r1,r2,r3⟩:=fu.start (v:=xq.2.2) H.J.choose_spec H.nt (base_kind g') (by simp) (hr.then H.nt (((bV.region C).trans H.nt (bS.trans H.nt (bV.seq (by simp)))) xq.2.2));refine⟨_,_,w,#[],bA,0,Az ho hg (base_kind f) ba M.tL M.Eo M.Em,.still,by rw[r3];exact⟨hs.size,hs.same,hs.hole,hs.eH,hs.high,λi hi=>bx hi (by omega),hs.os,hs.output,hs.fix⟩,aZ _,.inl ⟨.inr r1,_,_,(base f).at a (.inRegion ops (i::rs)::k)::ps,_::qs,r2,.inl ⟨g,g',Y,bb,cg,rg,_,undef,[.code cg],[.code (gy I Y.ntmps cg)],M,rfl,rfl,rfl,by simp;omega,M.ok,[],rfl,rfl⟩,rfl,rfl,?_⟩⟩;exact⟨_,qs,rfl,⟨f,f',fn,W,cd,r,a,x',ops,i,o,rs,k,rest,k1,l,rfl,ho,B,rfl,hd,hn,a7⟩,am⟩
     .obtain⟨y,w',e1,e2,bA,e3,e4,e5⟩:=Mi H t hs C hn hd B (λcl g N h2=>a0 ⟨cl,g,N,h2⟩) hr;have hp:=zK (y:=x') hn hd (d:=o.dst) (by unfold jj at B;simp only[av]at B;exact B.1.1.1.2) y
      refine⟨_,_,w',_,bA,0,stepG_value ho (by simp[Region.wanted,hg]) (base_kind f) e1,e2 _,e5,aZ _,.inl ⟨.inr e3,_,_,ps,qs,e4,.inl ⟨f,f',fn,W,cd,r,a.put o.dst y,x',_,_,l,rfl,rfl,hp.2.2,hp.2.1,a7⟩,rfl,rfl,am⟩⟩
   |_=>cases R
 .have ci:(a.tmps.push x).getD r undef=a.tmps.getD r undef:=by simp only[aU];rw[aq,if_neg (by rw[hn];exact Nat.ne_of_lt l.Ph)]
  have hQ:∀(cz:Ai) (zs:List Ai),bV (imag P F) Fin ({ (base f').at ⟨a.tmps.push x,[]⟩ kQ with mode:=.returning },cz::zs) (cz.finish (a.tmps.getD r undef),zs):=by intro cz zs;refine .go (by simp) (es:=#[]) λw=>?_;rw[<- ci];exact stepG_leave (b:=base f') (a:=⟨a.tmps.push x,[]⟩) rfl rfl l.zM (results_tmp l.EA _ _ w) (events_results_tmp l.EA _ _)
  have hP:∀(cz:Ai) (zs:List Ai) (w:Z),stepG P true (G { (base f).at a kP with mode:=.returning } (cz::zs)) w = .go (G (cz.finish (a.tmps.getD r undef)) zs) w #[]:=λcz zs w=>stepG_leave (b:=base f) rfl hd l.tL (results_tmp l.Ep _ _ w) (events_results_tmp l.Ep _ _)
  cases ps with
  |nil=>have:qs=[]:=am;subst this;exact⟨_,_,w,#[],xq,c,hP bp bps w,.still,hs,aW _,.inr ⟨a.tmps.getD r undef,rfl,rfl,rfl,hl.more H.nt (hQ bq bqs)⟩⟩
  |cons p ps=>
   obtain⟨q,bw,rfl,⟨f1,an,cq,bB,c1,r1,a1,x1,ops,i,o,rs,k,rest,k1,b6,rfl,ho,B,rfl,cu,cw,R⟩,b3⟩:=am;have a8:bw++bq::bqs≠[]:=by simp
   have hp:=zK (y:=x1) cw cu (d:=o.dst) (by unfold jj at B;simp only[av]at B;exact B.1.1.1.2) (a.tmps.getD r undef)
   have e1:((base f1).at a1 (.inRegion ops (i::rs)::k)).finish (a.tmps.getD r undef)=(base f1).at (a1.put o.dst (a.tmps.getD r undef)) (.inRegion ops rs::k):=by rw[Frame.finish_at,ho];rfl
   have e2:((base an).at ⟨a1.tmps.push x1,[]⟩ (.inRegion #[qo I o] [0]::.code (.seq (dC I.jf) rest)::k1)).finish (a.tmps.getD r undef)=(base an).at ⟨(a1.put o.dst (a.tmps.getD r undef)).tmps.push x1,[]⟩ (.inRegion #[qo I o] []::.code (.seq (dC I.jf) rest)::k1):=by rw[Frame.finish_at,<- hp.1];rfl
   have N:=hP ((base f1).at a1 (.inRegion ops (i::rs)::k)) (ps++bp::bps) w;have h2:=hQ ((base an).at ⟨a1.tmps.push x1,[]⟩ (.inRegion #[qo I o] [0]::.code (.seq (dC I.jf) rest)::k1)) (bw++bq::bqs);rw[e1]at N;rw[e2]at h2;refine⟨_,_,w,#[],xq,c,N,.still,hs,aW _,.inl ⟨.inl ⟨rfl,?_⟩,_,_,ps,bw,hl.more H.nt (h2.trans H.nt ((bV.fM a8).trans H.nt ((bV.seq a8).trans H.nt (bV.LG H.J H.nt a8 (base_kind an))))),.inl ⟨f1,an,cq,bB,c1,r1,a1.put o.dst (a.tmps.getD r undef),x1,_,_,b6,rfl,rfl,hp.2.2,hp.2.1,R⟩,rfl,rfl,b3⟩⟩;simp[qj,ln,lR,nI,Frame.at]
end
end
section
variable {P:Ad}{main:Bool}{R:Z->Z->Prop}{ch:Z->Z->Array Event->Prop}{Stop:Ah->Z->Prop}{n:Nat}{b:Ai}{a:Act}{k:List Item}{cs:List Ai}{w:Z}
def gZ (T:Terms R ch){g g':Ah}(l:g.status = .running)(h:∀w,stepG P main g w = .go g' w #[])(j:Goes P main R ch Stop n g' w):Goes P main R ch Stop (n+1) g w:=
 Goes.step l λf a=>by rw[h f];exact⟨T.idle _,j.rely T.trans a⟩
def te (T:Terms R ch)(f:Goes P main R ch Stop n (G (b.at a k) cs) w):Goes P main R ch Stop (n+1) (G (b.at a (.code .skip::k)) cs) w:=gZ T rfl (λ_=>stepG_skip) f
def dX(T:Terms R ch){x y:Code}(f:Goes P main R ch Stop n (G (b.at a (.code x::.code y::k)) cs) w):Goes P main R ch Stop (n+1) (G (b.at a (.code (.seq x y)::k)) cs) w:=gZ T rfl (λ_=>bP) f
def eI (T:Terms R ch){id:Nat}{ops:Am}(f:Goes P main R ch Stop n (G (b.at a (.inRegion ops (List.range ops.size)::k)) cs) w):Goes P main R ch Stop (n+1) (G (b.at a (.code (.region id ops false)::k)) cs) w:=gZ T rfl (λ_=>stepG_region) f
def eB (T:Terms R ch){ops:Am}(f:Goes P main R ch Stop n (G (b.at a k) cs) w):Goes P main R ch Stop (n+1) (G (b.at a (.inRegion ops []::k)) cs) w:=gZ T rfl (λ_=>bJ) f
def kT(T:Terms R ch){c:Ae}{x y:Code}(t:Bool)(f:a.eval c = .bool t)(g:Goes P main R ch Stop n (G (b.at a (.code (if t then x else y)::k)) cs) w):Goes P main R ch Stop (n+1) (G (b.at a (.code (.cond c x y)::k)) cs) w:=gZ T rfl (λ_=>stepG_cond f) g
def pF(T:Terms R ch){id:Nat}{c:Code}(f:Goes P main R ch Stop n (G (b.at a (.code c::.inBlock id::k)) cs) w):Goes P main R ch Stop (n+1) (G (b.at a (.code (.block id c)::k)) cs) w:=gZ T rfl (λ_=>stepG_block) f
def yN (T:Terms R ch){id:Nat}(f:Goes P main R ch Stop n (G (b.at a k) cs) w):Goes P main R ch Stop (n+1) (G (b.at a (.inBlock id::k)) cs) w:=gZ T rfl (λ_=>stepG_inBlock) f
def CO(T:Terms R ch){c:Code}(f:Goes P main R ch Stop n (G (b.at a (.code c::.inLoop c::k)) cs) w):Goes P main R ch Stop (n+1) (G (b.at a (.code (.loop c)::k)) cs) w:=gZ T rfl (λ_=>stepG_loop) f
def CN(T:Terms R ch){c:Code}(f:Goes P main R ch Stop n (G (b.at a (.code c::.inLoop c::k)) cs) w):Goes P main R ch Stop (n+1) (G (b.at a (.inLoop c::k)) cs) w:=gZ T rfl (λ_=>stepG_inLoop) f
def td (T:Terms R ch){id:Nat}(k':List Item)(f:exitTo id k=some k')(g:Goes P main R ch Stop n (G (b.at a k') cs) w):Goes P main R ch Stop (n+1) (G (b.at a (.code (.exit id)::k)) cs) w:=gZ T rfl (λ_=>stepG_exit f) g
def CP (T:Terms R ch)(f:Goes P main R ch Stop n (G { b.at a (.code .ret::k)with mode:=.returning } cs) w):Goes P main R ch Stop (n+1) (G (b.at a (.code .ret::k)) cs) w:=gZ T rfl (λ_=>stepG_ret') f
def CM (T:Terms R ch)(f:Goes P main R ch Stop n (G { b.at a []with mode:=.returning } cs) w):Goes P main R ch Stop (n+1) (G (b.at a []) cs) w:=gZ T rfl (λ_=>stepG_end) f
variable {ops:Am}{i:Nat}{rest:List Nat}{o:Oper}
def dx (T:Terms R ch)(v:D)(j:ops[i]?=some o)(r:Region.wanted o (yielded ops a.tmps)=true)(g:b.kind≠.early)(l:∀w,(execOp a.eval o).run P w = .ok (.value v) w)(f:∀w,(execOp a.eval o).events P w #[]=#[])
  (h:Goes P main R ch Stop n (G (b.at (a.put o.dst v) (.inRegion ops rest::k)) cs) w):Goes P main R ch Stop (n+1) (G (b.at a (.inRegion ops (i::rest)::k)) cs) w:=
 gZ T rfl (λw=>by rw[stepG_value j r g (l w)];unfold listed;rw[f w,seen_none]) h
def yM(T:Terms R ch){f:Ag}{fn:Func}{c:Code}{args:Array Ae}{ats:Array Af}(C:ops[i]?=some o)(D:Region.wanted o (yielded ops a.tmps)=true)(y:b.kind≠.early)(j:o.op = .call { callee:=.value (.func f),args,argTypes:=ats })
  (r : P.funcs[f]? = some fn) (g : (fn.name == "runtime.NumGoroutine") = false) (hb : fn.body = some c)
  (B:Goes P main R ch Stop n (G ((base f).at { tmps:=args.map a.eval++Array.replicate (fn.ntmps-(args.map a.eval).size) undef,defers:=[] } [.code c]) (b.at a (.inRegion ops (i::rest)::k)::cs)) w):Goes P main R ch Stop (n+1) (G (b.at a (.inRegion ops (i::rest)::k)) cs) w:=
 Goes.step rfl λl h=>goes_call C D y j r g hb ⟨T.idle _,B.rely T.trans h⟩
end
section
open Go.ConcX (WgAt KK stA smA rd wr mk)
structure dI where
 cS:Nat
 cD:Nat
 Wg:Nat
 tWg:Af
 n:Nat
 E:Nat->D
 zO:Obj
 zv:D
 zd:D
 Ks:Z->Prop
 Rd:Loc->Prop
 lo:Nat
abbrev DQ:Z->Z->Array Event->Prop:=Go.ConcX.DC0
section
variable (P:Ad)(M:dI)
def ls (w:Z):Prop:=∃st a,WgAt M.tWg M.Wg w st a
def RG (w w':Z):Prop:=ls M w->ls M w'
def RW (w w':Z):Prop:=w'.heap[M.Wg]?=w.heap[M.Wg]?
/-! ### its end: Done -/
def xF (g:Ah)(w:Z):Prop:=
 g.status = .running/\mayWake P g=true/\(WgAt M.tWg M.Wg w 0 0->∃a,stepG P false g w = .go a (w.setCell (smA M.Wg) (.int .u32 1)) (semEvents (smA M.Wg))/\∃q,QuitsD P q 1 a)
def xE (g:Ah)(w:Z):Prop:=
 g.status = .running/\(WgAt M.tWg M.Wg w 1 0->∃a,stepG P false g w = .go a (w.setCell (stA M.Wg) (.int .u64 0)) #[wr (stA M.Wg)]/\∃m,Goes P false (RW M) DQ (xF P M) m a (w.setCell (stA M.Wg) (.int .u64 0)))
def xD (g:Ah)(w:Z):Prop:=
 g.status = .running/\(WgAt M.tWg M.Wg w 1 0->∃a,stepG P false g w = .go a w #[rd (stA M.Wg)]/\∃m,Goes P false (RW M) DQ (xE P M) m a w)
def xC (g:Ah)(w:Z):Prop:=
 g.status = .running/\
  (WgAt M.tWg M.Wg w KK 0->∃a,stepG P false g w = .go a (w.setCell (stA M.Wg) (.int .u64 0)) #[rd (stA M.Wg),wr (stA M.Wg)]/\∃q,QuitsD P q 1 a)/\
  (WgAt M.tWg M.Wg w (KK+1) 0->∃a,stepG P false g w = .go a (w.setCell (stA M.Wg) (.int .u64 1)) #[rd (stA M.Wg),wr (stA M.Wg)]/\∃m,Goes P false (RW M) DQ (xD P M) m a (w.setCell (stA M.Wg) (.int .u64 1)))
def xG (g:Ah)(w:Z):Prop:=
 g.status = .running/\∃a,stepG P false g w = .go a w #[mk .disable]/\∃m,Goes P false (RG M) DQ (xC P M) m a w
def uA (g:Ah)(w:Z):Prop:=
 g.status = .running/\∃a,stepG P false g w = .go a w #[mk (.releaseMerge (stA M.Wg))]/\∃m,Goes P false (RG M) DQ (xG P M) m a w
/-! ### its work -/
def Rs (w w':Z):Prop:=M.Ks w->M.Ks w'
def rW (e:Event):Prop:=∃a,e=⟨.cell a,false,false⟩/\M.Rd (.cell a)
def Ds (w w':Z)(es:Array Event):Prop:=w'=w/\∀e∈es,rW M e
def Rz (z:Nat)(w w':Z):Prop:=(M.Ks w->M.Ks w')/\w'.heap[z]?=w.heap[z]?
structure jV (z:Nat)(w w':Z):Prop where
 size:w'.heap.size=w.heap.size
 rest:∀k,k≠z->w'.heap[k]?=w.heap[k]?
 row:∀c t fz,w.heap[z]?=some (.cells c t fz)->∃c',w'.heap[z]?=some (.cells c' t fz)
 os:w'.os=w.os
 output:w'.output=w.output
def Dz (z:Nat)(w w':Z)(es:Array Event):Prop:=jV z w w'/\∀e∈es,rW M e\/∃a b,e=⟨.cell a,b,false⟩/\a.block=z
def mF (K:Nat)(g:Ah)(w:Z):Prop:=
 g.status = .running/\mayWake P g=true/\∀s r,w.heap[M.cS]?=some (.chan 0 #[] false s r false)->∃f a,stepG P false g w = .go f (w.setChan M.cS 0 #[] true s r false) a/\(∀e∈a,e.loc = .obj M.cS/\e.sync=true)/\Goes P false (RG M) DQ (uA P M) K f (w.setChan M.cS 0 #[] true s r false)
def jS (i:Nat):Array CommCase:=sr M.cS M.cD (M.E i) M.zv M.zd
def jW (K:Nat):Nat->Ah->Z->Prop
 |0,g,w=>mF P M K g w
 |r+1,g,w=>g.status = .running/\∃f,stepG P false g w = .go f (cy w M.zO) #[]/\Goes P false (Rz M w.heap.size) (Dz M w.heap.size) (λg _=>
   g.status = .running/\g.offers=none/\(∀a,stepG P false g a = .comm g (jS M (M.n-(r+1))) true .select a #[])/\
    (∀a,M.Ks a->Goes P false (Rs M) (Ds M) (jW K r) K (g.finishComm P (jS M (M.n-(r+1))) .select 0 undef false) a)/\
    ∀a,M.Ks a->Goes P false (Rs M) (Ds M) (mF P M K) K (g.finishComm P (jS M (M.n-(r+1))) .select 1 M.zd false) a) K f (cy w M.zO)
def rS (K r:Nat)(g:Ah)(_:Z):Prop:=
 g.status = .running/\g.offers=none/\(∀a,stepG P false g a = .comm g (jS M (M.n-(r+1))) true .select a #[])/\
  (∀a,M.Ks a->Goes P false (Rs M) (Ds M) (jW P M K r) K (g.finishComm P (jS M (M.n-(r+1))) .select 0 undef false) a)/\
  ∀a,M.Ks a->Goes P false (Rs M) (Ds M) (mF P M K) K (g.finishComm P (jS M (M.n-(r+1))) .select 1 M.zd false) a
def BS (K r:Nat)(g:Ah)(w:Z):jW P M K (r+1) g w=(g.status = .running/\∃g',stepG P false g w = .go g' (cy w M.zO) #[]/\Goes P false (Rz M w.heap.size) (Dz M w.heap.size) (rS P M K r) K g' (cy w M.zO)):=rfl
def kh:Terms (Rs M) (Ds M):=⟨λ_ _ _ h k x=>k (h x),λ_=>⟨rfl,by simp⟩⟩
def jV.refl (z:Nat)(w:Z):jV z w w:=⟨rfl,λ_ _=>rfl,λc _ _ h=>⟨c,h⟩,rfl,rfl⟩
def p9 (z:Nat):Terms (Rz M z) (Dz M z):=⟨λ_ _ _ h k=>⟨λx=>k.1 (h.1 x),k.2.trans h.2⟩,λw=>⟨.refl z w,by simp⟩⟩
def xa:Terms (RG M) DQ:=⟨λ_ _ _ h k x=>k (h x),λ_=>⟨rfl,rfl⟩⟩
def AI:Terms (RW M) DQ:=⟨λ_ _ _ h k=>k.trans h,λ_=>⟨rfl,rfl⟩⟩
end
end
structure nJ (P:Ad)(t:Af)(z:Ak):Prop where
 agg:∀w es,(isAgg t).runT P w es=(.ok true w,es)
 size:∀w es,(sizeOf t).runT P w es=(.ok 4 w,es)
 zero:∀w es,(zeroValue t).runT P w es=(.ok (.agg z) w,es)
structure One (P:Ad)(t:Af):Prop where
 agg:∀w es,(isAgg t).runT P w es=(.ok false w,es)
 size:∀w es,(sizeOf t).runT P w es=(.ok 1 w,es)
section
variable {P:Ad}{t:Af}{z V:Ak}{ρ:Ae->D}{o:Oper}{w:Z}{es:Array Event}{x y:Ae}{p:Addr}
def jo (a:Addr):Event:=⟨.cell a,false,false⟩
def gT (a:Addr):Event:=⟨.cell a,true,false⟩
def eN{α g:Type}{s:Sem α}{f:α->Sem g}{a:α}{w':Z}{es':Array Event}(h:s.runT P w es=(.ok a w',es')):(s >>= f).runT P w es=(f a).runT P w' es':=by have:=Sem.runT_bind' P s f w es;rw[h]at this;exact this
def tW {a:Addr}{v:D}(h:w.cell? a=some v):(Go.load a).runT P w es=(.ok v w,es.push (jo a)):=by simp only[Go.load,Sem.runT,h];rfl
def E9 {a:Addr}{v old:D}(hv:v.oneCell'=true)(h:w.cell? a=some old)(f:w.frozen? a=false):(Go.store a v).runT P w es=(.ok () (w.setCell a v),es.push (gT a)):=by cases v<;>first | (simp[Value.oneCell']at hv;done) | (simp only[Go.store,Sem.runT,h,f];rfl)
def Ka (h:nJ P t z)(g:o.op = .load t x)(y:ρ x = .pointer (some p))(j:V.size=4)(f:∀i,i<4->w.cell? (p.add i)=some (V.getD i undef)) :
  (execOp ρ o).runT P w #[]=(.ok (.value (.agg V)) w,#[jo (p.add 0),jo (p.add 1),jo (p.add 2),jo (p.add 3)]):=by
 unfold execOp;rw[g];dsimp only;rw[y];have r:(loadCells p 4).runT P w #[]=(.ok V w,#[jo (p.add 0),jo (p.add 1),jo (p.add 2),jo (p.add 3)]):=by
  unfold loadCells;unfold loadCellsFrom;rw[eN (tW (f 0 (by decide)))];unfold loadCellsFrom;rw[eN (tW (f 1 (by decide)))];unfold loadCellsFrom;rw[eN (tW (f 2 (by decide)))];unfold loadCellsFrom;rw[eN (tW (f 3 (by decide)))];unfold loadCellsFrom;simp only[pure,Sem.runT,Prod.mk.injEq,Result.ok.injEq,and_true];refine⟨?_,rfl⟩;obtain⟨l⟩:=V;simp only[ay]at j
  match l,j with
  |[a,b,c,d],_=>rfl
 have:(Instr.loadAt t (.pointer (some p))).runT P w #[]=(.ok (.agg V) w,#[jo (p.add 0),jo (p.add 1),jo (p.add 2),jo (p.add 3)]):=by
  unfold Instr.loadAt;rw[eN (show(Instr.sureAddr (.pointer (some p))).runT P w #[]=(.ok p w,#[])from rfl)];unfold loadVar;rw[eN (h.agg w _)];simp only[if_true];rw[eN (h.size w _),eN r]
  rfl
 rw[eN this]
 rfl
def J9 (f:One P t)(a:o.op = .load t x)(h:ρ x = .pointer (some p)){v:D}(g:w.cell? p=some v):(execOp ρ o).runT P w #[]=(.ok (.value v) w,#[jo p]):=by
 unfold execOp;rw[a];dsimp only;rw[h];have:(Instr.loadAt t (.pointer (some p))).runT P w #[]=(.ok v w,#[jo p]):=by unfold Instr.loadAt;rw[eN (show(Instr.sureAddr (.pointer (some p))).runT P w #[]=(.ok p w,#[])from rfl)];unfold loadVar;rw[eN (f.agg w _)];simp only[bg,if_false];exact tW g
 rw[eN this]
 rfl
def Ch (f:nJ P t z)(a:o.op = .alloc t):(execOp ρ o).runT P w #[]=(.ok (.value (ab w.heap.size)) (cy w (.cells z t)),#[]):=by
 unfold execOp;rw[a];dsimp only;have:(Instr.alloc t true (.tuple #[])).runT P w #[]=(.ok (ab w.heap.size) (cy w (.cells z t)),#[]):=by
  unfold Instr.alloc;rw[eN (f.zero w _)]
  rfl
 rw[eN this]
 rfl
def Kb (hA:nJ P t z)(N:o.op = .store t x y){b:Nat}(hx:ρ x = ab b)(hy:ρ y = .agg V)(W:V.size=4)(h1:∀v∈V,v.oneCell'=true){c:Ak}{t':Af}(hb:w.heap[b]?=some (.cells c t' (0,0)))(hc:c.size=4) :
  ∃w',(execOp ρ o).runT P w #[]=(.ok .skip w',#[gT ⟨b,0,none⟩,gT ⟨b,1,none⟩,gT ⟨b,2,none⟩,gT ⟨b,3,none⟩])/\jV b w w'/\w'.heap[b]?=some (.cells V t' (0,0)):=by
 have Y:=(aO.1 hb).1;have one:∀(w:Z) (c:Ak) (i:Nat) (v:D) (es:Array Event),w.heap[b]?=some (.cells c t' (0,0))->i<c.size->v.oneCell'=true->(Go.store ⟨b,i,none⟩ v).runT P w es=(.ok () (w.setCell ⟨b,i,none⟩ v),es.push (gT ⟨b,i,none⟩))/\(w.setCell ⟨b,i,none⟩ v).heap[b]?=some (.cells (c.setIfInBounds i v) t' (0,0))/\jV b w (w.setCell ⟨b,i,none⟩ v):=by intro w c i v es f hi hv;refine⟨E9 (old:=c[i]) hv (by simp[World.cell?,f,hi]) (by simp[World.frozen?,f]),by simp[World.setCell,aV,f],?_⟩;refine⟨by simp[World.setCell],λk hk=>by simp[World.setCell,aV,Ne.symm hk],λU t2 M h=>?_,rfl,rfl⟩;rw[f]at h;cases h;exact⟨c.setIfInBounds i v,by simp[World.setCell,aV,f]⟩
 have tr:∀{Q R S:Z},jV b Q R->jV b R S->jV b Q S:=λ{Q R S} h k=>⟨k.size.trans h.size,λj hj=>(k.rest j hj).trans (h.rest j hj),λc t M e=>by obtain⟨U,e'⟩:=h.row c t M e;exact k.row U t M e',k.os.trans h.os,k.output.trans h.output⟩
 obtain⟨l⟩:=V;simp only[ay]at W
 match l,W with
 |[g,r,B,C],_=>
  obtain⟨s0,r0,a0⟩:=one w c 0 g #[] hb (by omega) (h1 g (by simp));obtain⟨s1,r1,a1⟩:=one _ _ 1 r (#[].push (gT ⟨b,0,none⟩)) r0 (by simp;omega) (h1 r (by simp));obtain⟨s2,r2,a2⟩:=one _ _ 2 B ((#[].push (gT ⟨b,0,none⟩)).push (gT ⟨b,1,none⟩)) r1 (by simp;omega) (h1 B (by simp));obtain⟨s3,r3,a3⟩:=one _ _ 3 C (((#[].push (gT ⟨b,0,none⟩)).push (gT ⟨b,1,none⟩)).push (gT ⟨b,2,none⟩)) r2 (by simp;omega) (h1 C (by simp));refine⟨_,?_,tr a0 (tr a1 (tr a2 a3)),?_⟩
  .unfold execOp;rw[N];dsimp only;rw[hx,hy];have:(Instr.storeAt t (ab b) (.agg #[g,r,B,C])).runT P w #[]=(.ok () ((((w.setCell ⟨b,0,none⟩ g).setCell ⟨b,1,none⟩ r).setCell ⟨b,2,none⟩ B).setCell ⟨b,3,none⟩ C),#[gT ⟨b,0,none⟩,gT ⟨b,1,none⟩,gT ⟨b,2,none⟩,gT ⟨b,3,none⟩]):=by
    unfold Instr.storeAt;rw[eN (show(Instr.sureAddr (ab b)).runT P w #[]=(.ok ⟨b,0,none⟩ w,#[])from rfl)];unfold storeVar;rw[eN (hA.size w _)];show(storeCells ⟨b,0,none⟩ [g,r,B,C]).runT P w #[]=_;unfold storeCells;refine Eq.trans (eN s0) ?_;unfold storeCells;refine Eq.trans (eN s1) ?_;unfold storeCells;refine Eq.trans (eN s2) ?_;unfold storeCells;refine Eq.trans (eN s3) ?_
    rfl
   rw[eN this]
   rfl
  .rw[r3];obtain⟨lc⟩:=c;simp only[ay]at hc
   match lc,hc with
   |[a,b,c,d],_=>rfl
variable {main:Bool}{R:Z->Z->Prop}{ch:Z->Z->Array Event->Prop}{Stop:Ah->Z->Prop}{n i:Nat}{b:Ai}{a:Act}{k:List Item}{cs:List Ai}{ops:Am}{rest:List Nat}
def FC {v:D}{w':Z}(l:ops[i]?=some o)(h:o.guard=none)(j:b.kind≠.early)(f:(execOp a.eval o).runT P w #[]=(.ok (.value v) w',es)) :
  ∃es',stepG P main (G (b.at a (.inRegion ops (i::rest)::k)) cs) w = .go (G (b.at (a.put o.dst v) (.inRegion ops rest::k)) cs) w' es'/\∀e∈es',e∈es:=by
 rw[Sem.runT_eq]at f;refine⟨_,stepG_value l (by simp[Region.wanted,h]) j (congrArg Prod.fst f),λe g=>?_⟩;have:=mem_seen g
 rwa [show(execOp a.eval o).events P w #[]=es from congrArg Prod.snd f]at this
def Ql {w':Z}(l:ops[i]?=some o)(h:o.guard=none)(j:b.kind≠.early)(f:(execOp a.eval o).runT P w #[]=(.ok .skip w',es)) :
  ∃es',stepG P main (G (b.at a (.inRegion ops (i::rest)::k)) cs) w = .go (G (b.at (a.put o.dst undef) (.inRegion ops rest::k)) cs) w' es'/\∀e∈es',e∈es:=by
 rw[Sem.runT_eq]at f;refine⟨_,stepG_none l (by simp[Region.wanted,h]) j (congrArg Prod.fst f),λe g=>?_⟩;have:=mem_seen g
 rwa [show(execOp a.eval o).events P w #[]=es from congrArg Prod.snd f]at this
def AA{w':Z}{cases:Array CommCase}{f:Bool}{shape:CommShape}(l:ops[i]?=some o)(h:o.guard=none)(j:b.kind≠.early)(g:(execOp a.eval o).runT P w #[]=(.ok (.comm cases f shape) w',#[])) :
  stepG P main (G (b.at a (.inRegion ops (i::rest)::k)) cs) w = .comm (G (b.at a (.inRegion ops (i::rest)::k)) cs) cases f shape w' #[]:=by
 rw[Sem.runT_eq]at g;rw[stepG_comm l (by simp[Region.wanted,h]) j (congrArg Prod.fst g)];unfold listed;rw[show(execOp a.eval o).events P w #[]=#[]from congrArg Prod.snd g,seen_none]
def FB {v:D}{w':Z}(j:ops[i]?=some o)(g:o.guard=none)(h:b.kind≠.early)(f:(execOp a.eval o).runT P w #[]=(.ok (.value v) w',#[])) :
  stepG P main (G (b.at a (.inRegion ops (i::rest)::k)) cs) w = .go (G (b.at (a.put o.dst v) (.inRegion ops rest::k)) cs) w' #[]:=by
 rw[Sem.runT_eq]at f;rw[stepG_value j (by simp[Region.wanted,g]) h (congrArg Prod.fst f)];unfold listed;rw[show(execOp a.eval o).events P w #[]=#[]from congrArg Prod.snd f,seen_none]
def cells_of_row {c:Ak}{t:Af}{a:Nat × Nat}{r:Nat}(h:w.heap[r]?=some (.cells c t a))(g:c.size=4):∀i,i<4->w.cell? ((⟨r,0,none⟩:Addr).add i)=some (c.getD i undef):=by
 intro i j;have:(⟨r,0,none⟩:Addr).add i=⟨r,i,none⟩:=by
  unfold Addr.add;split
  .rename_i f;rw[f]
  .simp
 rw[this];simp[World.cell?,h,g,j]
def yP (B:ops[i]?=some o)(r:o.guard=none)(y:b.kind≠.early)(v:D)(C:∀f,R w f->∃w' es,(execOp a.eval o).runT P f #[]=(.ok (.value v) w',es)/\(∀es',(∀e∈es',e∈es)->ch f w' es')/\Goes P main R ch Stop n (G (b.at (a.put o.dst v) (.inRegion ops rest::k)) cs) w') :
  Goes P main R ch Stop (n+1) (G (b.at a (.inRegion ops (i::rest)::k)) cs) w:=
 Goes.step rfl λf g=>by obtain⟨w',es,h,j,l⟩:=C f g;obtain⟨es',e,M⟩:=FC (main:=main) (k:=k) (cs:=cs) (rest:=rest) B r y h;rw[e];exact⟨j es' M,l⟩
def CR (B:ops[i]?=some o)(r:o.guard=none)(y:b.kind≠.early)(C:∀f,R w f->∃w' es,(execOp a.eval o).runT P f #[]=(.ok .skip w',es)/\(∀es',(∀e∈es',e∈es)->ch f w' es')/\Goes P main R ch Stop n (G (b.at (a.put o.dst undef) (.inRegion ops rest::k)) cs) w') :
  Goes P main R ch Stop (n+1) (G (b.at a (.inRegion ops (i::rest)::k)) cs) w:=
 Goes.step rfl λf g=>by obtain⟨w',es,h,j,l⟩:=C f g;obtain⟨es',e,D⟩:=Ql (main:=main) (k:=k) (cs:=cs) (rest:=rest) B r y h;rw[e];exact⟨j es' D,l⟩
def Ji {M:dI}{K r:Nat}(g:nJ P t z)(y:ops[i]?=some o)(j:o.guard=none)(l:b.kind≠.early)(f:o.op = .alloc t)(B:M.zO = .cells z t)
  (h:Goes P false (Rz M w.heap.size) (Dz M w.heap.size) (rS P M K r) K (G (b.at (a.put o.dst (ab w.heap.size)) (.inRegion ops rest::k)) cs) (cy w M.zO)):jW P M K (r+1) (G (b.at a (.inRegion ops (i::rest)::k)) cs) w:=by
 rw[BS];refine⟨rfl,_,?_,h⟩;rw[B];exact FB y j l (Ch g f)
def vD (j:nJ P t z)(S:ops[i]?=some o)(M:o.guard=none)(N:b.kind≠.early)(h:o.op = .store t x y){r:Nat}(W:a.eval x = ab r)(Y:a.eval y = .agg V)(B:V.size=4)(h1:∀v∈V,v.oneCell'=true){c:Ak}{t':Af}
  (hb:∀f,R w f->f.heap[r]?=some (.cells c t' (0,0))) (C:c.size=4) (l:∀f w' es',R w f->jV r f w'->(∀e∈es',∃a b,e=⟨.cell a,b,false⟩/\a.block=r)->ch f w' es')
  (Q:∀f w',R w f->jV r f w'->w'.heap[r]?=some (.cells V t' (0,0))->Goes P main R ch Stop n (G (b.at (a.put o.dst undef) (.inRegion ops rest::k)) cs) w') :
  Goes P main R ch Stop (n+1) (G (b.at a (.inRegion ops (i::rest)::k)) cs) w:=by
 refine CR S M N λf g=>?_;obtain⟨w',e1,e2,e3⟩:=Kb (ρ:=a.eval) j h W Y B h1 (hb f g) C;refine⟨w',_,e1,λes' U=>l f w' es' g e2 λe D=>?_,Q f w' g e2 e3⟩;have:=U e D;simp only[aL,bE,List.not_mem_nil,or_false]at this;rcases this with rfl|rfl|rfl|rfl<;>exact⟨_,_,rfl,rfl⟩
def yO (j:nJ P t z)(N:ops[i]?=some o)(C:o.guard=none)(D:b.kind≠.early)(h:o.op = .load t x)(S:a.eval x = .pointer (some p))(r:V.size=4)
  (y:∀f,R w f->∀i,i<4->f.cell? (p.add i)=some (V.getD i undef)) (l:∀f es',R w f->(∀e∈es',∃i,i<4/\e=⟨.cell (p.add i),false,false⟩)->ch f f es')
  (M:∀f,R w f->Goes P main R ch Stop n (G (b.at (a.put o.dst (.agg V)) (.inRegion ops rest::k)) cs) f) :
  Goes P main R ch Stop (n+1) (G (b.at a (.inRegion ops (i::rest)::k)) cs) w:=by
 refine yP N C D (.agg V) λf g=>⟨f,_,Ka j h S r (y f g),λes' Q=>l f es' g λe B=>?_,M f g⟩
 have:=Q e B;simp only[aL,bE,List.not_mem_nil,or_false]at this;rcases this with rfl|rfl|rfl|rfl
 .exact⟨0,by decide,rfl⟩
 .exact⟨1,by decide,rfl⟩
 .exact⟨2,by decide,rfl⟩
 .exact⟨3,by decide,rfl⟩
def qL (j:One P t)(N:ops[i]?=some o)(B:o.guard=none)(C:b.kind≠.early)(h:o.op = .load t x)(S:a.eval x = .pointer (some p))(v:D)
  (r:∀f,R w f->f.cell? p=some v) (l:∀f es',R w f->(∀e∈es',e=⟨.cell p,false,false⟩)->ch f f es')
  (M:∀f,R w f->Goes P main R ch Stop n (G (b.at (a.put o.dst v) (.inRegion ops rest::k)) cs) f) :
  Goes P main R ch Stop (n+1) (G (b.at a (.inRegion ops (i::rest)::k)) cs) w:=by
 refine yP N B C v λf g=>⟨f,_,J9 j h S (r f g),λes' Q=>l f es' g λe y=>?_,M f g⟩
 have:=Q e y;simpa [jo]using this
def sU (g:ops[i]?=some o)(cases:Array CommCase)(sh:CommShape)(f:Int)(v:D)(ok:Bool) :
  (G (b.at a (.inRegion ops (i::rest)::k)) cs).finishComm P cases sh f v ok=G (b.at (a.put o.dst (commResult cases sh f v ok)) (.inRegion ops rest::k)) cs:=by
 have:(b.at a (.inRegion ops (i::rest)::k)).finish (commResult cases sh f v ok)=b.at (a.put o.dst (commResult cases sh f v ok)) (.inRegion ops rest::k):=by rw[Frame.finish_at,g];rfl
 rw[<- this]
 rfl
def MY (M:dI)(i:Nat):commResult (jS M i) .select 0 undef false = .tuple #[Y 0,.bool false,M.zd]:=by simp[commResult,jS,sr,scase,rcase,goInt]
def MX (M:dI)(i:Nat):commResult (jS M i) .select 1 M.zd false = .tuple #[Y 1,.bool false,M.zd]:=by simp[commResult,jS,sr,scase,rcase,goInt]
end
end Go.Proofs.YthbdpfccfcceiaaGreatDoor
