/-
  Of hurt_card.
-/
import Derived.Test.YthbdpfccfcceiaaGreatDoorZO1x
import Derived.Test.YthbdpfccfcceiaaGreatDoorF24x
import Derived.OrdersHeld
set_option linter.all false
namespace Go.Proofs.YthbdpfccfcceiaaGreatDoor
open Go.Proofs.Tryz
variable {c i k l n q si sn sz:Nat}{fn:Func}{p:Option Addr}{d:Bool}{j m:Int}{b f:Z}{A s u:Oper}
section
open Go.Conc Go.Lib
def zw{y:Int}{x:UInt8}(l:Value.int .u8 y=b8 x)(a:An (b.alloc (.cells #[.int .u8 y] 5)) f):∀j u,([x].map b8)[j]?=some u->f.cell? ((⟨b.heap.size,0,none⟩:Addr).add j)=some u:=by obtain⟨g,o,cap,e,h⟩:=((mK b #[.int .u8 y] [x] (by simp[l]) (by simp)).kept a).rd.form (by simp);cases e;exact h
def Ex{base:Nat}{v:D}{bs:Aj}{t:Ac}{w:Z}(h:BA base w v bs)(hl:bs.length+1+t.size<=1000000000)(hb:base<=w.heap.size):Calls (cj prog) 286 #[v,.string t] w λe w'=>∃v',e = .returned v'/\BA base w' v' (bs++fF t)/\Kp (λb=>v.ownBlock=some b) w w'/\Loc w v v':=by
 refine calls_of_wp vq rfl ?_;simp only[fi,ntmps210];have s0:bY 13 ⟨#[v,Value.string t]++Array.replicate (13+1-(#[v,Value.string t]:Ak).size) undef,[]⟩ _:=bY.start (by simp);generalize (Act.mk (#[v,Value.string t]++Array.replicate (13+1-(#[v,Value.string t]:Ak).size) undef) []:Act)=a0 at s0 ⊢;refine bO (mD λw0 k0=>?_);simp only[f210,aC,gy,vL];refine bO (dL s0 (fL (y:=ae) (.inr rfl) rfl w0) λa1 w1 s1 k1=>bQ ?_);refine bO ?_;refine dL s1 (fL (y:=v) (.inl rfl) s1.e w1) λa2 w2 s2 k2=>?_;refine dL s2 (fL (y:=.string t) (.inl rfl) s2.e w2) λa3 w3 s3 k3=>?_;refine dL s3 (OJ (s:=t) rfl s3.e w3) λa4 w4 s4 k4=>?_;refine dL s4 (rE rfl zS pW (n:=t.size) s4.e w4) λa5 w5 s5 k5=>?_;refine dL s5 (zV rfl s5.e w5) λa6 w6 M k6=>?_;have C:An w w6:=k0.t (k1.t (k2.t (k3.t (k4.t (k5.t ((Kp.al _ _ _).t k6))))));have hA:BA base w6 v bs:=h.kept C;have hc:=zw (x:=u8 t.size) (by simp[b8,lj,IntKind.wrap_u8]) k6;obtain⟨i,hi,hz,h1,h2⟩:=pU;obtain⟨v1,w7,hr,Q,S,f⟩:=oc (P:=cj prog) lL hi hz h1 h2 48 hA ⟨w5.heap.size,0,none⟩ 1 [u8 t.size] hc (by simp;omega) (aX hb C.size);refine xu M rfl rfl (by decide) rfl (v:=v) M.e hA (by rw[M.eval (by decide),M.eval (by decide)];exact hr) λa7 w8 s7 k7=>?_;refine dL s7 (fL (y:=.string t) (.inl rfl) s7.e w8) λa8 w9 N k8=>?_;have a:BA base w9 v1 (bs++[u8 t.size]):=Q.kept (k7.t k8);have j:Kp (λb=>v.ownBlock=some b) w w9:=(C.mono (λ_ _ e=>e.elim)).trans (S.trans (k7.t k8) λ_ _ e=>e.elim) λ_ _ e=>e
 have l:Loc w v v1:=by
  rcases f with e|e
  .exact .inl e
  .exact .inr ⟨_,e,C.size⟩
 obtain⟨v2,an,W,R,U,g⟩:=Hd (P:=cj prog) lL rC hi hz h1 h2 48 a t (by simp;omega) (aX hb j.size);refine xu N rfl rfl (by decide) rfl (v:=v1) N.e a (by rw[N.eval (by decide),N.eval (by decide)];exact W) λa9 ad s9 k9=>?_;refine dL s9 (fL (y:=v2) (.inr rfl) s9.e ad) λam B r o=>bQ ?_;have Y:Kp (λb=>v.ownBlock=some b) w B:=l.kp (U.trans (k9.t o) λ_ _ e=>e.elim) j;refine wp_ret ⟨r.d,v2,?_,v2,rfl,?_,Y,?_⟩
 .rw[fo rfl];exact congrArg (λx=>Result.ok x B) (r.v 4 (by decide))
 .have:=R.kept (k9.t o);rw[bn]at this;exact this
 .refine l.trans (w1:=w9) ?_ j.size;rcases g with e|e
  .exact .inl e
  .exact .inr ⟨_,e,aW _⟩
end
section
open Go.Conc Go.Lib
section
variable {Post:Exit->Act->Z->Prop}{N:Nat}{e:Nat->D}
def Gl {f:Nat->Code}{w0:Z}:∀(l:List Nat),l≠[]->(∀i∈l,∀a' w',bY N a' e->An w0 w'->(f i).wp (cj prog) Post a' w')->∀(a:Act) (w:Z),bY N a e->An w0 w->(rp N f l).wp (cj prog) Post a w
 |[],h,_,_,_,_,_=>bx rfl h
 |[i],_,h,a,w,C,g=>h i (by simp) a w C g
 |i::j::r,_,h,a,w,C,g=>by
  refine bO (Gk λt=>?_);have y:An w0 { w with drawn:=w.drawn+1 }:=⟨g.os,g.tape,g.output,g.size,g.block⟩;have B:bY N ((a.put (some N) (.bool (!t))).put (some N) (.bool t)) e:=(C.bit _).bit _;have o:((a.put (some N) (.bool (!t))).put (some N) (.bool t)).eval (.tmp N) = .bool t:=by show Array.getD _ N undef=_;simp[Act.put,aU,C.s]
  cases t with
  |true=>exact bM o (h i (by simp) _ _ B y)
  |false=>exact bL o (Gl (j::r) (by simp) (λk g=>h k (by simp[bE.1 g])) _ _ B y)
def Gj {ops:Am}(Inv:Array Bool->(Nat->D)->Z->Prop)(B:∀l e w w',Inv l e w->An w w'->Inv l e w')
  (f:∀l e w,Inv l e w->false∈l.toList->ie ops l≠[])
  (h:∀l e w i,Inv l e w->i∈ie ops l->∀(a:Act) (K:Act->Z->Prop),bY N a e->(∀a' S w',bY N a' S->Inv (l.setIfInBounds i true) S w'->K a' w')->(gA Iq (ops.getD i default)).wp (cj prog) (Exit.then K Post) a w)
  (g:∀l e w a,Inv l e w->false ∉ l.toList->bY N a e->Post .normal a w) :
  ∀(n:Nat) (l:Array Bool) (e:Nat->D) (a:Act) (w:Z),l.size<=ops.size->(l.toList.countP λb=>!b)=n->Inv l e w->bY N a e->(mP Iq ops N n l).wp (cj prog) Post a w
 |0,l,e,a,w,_,y,r,Q=>by refine bQ (g l e w a r (λhm=>?_) Q);have:=List.countP_eq_zero.1 y false hm;simp at this
 |n+1,l,e,a,w,M,y,r,Q=>by
  have hm:false∈l.toList:=by obtain⟨b,hb,hp⟩:=List.countP_pos_iff.1 (by rw[y];omega);simp at hp;subst hp;exact hb
  refine Gl (ie ops l) (f l e w r hm) (λi U a' w' R C=>?_) a w Q (Kp.refl _ _);have o:l[i]?=some false:=by
   have j:=(List.mem_filter.1 U).2;simp only[av,Bool.not_eq_true',aU]at j;cases W:l[i]? with
   |none=>rw[W]at j;simp at j
   |some b=>rw[W]at j;simp at j;rw[j.1]
  have P:i<l.size:=(aO.1 o).1;refine bO (h l e w' i (B l e w w' r C) U a' _ R λa2 e2 w2 s2 Y=>?_);refine bO (mD λw3 k3=>?_);refine Gj Inv B f h g n _ e2 a2 w3 (by simpa using M) ?_ (B _ _ _ _ Y k3) s2;rw[Array.toList_setIfInBounds,List.countP_set (by simpa using P)];have hv:l.toList[i]=false:=by have:=(aO.1 o).2;simpa using this
  simp[hv,y]
end
end
section
open Go.Conc Go.Lib
def oU (fn:Func):Am:=match fn.body.getD .skip with
 |.seq _ (.seq _ (.seq (.region _ a _) _))=>a
 |_=>#[]
def Gb (l:Array Bool)(i:Nat):i∈ie (oU f209) l ↔
  (i=0/\l.getD 0 true=false)\/(i=1/\l.getD 1 true=false)\/(i=2/\l.getD 2 true=false/\l.getD 0 false=true/\l.getD 1 false=true)\/(i=3/\l.getD 3 true=false)\/(i=4/\l.getD 4 true=false/\l.getD 3 false=true)\/
  (i=5/\l.getD 5 true=false/\l.getD 2 false=true/\l.getD 4 false=true)\/(i=6/\l.getD 6 true=false/\l.getD 5 false=true/\l.getD 0 false=true/\l.getD 1 false=true/\l.getD 2 false=true/\l.getD 3 false=true/\l.getD 4 false=true):=by
 unfold ie oU;simp only[f209,aC];rw[List.mem_filter,List.mem_range];rcases i with _|_|_|_|_|_|_|i
 all_goals simp[Region.binds]
 all_goals (intros;assumption)
section
variable {Post:Exit->Act->Z->Prop}{a:Act}{w:Z}{o:Oper}{N:Nat}{e:Nat->D}{K:Act->Z->Prop}
def uq {d:Nat}{y:D}{w1:Z}(h:bY N a e)(g:iN o.op=none)(l:o.guard=none)(f:o.dst=some d)(j:d<N)(r:(execOp a.eval (qo Iq o)).run (cj prog) w = .ok (.value y) w1)
  (next:∀a',bY N a' (upd e d y)->K a' w1):(gA Iq o).wp (cj prog) (Exit.then K Post) a w:=by
 unfold gA;rw[g];exact qh l r (next _ (by rw[show(qo Iq o).dst=some d from f];exact h.put j y))
def Ri{d : Nat}{f : Ag}{args : Array Ae}{ats : Array Af}{vs : Ak}(h : bY N a e)(l : iN o.op = none)(P : o.guard = none)(j : o.dst = some d)(D : d < N)(r : (qo Iq o).op = .call { callee := .value (.func f),args,argTypes := ats })(M : (cj prog).funcs[f]? = some fn)(g : (fn.name == "runtime.NumGoroutine") = false)(hb : fn.body.isNone = false)(B : args.map a.eval = vs)
  (C:Calls (cj prog) f vs w λx w1=>∃y,x = .returned y/\∀a',bY N a' (upd e d y)->K a' w1):(gA Iq o).wp (cj prog) (Exit.then K Post) a w:=by
 unfold gA;rw[l];refine uu P r M g hb B (C.mono λx w1 Q=>?_);obtain⟨y,rfl,R⟩:=Q;exact⟨y,rfl,R _ (by rw[show(qo Iq o).dst=some d from j];exact h.put D y)⟩
def Rh {d:Nat}{s x:Ae}{t:Af}{base:Nat}{v:D}{bs:Aj}{v':D}{w1:Z}(h:bY N a e)(r:o.guard=none)(f:o.dst=some d)(l:d<N)(g:o.op = .call ⟨.builtin .append,#[s,x],#[48,t]⟩)(M:a.eval s=v)(j:BA base w v bs)
  (C:(Builtin.append_ #[48,t] o.type #[a.eval s,a.eval x]).run (cj prog) w = .ok v' w1)
  (next:∀a',bY N a' (upd e d v')->K a' w1):(gA Iq o).wp (cj prog) (Exit.then K Post) a w:=by
 unfold gA;rw[show iN o.op=some s by rw[g];rfl];refine bO (uu rfl rfl vp (by kernel_rfl) rfl (vs:=#[v]) (by simp[M]) ((Dq j).mono λe w1 B=>?_));obtain⟨y,rfl,rfl⟩:=B;exact⟨y,rfl,qh r (EC g C) (next _ (by rw[show(qo Iq o).dst=some d from f];exact h.put l v'))⟩
end
structure VI (base:Nat)(v:D)(bs:Aj)(t:Ac)(g:Nat)(w0:Z)(b0 b1 b2 b3 b4 b5 b6:Bool)(e:Nat->D)(w:Z):Prop where
 c2:b2=true->b0=true/\b1=true
 c4:b4=true->b3=true
 c5:b5=true->b2=true/\b4=true
 c6:b6=true->b5=true
 e0:e 0=v
 e3:e 3 = ab g
 box:w.heap[g]?=some (.cells #[.string t,.bool false] 138)
 lz:v.ownBlock≠some g
 mg:g<w0.heap.size
 m0:b0=true->e 10=v
 m1:b1=true->b2=false->∃c:Addr,e 11 = .slice (some c) 1 1/\∀j u,([(0:UInt8)].map b8)[j]?=some u->w.cell? (c.add j)=some u
 row:b2=false->BA base w v bs/\An w0 w
 a2:b2=true->b5=false->BA base w (e 12) (bs++[0])/\Kp (λb=>v.ownBlock=some b) w0 w/\Loc w0 v (e 12)
 m3:b3=true->e 13 = ab g
 m4:b4=true->e 14 = .string t
 a5:b5=true->BA base w (e 15) (bs++0::fF t)/\Kp (λb=>v.ownBlock=some b) w0 w/\Loc w0 v (e 15)
 a6:b6=true->e 4=e 15
section
variable {base:Nat}{v:D}{bs:Aj}{t:Ac}{g:Nat}{w0 w w':Z}{b0 b1 b2 b3 b4 b5 b6:Bool}{e:Nat->D}
def VI.kp (h:VI base v bs t g w0 b0 b1 b2 b3 b4 b5 b6 e w)(a:An w w'):VI base v bs t g w0 b0 b1 b2 b3 b4 b5 b6 e w' where
 c2:=h.c2
 c4:=h.c4
 c5:=h.c5
 c6:=h.c6
 e0:=h.e0
 e3:=h.e3
 box:=(a.block g (aO.1 h.box).1 id).trans h.box
 lz:=h.lz
 mg:=h.mg
 m0:=h.m0
 m1 x y:=by obtain⟨c,o,f⟩:=h.m1 x y;exact⟨c,o,λj u l=>(a.cell (bH w _ (f j u l)) id).trans (f j u l)⟩
 row x:=⟨(h.row x).1.kept a,(h.row x).2.t a⟩
 a2 x y:=⟨(h.a2 x y).1.kept a,(h.a2 x y).2.1.trans a λ_ _ e=>e.elim,(h.a2 x y).2.2⟩
 m3:=h.m3
 m4:=h.m4
 a5 x:=⟨(h.a5 x).1.kept a,(h.a5 x).2.1.trans a λ_ _ e=>e.elim,(h.a5 x).2.2⟩
 a6:=h.a6
end
def OA {base:Nat}{v:D}{bs:Aj}{t:Ac}{g:Nat}{w0 w:Z}{e:Nat->D}{a:Act}{Post:Exit->Act->Z->Prop}(hl:bs.length+2+t.size<=1000000000)(hb:base<=w0.heap.size)(j:bY 16 a e)
  (hI:VI base v bs t g w0 false false false false false false false e w)
  (hP:∀a' e' w',bY 16 a' e'->BA base w' (e' 4) (bs++0::fF t)->Kp (λb=>v.ownBlock=some b) w0 w'->Loc w0 v (e' 4)->Post .normal a' w') :
  (mP Iq (oU f209) 16 7 #[false,false,false,false,false,false,false]).wp (cj prog) Post a w:=by
 refine Gj (ops:=oU f209) (λl e w=>∃b0 b1 b2 b3 b4 b5 b6,l=#[b0,b1,b2,b3,b4,b5,b6]/\VI base v bs t g w0 b0 b1 b2 b3 b4 b5 b6 e w) ?_ ?_ ?_ ?_ 7 _ e a w (by decide) (by decide) ⟨_,_,_,_,_,_,_,rfl,hI⟩ j
 .rintro l e w w' ⟨b0,b1,b2,b3,b4,b5,b6,rfl,h⟩ hk;exact⟨b0,b1,b2,b3,b4,b5,b6,rfl,h.kp hk⟩
 .rintro l e w ⟨b0,b1,b2,b3,b4,b5,b6,rfl,h⟩ hm a1;have C:∀i,i ∉ ie (oU f209) #[b0,b1,b2,b3,b4,b5,b6]:=λi f=>by rw[a1]at f;cases f
  have r0:=C 0;have r1:=C 1;have U:=C 2;have r3:=C 3;have r4:=C 4;have W:=C 5;have Y:=C 6;rw[Gb]at r0 r1 U r3 r4 W Y;simp at r0 r1 U r3 r4 W Y hm;subst r0 r1 r3;simp at U r4;subst U r4;simp at W;subst W;simp at Y;subst Y;simp at hm
 .rintro l e w i ⟨b0,b1,b2,b3,b4,b5,b6,rfl,h⟩ f a K j next
  rw[Gb]at f;rcases f with⟨rfl,f⟩|⟨rfl,f⟩|⟨rfl,f⟩|⟨rfl,f⟩|⟨rfl,f⟩|⟨rfl,f⟩|⟨rfl,f⟩
  .have:b0=false:=by simpa using f
   subst this;have M:b2=false:=by cases b2 with|false=>rfl|true=>exact bx (h.c2 rfl).1 (by decide)
   subst M;refine uq j rfl rfl rfl (by decide) (fL (y:=v) (.inl rfl) (j.e.trans h.e0) w) λa' r=>next a' _ w r ⟨true,b1,false,b3,b4,b5,b6,rfl,?_⟩
   exact⟨λx=>(by cases x),h.c4,h.c5,h.c6,h.e0,h.e3,h.box,h.lz,h.mg,λ_=>rfl,h.m1,h.row,λx=>(by cases x),h.m3,h.m4,λx=>bx (h.c5 x).1 (by decide),λx=>bx (h.c5 (h.c6 x)).1 (by decide)⟩
  .have:b1=false:=by simpa using f
   subst this;have M:b2=false:=by cases b2 with|false=>rfl|true=>exact bx (h.c2 rfl).2 (by decide)
   subst M;refine uq j rfl rfl rfl (by decide) (zV (y:=0) rfl rfl w) λa' r=>next a' _ _ r ⟨b0,true,false,b3,b4,b5,b6,rfl,?_⟩
   have ka:An w (w.alloc (.cells #[.int .u8 0] 5)):=Kp.al _ _ _;exact⟨λx=>(by cases x),h.c4,h.c5,h.c6,h.e0,h.e3,(h.kp ka).box,h.lz,h.mg,h.m0,λ_ _=>⟨_,rfl,zw (x:=0) rfl (Kp.refl _ _)⟩,(h.kp ka).row,λx=>(by cases x),h.m3,h.m4,λx=>bx (h.c5 x).1 (by decide),λx=>bx (h.c5 (h.c6 x)).1 (by decide)⟩
  .have:b2=false/\b0=true/\b1=true:=by simpa using f
   obtain⟨rfl,rfl,rfl⟩:=this;have h5:b5=false:=by cases b5 with|false=>rfl|true=>exact bx (h.c5 rfl).1 (by decide)
   subst h5;obtain⟨c,ad,hc⟩:=h.m1 rfl rfl;obtain⟨S,o⟩:=h.row rfl;obtain⟨i,f,hz,h1,M⟩:=pU;obtain⟨v1,w1,hr,am,Q,B⟩:=oc (P:=cj prog) lL f hz h1 M 48 S c 1 [0] hc (by simp;omega) (aX hb o.size);refine Rh j rfl rfl (by decide) rfl (v:=v) (j.e.trans (h.m0 rfl)) S (by rw[j.eval (by decide),j.eval (by decide),h.m0 rfl,ad];exact hr) λa' r=>next a' _ w1 r ⟨true,true,true,b3,b4,false,b6,rfl,?_⟩
   refine⟨λ_=>⟨rfl,rfl⟩,h.c4,λx=>(by cases x),h.c6,h.e0,h.e3,?_,h.lz,h.mg,h.m0,λ_ x=>(by cases x),λx=>(by cases x),λ_ _=>⟨am,(o.mono λ_ _ e=>e.elim).trans Q λ_ _ e=>e,?_⟩,h.m3,h.m4,λx=>(by cases x),λx=>bx (h.c6 x) (by decide)⟩
   .exact(Q.block g (aO.1 h.box).1 h.lz).trans h.box
   .rcases B with e|e
    .exact .inl e
    .exact .inr ⟨_,e,o.size⟩
  .have:b3=false:=by simpa using f
   subst this;have h4:b4=false:=by cases b4 with|false=>rfl|true=>exact bx (h.c4 rfl) (by decide)
   subst h4;refine uq j rfl rfl rfl (by decide) (OE rfl (j.e.trans h.e3) w) λa' r=>next a' _ w r ⟨b0,b1,b2,true,false,b5,b6,rfl,?_⟩
   exact⟨h.c2,λ_=>rfl,h.c5,h.c6,h.e0,h.e3,h.box,h.lz,h.mg,h.m0,h.m1,h.row,h.a2,λ_=>rfl,λx=>(by cases x),h.a5,h.a6⟩
  .have:b4=false/\b3=true:=by simpa using f
   obtain⟨rfl,rfl⟩:=this;refine uq j rfl rfl rfl (by decide) (wJ (y:=.string t) rfl rC (.inl rfl) (j.e.trans (h.m3 rfl)) (by simp[World.cell?,h.box])) λa' r=>next a' _ w r ⟨b0,b1,b2,true,true,b5,b6,rfl,?_⟩
   exact⟨h.c2,λ_=>rfl,λx=>⟨(h.c5 x).1,rfl⟩,h.c6,h.e0,h.e3,h.box,h.lz,h.mg,h.m0,h.m1,h.row,h.a2,h.m3,λ_=>rfl,h.a5,h.a6⟩
  .have:b5=false/\b2=true/\b4=true:=by simpa using f
   obtain⟨rfl,rfl,rfl⟩:=this;obtain⟨S,o,hL⟩:=h.a2 rfl rfl;refine Ri j rfl rfl rfl (by decide) rfl vq (by kernel_rfl) rfl (vs:=#[e 12,.string t]) (by simp[j.eval,h.m4 rfl]) ((Ex (t:=t) S (by simp;omega) (aX hb o.size)).mono λx w1 hh=>?_);obtain⟨v2,rfl,N,R,an⟩:=hh;refine⟨v2,rfl,λa' r=>next a' _ w1 r ⟨b0,b1,true,b3,true,true,b6,rfl,?_⟩⟩;have hg:(e 12).ownBlock≠some g:=λeg=>by
    rcases hL with e1|⟨g',e1,a0⟩
    .exact h.lz (e1.symm.trans eg)
    .rw[e1]at eg;cases eg;exact bx h.mg (Nat.not_lt.2 a0)
   refine⟨h.c2,h.c4,λ_=>⟨rfl,rfl⟩,λ_=>rfl,h.e0,h.e3,(R.block g (aO.1 h.box).1 hg).trans h.box,h.lz,h.mg,h.m0,λ_ x=>(by cases x),λx=>(by cases x),λ_ x=>(by cases x),h.m3,h.m4,λ_=>⟨?_,hL.kp R o,hL.trans an o.size⟩,λx=>bx (h.c6 x) (by decide)⟩;rw[bn]at N;exact N
  .have:b6=false/\b5=true/\b0=true/\b1=true/\b2=true/\b3=true/\b4=true:=by simpa using f
   obtain⟨rfl,rfl,rfl,rfl,rfl,rfl,rfl⟩:=this;refine uq j rfl rfl rfl (by decide) (fL (y:=e 15) (.inr rfl) j.e w) λa' r=>next a' _ w r ⟨true,true,true,true,true,true,true,rfl,?_⟩
   exact⟨h.c2,h.c4,h.c5,λ_=>rfl,h.e0,h.e3,h.box,h.lz,h.mg,h.m0,h.m1,h.row,h.a2,h.m3,h.m4,h.a5,λ_=>rfl⟩
 .rintro l e w a ⟨b0,b1,b2,b3,b4,b5,b6,rfl,h⟩ hm j;simp at hm;obtain⟨rfl,rfl,rfl,rfl,rfl,rfl,rfl⟩:=hm;have h6:=h.a6 rfl;obtain⟨x,y,z⟩:=h.a5 rfl;exact hP a e w j (by rw[h6];exact x) y (by rw[h6];exact z)
end
section
open Go.Conc Go.Lib
def Ou{base:Nat}{v:D}{bs:Aj}{t:Ac}{w:Z}(h:BA base w v bs)(hl:bs.length+2+t.size<=1000000000)(hb:base<=w.heap.size):Calls (cj prog) 288 #[v,.agg #[.string t,.bool d]] w λe w'=>∃v',e = .returned v'/\BA base w' v' (bs++ko (t,d))/\Kp (λb=>v.ownBlock=some b) w w'/\Loc w v v':=by
 refine calls_of_wp yB rfl ?_;simp only[fi,ntmps209];have s0:bY 16 ⟨#[v,Value.agg #[.string t,.bool d]]++Array.replicate (16+1-(#[v,Value.agg #[.string t,.bool d]]:Ak).size) undef,[]⟩ _:=bY.start (by simp);generalize (Act.mk (#[v,Value.agg #[.string t,.bool d]]++Array.replicate (16+1-(#[v,Value.agg #[.string t,.bool d]]:Ak).size) undef) []:Act)=a0 at s0 ⊢;refine bO (mD λw0 k0=>?_);have l:(oU f209)=oU f209:=rfl
 conv at l=>rhs;simp only[oU,f209,aC]
 simp only[f209,aC,gy,vL];rw[<- l];refine bO (dL s0 (ED (c:=#[.string t,.bool d]) rfl s0.e w0) λa1 w1 s1 k1=>?_);refine dL s1 (fL (y:=ae) (.inr rfl) rfl w1) λa2 Q s2 k2=>bQ ?_;have ka:An (w0.alloc (.cells #[.string t,.bool d] 138)) Q:=k1.t k2;have f:Q.heap[w0.heap.size]?=some (.cells #[.string t,.bool d] 138):=by have:=bI w0 (.cells #[.string t,.bool d] 138);exact(ka.block _ (aO.1 this).1 id).trans this
 have kk:An w Q:=k0.t ((Kp.al _ _ _).t ka);have hg:v.ownBlock≠some w0.heap.size:=λe=>by have:=(h.1.lt _ e).2;have:=k0.size;omega
 refine bO (bO ?_);refine dL s2 (OF (g:=w0.heap.size) rfl s2.e Q) λa3 w3 s3 k3=>?_;have a:=(k3.block _ (aO.1 f).1 id).trans f;refine dL s3 (wJ (y:=.bool d) rfl Oy (.inr (.inl rfl)) s3.e (by simp[World.cell?,a])) λa4 R C k4=>bQ ?_;have j:An w R:=kk.t (k3.t k4);have hA:BA base R v bs:=h.kept j;cases d with
 |true=>
  refine bM C.e (bO ?_);refine dL C (fL (y:=v) (.inl rfl) C.e R) λa5 w5 s5 k5=>?_;refine dL s5 (zV (y:=1) rfl rfl w5) λa6 w6 N k6=>?_;have M:An w w6:=j.t (k5.t ((Kp.al _ _ _).t k6));have r:BA base w6 v bs:=h.kept M;obtain⟨i,hi,hz,h1,h2⟩:=pU;obtain⟨v1,w7,hr,U,am,o⟩:=oc (P:=cj prog) lL hi hz h1 h2 48 r ⟨w5.heap.size,0,none⟩ 1 [1] (zw (x:=1) rfl k6) (by simp;omega) (aX hb M.size);refine xu N rfl rfl (by decide) rfl (v:=v) N.e r (by rw[N.eval (by decide),N.eval (by decide)];exact hr) λa7 w8 s7 k7=>?_;refine dL s7 (fL (y:=v1) (.inr rfl) s7.e w8) λa8 w9 s8 k8=>bQ ?_;refine wp_ret ⟨s8.d,v1,?_,v1,rfl,U.kept (k7.t k8),(M.mono λ_ _ e=>e.elim).trans (am.trans (k7.t k8) λ_ _ e=>e.elim) λ_ _ e=>e,?_⟩
  .rw[fo rfl];exact congrArg (λx=>Result.ok x w9) (s8.v 4 (by decide))
  .rcases o with e|e
   .exact .inl e
   .exact .inr ⟨_,e,M.size⟩
 |false=>
  refine bL C.e (bQ ?_);refine bO ?_;refine OA (base:=base) (v:=v) (bs:=bs) (t:=t) (g:=w0.heap.size) (w0:=R) hl (aX hb j.size) C ?_ λa' e' w' B S ad W=>?_
  .refine⟨λx=>(by cases x),λx=>(by cases x),λx=>(by cases x),λx=>(by cases x),rfl,rfl,(k4.block _ (aO.1 a).1 id).trans a,hg,?_,λx=>(by cases x),λx=>(by cases x),λ_=>⟨hA,Kp.refl _ _⟩,λx=>(by cases x),λx=>(by cases x),λx=>(by cases x),λx=>(by cases x),λx=>(by cases x)⟩;exact aR (aO.1 f).1 (k3.t k4).size
  .refine wp_ret ⟨B.d,e' 4,?_,e' 4,rfl,S,(j.mono λ_ _ e=>e.elim).trans ad λ_ _ e=>e,?_⟩
   .rw[fo rfl];exact congrArg (λx=>Result.ok x w') (B.v 4 (by decide))
   .rcases W with e|⟨g,e,Y⟩
    .exact .inl e
    .exact .inr ⟨g,e,aX j.size Y⟩
def qG (k:Ac)(m:Nat)(t:Ac)(d:Bool):Aj:=fF k++cP m++ko (t,d)
def Ol{base:Nat}{v:D}{bs:Aj}{k t:Ac}{m:Nat}{w:Z}(h:BA base w v bs)(hm:m<4294967296)(hl:bs.length+7+k.size+t.size<=1000000000)(hb:base<=w.heap.size):Calls (cj prog) 285 #[v,.agg #[.string k,Y m,.string t,.bool d]] w λe w'=>∃v',e = .returned v'/\BA base w' v' (bs++qG k m t d)/\Kp (λb=>v.ownBlock=some b) w w'/\Loc w v v':=by
 refine calls_of_wp yz rfl ?_;simp only[fi,ntmps186];have s0:bY 18 ⟨#[v,Value.agg #[.string k,Y m,.string t,.bool d]]++Array.replicate (18+1-(#[v,Value.agg #[.string k,Y m,.string t,.bool d]]:Ak).size) undef,[]⟩ _:=bY.start (by simp);generalize (Act.mk (#[v,Value.agg #[.string k,Y m,.string t,.bool d]]++Array.replicate (18+1-(#[v,Value.agg #[.string k,Y m,.string t,.bool d]]:Ak).size) undef) []:Act)=a0 at s0 ⊢;refine bO (mD λM k0=>?_);simp only[f186,aC,gy,vL];refine bO (dL s0 (ED (c:=#[.string k,Y m,.string t,.bool d]) rfl s0.e M) λa1 w1 s1 k1=>?_);refine dL s1 (fL (y:=ae) (.inr rfl) rfl w1) λa2 f s2 k2=>bQ ?_;have ka:An (M.alloc (.cells #[.string k,Y m,.string t,.bool d] 171)) f:=k1.t k2;have j:f.heap[M.heap.size]?=some (.cells #[.string k,Y m,.string t,.bool d] 171):=by have:=bI M (.cells #[.string k,Y m,.string t,.bool d] 171);exact(ka.block _ (aO.1 this).1 id).trans this
 have C:M.heap.size<f.heap.size:=(aO.1 j).1;have kk:An w f:=k0.t ((Kp.al _ _ _).t ka);have bb:∀{x:D} {w':Z},f.heap.size<=w'.heap.size->Loc f v x->x.ownBlock≠some M.heap.size:=by
  intro x w' _ hL e;rcases hL with e1|⟨g,e1,Q⟩
  .have:=(h.1.lt _ (e1.symm.trans e)).2;have:=k0.size;omega
  .rw[e1]at e;cases e;omega
 refine bO ?_;refine dL s2 (fL (y:=v) (.inl rfl) s2.e f) λa3 w3 s3 k3=>?_;refine dL s3 (OG (g:=M.heap.size) rfl s3.e w3) λa4 w4 s4 k4=>?_;have R:=((k3.t k4).block _ C id).trans j;refine dL s4 (wJ (y:=.string k) rfl rC (.inl rfl) s4.e (by simp[World.cell?,R])) λa5 w5 s5 k5=>?_;have W:An f w5:=k3.t (k4.t k5);have be:An w w5:=kk.t W;refine AU s5 rfl rfl rfl (by decide) rfl vq (by kernel_rfl) rfl (vs:=#[v,.string k]) (by simp[s5.eval];exact⟨rfl,rfl⟩) ((Ex (t:=k) (h.kept be) (by omega) (aX hb be.size)).mono λx w6 hh=>?_);obtain⟨v1,rfl,cb,ch,ce⟩:=hh;refine⟨v1,rfl,λa6 w7 s6 k6=>?_⟩;refine dL s6 (fL (y:=v1) (.inr rfl) s6.e w7) λa7 w8 s7 k7=>bQ ?_;have kv:∀{x:D} {wa wb:Z},Kp (λb=>x.ownBlock=some b) f wa->An wa wb->Kp (λb=>x.ownBlock=some b) f wb:=λh1 h2=>h1.trans h2 λ_ _ e=>e.elim
 have q1:Kp (λb=>v.ownBlock=some b) f w8:=kv ((W.mono λ_ _ e=>e.elim).trans ch λ_ _ e=>e) (k6.t k7);have L1:Loc f v v1:=by
  rcases ce with e|⟨g,e,Q⟩
  .exact .inl e
  .exact .inr ⟨g,e,aX W.size Q⟩
 have am:BA base w8 v1 (bs++fF k):=cb.kept (k6.t k7);have S:=(q1.block _ C (bb (x:=v) (w':=w8) q1.size (.inl rfl))).trans j;have B:(fF k).length=1+k.size:=by simp[fF];omega
 refine bO ?_;refine dL s7 (fL (y:=v1) (.inl rfl) s7.e w8) λa8 w9 s8 k8=>?_;refine dL s8 (OH (g:=M.heap.size) rfl s8.e w9) λa9 d1 s9 k9=>?_;have ba:M.heap.size<w8.heap.size:=aR C q1.size;have N:=((k8.t k9).block _ ba id).trans S;refine dL s9 (wJ (y:=Y m) rfl zS (.inr (.inr ⟨_,rfl⟩)) s9.e (by simp[World.cell?,N])) λcA cq bw cl=>?_;refine dL bw (rE rfl zS tQ (n:=m) bw.e cq) λcT cr ad cm=>?_;have hw:IntKind.u32.wrap (m:Int)=m:=by rw[IntKind.wrap_u32];omega
 rw[hw]at ad;have o:An w8 cr:=k8.t (k9.t (cl.t cm));refine AU ad rfl rfl rfl (by decide) rfl yA (by kernel_rfl) rfl (vs:=#[v1,.int .u32 m]) (by simp[ad.eval];exact⟨rfl,rfl⟩) ((On (n:=m) (am.kept o) (by simp[B];omega) (aX hb (aX kk.size (aX q1.size o.size)))).mono λx d2 hh=>?_);obtain⟨v2,rfl,cc,ci,cf⟩:=hh;refine⟨v2,rfl,λc3 cu bA bf=>?_⟩;refine dL bA (fL (y:=v2) (.inr rfl) bA.e cu) λc7 r bB bl=>bQ ?_;have q2:Kp (λb=>v.ownBlock=some b) f r:=kv (L1.kp ((o.mono λ_ _ e=>e.elim).trans ci λ_ _ e=>e) q1) (bf.t bl);have L2:Loc f v v2:=L1.trans cf (aX q1.size o.size);have an:BA base r v2 (bs++fF k++cP m):=cc.kept (bf.t bl);have P:=(q2.block _ C (bb (x:=v) (w':=r) q2.size (.inl rfl))).trans j;refine bO ?_;refine dL bB (fL (y:=v2) (.inl rfl) bB.e r) λdd cv bS bm=>?_;refine dL bS (OI (g:=M.heap.size) rfl bS.e cv) λde d3 b3 bp=>?_;have U:M.heap.size<r.heap.size:=aR C q2.size;have l:=((bm.t bp).block _ U id).trans P;refine dL b3 (OL (y:=.string t) (z:=.bool d) rfl b3.e (by simp[World.cell?,l]) (by simp[World.cell?,l])) λdk cw b5 co=>?_;have a:An r cw:=bm.t (bp.t co);refine AU b5 rfl rfl rfl (by decide) rfl yB (by kernel_rfl) rfl (vs:=#[v2,.agg #[.string t,.bool d]]) (by simp[b5.eval];exact⟨rfl,rfl⟩) ((Ou (t:=t) (d:=d) (an.kept a) (by simp[B,eG];omega) (aX hb (aX kk.size (aX q2.size a.size)))).mono λx d4 hh=>?_);obtain⟨v3,rfl,cd,ck,cg⟩:=hh;refine⟨v3,rfl,λdl cz b6 bq=>?_⟩;refine dL b6 (fL (y:=v3) (.inr rfl) b6.e cz) λds ca b7 bv=>bQ ?_;have q3:Kp (λb=>v.ownBlock=some b) f ca:=kv (L2.kp ((a.mono λ_ _ e=>e.elim).trans ck λ_ _ e=>e) q2) (bq.t bv);have L3:Loc f v v3:=L2.trans cg (aX q2.size a.size);refine wp_ret ⟨b7.d,v3,?_,v3,rfl,?_,(kk.mono λ_ _ e=>e.elim).trans q3 λ_ _ e=>e,?_⟩
 .rw[fo rfl];exact congrArg (λx=>Result.ok x ca) (b7.v 4 (by decide))
 .have:=cd.kept (bq.t bv);simpa [qG,bn]using this
 .rcases L3 with e|⟨g,e,Q⟩
  .exact .inl e
  .exact .inr ⟨g,e,aX kk.size Q⟩
end
section
open Go.Conc Go.Lib
structure jz (P:Ad):Prop where
 u3:P.underlying 3=some (.int .i64)
 u4:P.underlying 4=some .bool
 u9:P.underlying 9=some .string
 Sk:P.underlying 48=some (.slice 5)
 AL : P.underlying 138 = some (.struct #[{ name := "Value",type := 9,offset := 0,embedded := false,tag := "",pkgPath := "",byteOffset := 0 },{ name := "Deleted",type := 4,offset := 1,embedded := false,tag := "",pkgPath := "",byteOffset := 16 }])
 AM:P.underlying 159=some (.slice 171)
 xh : P.underlying 171 = some (.struct #[{ name := "Key",type := 9,offset := 0,embedded := false,tag := "",pkgPath := "",byteOffset := 0 },{ name := "Moment",type := 3,offset := 1,embedded := false,tag := "",pkgPath := "",byteOffset := 16 },{ name := "Version",type := 138,offset := 2,embedded := false,tag := "",pkgPath := "",byteOffset := 24 }])
 AN : P.underlying 232 = some (.struct #[{ name := "head",type := 48,offset := 0,embedded := false,tag := "",pkgPath := "palimpsest/dump",byteOffset := 0 },{ name := "rest",type := 159,offset := 1,embedded := false,tag := "",pkgPath := "palimpsest/dump",byteOffset := 24 },{ name := "sum",type := 230,offset := 2,embedded := false,tag := "",pkgPath := "palimpsest/dump",byteOffset := 48 }])
 Sf:∀w,(sizeOf 48).run P w = .ok 1 w
 z138:∀w,(sizeOf 138).run P w = .ok 2 w
 z159:∀w,(sizeOf 159).run P w = .ok 1 w
 z171:∀w,(sizeOf 171).run P w = .ok 4 w
 Se:∀w,(sizeOf 230).run P w = .ok 1 w
def AK:jz prog:=⟨underlying3,underlying4,underlying9,underlying48,underlying138,underlying159,underlying171,underlying232,sizeOf48,sizeOf138,sizeOf159,sizeOf171,sizeOf230⟩
def fW:jz (cj prog):=⟨qu underlying3,qu underlying4,qu underlying9,qu underlying48,qu underlying138,qu underlying159,qu underlying171,qu underlying232,ei sizeOf48,ei sizeOf138,ei sizeOf159,ei sizeOf171,ei sizeOf230⟩
section
variable {P:Ad}{ρ:Ae->D}{o:Oper}{x y:Ae}{w:Z}
def Ec(T:jz P){n c:Nat}(a:o.op = .call ⟨.builtin .len,#[x],#[159]⟩)(f:ρ x = .slice p n c):(execOp ρ o).run P w = .ok (.value (Y n)) w:=by simp[execOp,a,f,resolve,invoke,builtin,Builtin.len_,bK T.AM,goInt]
def Ed (T:jz P){s:Ac}(a:o.op = .call ⟨.builtin .len,#[x],#[9]⟩)(f:ρ x = .string s):(execOp ρ o).run P w = .ok (.value (Y s.size)) w:=by simp[execOp,a,f,resolve,invoke,builtin,Builtin.len_,bK T.u9,goInt]
def fT{t u:Af}{i:Int}(a:o.op = .binOp .lss t x y u)(f:ρ x = Y i)(g:ρ y = Y j):(execOp ρ o).run P w = .ok (.value (.bool (decide (i<j)))) w:=by simp[execOp,a,f,g,binOp,eqGuard,Op.intCmp]
def cL {v:D}(a:o.op = .move x)(f:ρ x=v):(execOp ρ o).run P w = .ok (.value v) w:=by simp[execOp,a,f]
def wF {t u:Af}{i:Nat}(a:o.op = .binOp .add t x y u)(f:ρ x = Y i)(g:ρ y = Y 1)(h:i<4611686018427387904):(execOp ρ o).run P w = .ok (.value (Y ((i+1:Nat):Int))) w:=by simp[execOp,a,f,g,binOp,eqGuard,Op.intArith];rw[IntKind.wrap_i64];omega
def NJ{t u:Af}{i:Int}(a:o.op = .binOp .mul t x y u)(f:ρ x = Y i)(g:ρ y = Y 1):∃z,(execOp ρ o).run P w = .ok (.value z) w:=by simp[execOp,a,f,g,binOp,eqGuard,Op.intArith]
def NL{t:Af}{b:Bool}(a:o.op = .unOp .not t x)(f:ρ x = .bool b):∃z,(execOp ρ o).run P w = .ok (.value z) w:=by simp[execOp,a,f,Op.unary]
def Eb (T:jz P){g off n c i:Nat}(a:o.op = .indexAddr 159 x y)(h:ρ x = .slice (some ⟨g,off,none⟩) n c)(j:ρ y = Y i)(f:i<n):(execOp ρ o).run P w = .ok (.value (.pointer (some ⟨g,off+4*i,none⟩))) w:=by simp[execOp,a,h,j,Instr.indexAt,bK T.AM,T.z171,asIntOf,f,addr_add,Nat.mul_comm]
def tJ (T:jz P){g k:Nat}{a b c d:D}(h:o.op = .load 171 x)(B:ρ x = .pointer (some ⟨g,k,none⟩))(h0:w.cell? ⟨g,k,none⟩=some a)(h1:w.cell? ⟨g,k+1,none⟩=some b)(r:w.cell? ⟨g,k+2,none⟩=some c)(y:w.cell? ⟨g,k+3,none⟩=some d):(execOp ρ o).run P w = .ok (.value (.agg #[a,b,c,d])) w:=by
 have l:=run_loadCells_list (P:=P) (w:=w) ⟨g,k,none⟩ [a,b,c,d] (λj v f=>by
  rw[addr_add]
  match j,f with
  |0,f=>cases f;exact h0
  |1,f=>cases f;exact h1
  |2,f=>cases f;exact r
  |3,f=>cases f;exact y
  |j+4,f=>simp at f)
 rw[show [a,b,c,d].length=4 from rfl]at l;simp[execOp,h,B,Instr.loadAt,Instr.sureAddr,loadVar,isAgg,bK T.xh,T.z171,l]
def Nx (T:jz P){a b c d:D}(f:o.op = .field 171 x 0)(g:ρ x = .agg #[a,b,c,d]):(execOp ρ o).run P w = .ok (.value a) w:=by simp[execOp,f,g,Instr.field,bK T.xh,part,asAgg,isAgg,bK T.u9]
def Ny (T:jz P){a b c d:D}(f:o.op = .field 171 x 1)(g:ρ x = .agg #[a,b,c,d]):(execOp ρ o).run P w = .ok (.value b) w:=by simp[execOp,f,g,Instr.field,bK T.xh,part,asAgg,isAgg,bK T.u3]
def Nz (T:jz P){a b c d:D}(f:o.op = .field 171 x 2)(g:ρ x = .agg #[a,b,c,d]):(execOp ρ o).run P w = .ok (.value (.agg #[c,d])) w:=by simp[execOp,f,g,Instr.field,bK T.xh,part,asAgg,isAgg,bK T.AL,T.z138]
def NB (T:jz P){c d:D}(a:o.op = .field 138 x 0)(f:ρ x = .agg #[c,d]):(execOp ρ o).run P w = .ok (.value c) w:=by simp[execOp,a,f,Instr.field,bK T.AL,part,asAgg,isAgg,bK T.u9]
def NC (T:jz P){c d:D}(a:o.op = .field 138 x 1)(f:ρ x = .agg #[c,d]):(execOp ρ o).run P w = .ok (.value d) w:=by simp[execOp,a,f,Instr.field,bK T.AL,part,asAgg,isAgg,bK T.u4]
end
structure cO where
 key:Ac
 bU:Nat
 val:Ac
 del:Bool
def cO.bytes (x:cO):Aj:=qG x.key x.bU x.val x.del
def dp (l:List cO):Aj:=l.flatMap cO.bytes
def cO.cell (x:cO):Nat->D
 |0=>.string x.key
 |1=>.int .i64 x.bU
 |2=>.string x.val
 |_=>.bool x.del
def fP (w:Z)(en:D)(es:List cO)(g:Nat):Prop:=∃p cap,en = .slice p es.length cap/\(es≠[]->∃o,p=some ⟨g,o,none⟩/\∀j x,es[j]?=some x->∀i,i<4->w.cell? ⟨g,o+4*j+i,none⟩=some (x.cell i))
def fP.kp {S:Nat->Prop}{w w':Z}{en:D}{es:List cO}{g:Nat}(h:fP w en es g)(N:Kp S w w')(P:¬S g):fP w' en es g:=by obtain⟨p,cap,B,C⟩:=h;refine⟨p,cap,B,λf=>?_⟩;obtain⟨o,M,l⟩:=C f;exact⟨o,M,λj x y i r=>(N.cell (a:=⟨g,o+4*j+i,none⟩) (bH w _ (l j x y i r)) P).trans (l j x y i r)⟩
def Kp.tt {S S':Nat->Prop}{w w1 a:Z}(h:Kp S w w1)(f:Kp S' w1 a)(g:∀k,k<w.heap.size->S' k->S k:=by intro b hb e;first|exact e.elim|omega):Kp S w a:=h.trans f g
def sR{P:Ad}{ops:Am}{Q:Exit->Act->Z->Prop}{a:Act}{w:Z}{id:Nat}{y:Code}(h:wpList P ops (Exit.then (y.wp P Q) Q) ops.toList a w):(Code.seq (.region id ops false) y).wp P Q a w:=bO (bF h)
def nR{P:Ad}{ops f:Am}{Q g:Exit->Act->Z->Prop}{a:Act}{w:Z}{id:Nat}{y:Code}(h:wpList P f (Exit.then (y.wp P Q) Q) f.toList a w):wpList P ops (Exit.then ((Code.seq (.region id f false) y).wp P Q) g) [] a w:=bG (bO (bF h))
def fQ (w:Z)(cs:Ak)(t:Af):∃w1,w.alloc (.cells (Value.agg cs).cells t)=w1/\w1.heap[w.heap.size]?=some (.cells cs t (0,0))/\An w w1:=⟨_,rfl,bI _ _,Kp.al _ _ _⟩
section
variable {P:Ad}{Post:Exit->Act->Z->Prop}{ops:Am}{a:Act}{w:Z}{o:Oper}{r:List Oper}{N:Nat}{e:Nat->D}
def du {d:Nat}{y:D}{w1:Z}(h:bY N a e)(j:o.guard=none)(f:o.dst=some d)(g:d<N)(l:(execOp a.eval o).run P w = .ok (.value y) w1)
  (next:∀a',bY N a' (upd e d y)->wpList P ops Post r a' w1):wpList P ops Post (o::r) a w:=
 iI j l (next _ (by rw[f];exact h.put g y))
def wS {d:Nat}{y:D}{w1:Z}(h:bY N a e)(l:(execOp a.eval o).run P w = .ok (.value y) w1)
  (next:∀{a'},bY N a' (upd e d y)->wpList P ops Post r a' w1) (j:o.guard=none:=by rfl) (f:o.dst=some d:=by rfl) (g:d<N:=by decide):wpList P ops Post (o::r) a w:=du h j f g l λ_ s=>next s
def Ge {d:Nat}(h:bY N a e)(l:o.guard=none)(f:o.dst=some d)(j:d<N)(g:∃y,(execOp a.eval o).run P w = .ok (.value y) w)
  (next:∀a' y,bY N a' (upd e d y)->wpList P ops Post r a' w):wpList P ops Post (o::r) a w:=by
 obtain⟨y,g⟩:=g;exact du h l f j g λa' s=>next a' y s
end
structure mH (toV en:D)(cn:Int)(n i:Nat)(e:Nat->D):Prop where
 e0:e 0=toV
 e1:e 1=en
 e2:e 2 = Y cn
 e3:e 3 = Y n
 e4:e 4 = Y i
def ov (a:Act)(_:Z):Nat:=match(a.tmps[3]?:Option D),(a.tmps[4]?:Option D)with
 |some (.int _ n),some (.int _ i)=>(n-i).toNat
 |_,_=>0
def vx{N:Nat}{a:Act}{e:Nat->D}{toV en:D}{cn:Int}{n i:Nat}(j:bY N a e)(o:5<=N)(h:mH toV en cn n i e)(w:Z):ov a w=n-i:=by
 have f:=j.v 3 (by omega);have g:=j.v 4 (by omega);rw[h.e3]at f;rw[h.e4]at g;have l:=j.s;have g3:a.tmps[3]?=some (Y n):=by rw[aU,aP (by omega)]at f;rw[aP (by omega)];exact congrArg some f
 have g4:a.tmps[4]?=some (Y i):=by rw[aU,aP (by omega)]at g;rw[aP (by omega)];exact congrArg some g
 unfold ov;rw[g3,g4];show((n:Int)-i).toNat=n-i;omega
def Kg{toV en:D}{cn:Int}{es:List cO}{g:Nat}{w:Z}{a:Act}{e:Nat->D}{Post:Exit->Act->Z->Prop}(hR:fP w en es g)(hn:es.length<1099511627776)(hs:bY 12 a e)(hf:mH toV en cn es.length 0 e)
  (next:∀a' r i,bY 12 a' r->mH toV en cn es.length i r->Post .normal a' w):(Code.block 0 (.loop fC)).wp (cj prog) Post a w:=by
 refine wp_block (wp_loop (λa' w'=>w'=w/\∃r i,i<=es.length/\bY 12 a' r/\mH toV en cn es.length i r) ov ⟨rfl,e,0,aZ _,hs,hf⟩ ?_);rintro a1 S ⟨rfl,e1,i,hi,W,f1⟩;have Y:=vx W (by decide) f1 S;refine bO (bF (du W rfl rfl (by decide) (fT rfl (W.e.trans f1.e4) (W.e.trans f1.e3)) λa2 y=>bG ?_))
 by_cases l:i<es.length
 .rw[show decide ((i:Int)<(es.length:Int))=true by simpa using l]at y;refine bO (bM y.e (bQ ?_));obtain⟨p,cap,rfl,h2⟩:=hR;obtain⟨M,rfl,U⟩:=h2 (by intro h;rw[h]at l;simp at l);have C:=aQ l;generalize es[i]=x at C;refine bF ?_;refine wS y (Eb fW (i:=i) rfl (y.e.trans f1.e1) (y.e.trans f1.e4) l) λs3=>?_;refine wS s3 (tJ fW rfl s3.e (U i x C 0 (by decide)) (U i x C 1 (by decide)) (U i x C 2 (by decide)) (U i x C 3 (by decide))) λs4=>?_;refine wS s4 (Nx fW rfl s4.e) λs5=>?_;refine wS s5 (Ed fW (s:=x.key) rfl s5.e) λs6=>?_;refine wS s6 (Ny fW rfl s6.e) λs7=>?_;refine Ge s7 rfl rfl (by decide) (NJ (i:=x.bU) rfl s7.e rfl) λa8 y8 s8=>?_;refine wS s8 (Nz fW rfl s8.e) λs9=>?_;refine wS s9 (NB fW rfl s9.e) λN=>?_;refine wS N (Ed fW (s:=x.val) rfl N.e) λP=>?_;refine wS P (NC fW rfl P.e) λQ=>?_;refine Ge Q rfl rfl (by decide) (NL (b:=x.del) rfl Q.e) λam an R=>?_;refine du R rfl rfl (by decide) (wF (i:=i) rfl (R.e.trans f1.e4) rfl (by omega)) λB ad=>bG ?_;have key:∀o,bY 12 B o->mH toV (.slice (some ⟨g,M,none⟩) es.length cap) cn es.length (i+1) o->(S=S/\∃r j,j<=es.length/\bY 12 B r/\mH toV (.slice (some ⟨g,M,none⟩) es.length cap) cn es.length j r)/\ov B S<ov a1 S:=λo s f=>⟨⟨rfl,o,i+1,l,s,f⟩,by rw[Y,vx s (by decide) f];omega⟩
  exact key _ ad ⟨f1.e0,f1.e1,f1.e2,f1.e3,rfl⟩
 .rw[show decide ((i:Int)<(es.length:Int))=false by simpa using l]at y;refine bO (bL y.e (wp_exit ?_));exact next a2 _ i y ⟨f1.e0,f1.e1,f1.e2,f1.e3,f1.e4⟩
end
section
open Go.Conc Go.Lib
def cO.w (x:cO):Nat:=7+x.key.size+x.val.size
def j4 (l:List cO):Nat:=(l.map cO.w).sum
def cO.tp (x:cO):x.bytes.length<=x.w:=by simp only[cO.bytes,qG,cO.w,aj,eG,fF,ko,ai,Array.length_toList];split<;>simp<;>(have:x.key.data.size=x.key.size:=rfl;have:x.val.data.size=x.val.size:=rfl;omega)
def vo (l:List cO):(dp l).length<=j4 l:=by
 induction l with
 |nil=>simp[dp,j4]
 |cons x l a=>have:=x.tp;simp only[dp,j4,List.flatMap_cons,aj,List.map_cons,List.sum_cons]at a ⊢;omega
def J1 (l:List cO):∀(i:Nat) {x:cO},l[i]?=some x->j4 (l.take i)+x.w<=j4 l:=by
 induction l with
 |nil=>intro i x h;cases h
 |cons y l a=>
  intro i x h;cases i with
  |zero=>cases h;simp[j4]
  |succ i=>have:=a i h;simp only[j4,List.take_succ_cons,List.map_cons,List.sum_cons]at this ⊢;omega
def J0{l:List cO}{x:cO}(h:l[i]?=some x):dp (l.take (i+1))=dp (l.take i)++x.bytes:=by rw[List.take_add_one,h];simp[dp]
def bY.last{N:Nat}{a:Act}{e:Nat->D}(h:bY N a e)(y:D):(a.put (some N) y).eval (.tmp N)=y:=by show Array.getD _ N undef=_;simp[Act.put,aU,h.s]
def xo{P : Ad}{Post : Exit -> Act -> Z -> Prop}{ops : Am}{a : Act}{w : Z}{o : Oper}{r : List Oper}{f : Ag}{args : Array Ae}{ats : Array Af}{vs : Ak}(D : o.guard = none)(j : o.op = .call { callee := .value (.func f),args,argTypes := ats })(C : P.funcs[f]? = some fn)(g : (fn.name == "runtime.NumGoroutine") = false)(hb : fn.body.isNone = false)(l : args.map a.eval = vs)
  (B:Calls P f vs w λe w'=>∃x,e = .returned x/\wpList P ops Post r (a.put o.dst x) w'):wpList P ops Post (o::r) a w:=by
 refine wpList_plain D λK y=>?_;unfold Oper.wp;rw[run_call_body j C g hb,Oper.upon_enter,l];refine B.mono λe w' M=>?_;obtain⟨x,rfl,h⟩:=M;exact y _ _ h
structure AZ (base:Nat)(toV en:D)(bs:Aj)(cn:Int)(es:List cO)(g:Nat)(w0:Z)(i:Nat)(v:D)(e:Nat->D)(w:Z):Prop where
 fI:mH v en cn es.length i e
 le:i<=es.length
 lm:i<=cn.toNat
 row:BA base w v (bs++dp (es.take i))
 kp:Kp (λb=>toV.ownBlock=some b) w0 w
 loc:Loc w0 toV v
 ef:fP w en es g
def Om{base:Nat}{toV en:D}{bs:Aj}{cn:Int}{es:List cO}{g:Nat}{w:Z}(h:BA base w toV bs)(hR:fP w en es g)(hg:toV.ownBlock≠some g)(be:g<w.heap.size)(hn:es.length<1099511627776)(hm:∀x∈es,x.bU<4294967296)(hl:bs.length+j4 es<=1000000000)(hb:base<=w.heap.size)(bB:cn<9223372036854775808) :
  Calls (cj prog) 138 #[toV,en,Y cn] w λe w'=>∃v',e = .returned (.tuple #[v',Y (min es.length cn.toNat:Nat)])/\BA base w' v' (bs++dp (es.take (min es.length cn.toNat)))/\Kp (λb=>toV.ownBlock=some b) w w'/\Loc w toV v':=by
 refine calls_of_wp f138 rfl ?_;have s0:bY 12 ⟨#[toV,en,Y cn]++Array.replicate (pT.ntmps-(#[toV,en,Y cn]:Ak).size) undef,[]⟩ _:=bY.start (by simp[pT]);generalize (Act.mk (#[toV,en,Y cn]++Array.replicate (pT.ntmps-(#[toV,en,Y cn]:Ak).size) undef) []:Act)=a0 at s0 ⊢;obtain⟨p,cap,ba,_⟩:=id hR;refine sR ?_;refine wS s0 (Ec fW (n:=es.length) rfl (s0.e.trans ba)) λs1=>?_;refine wS s1 (fT (i:=cn) (j:=0) rfl s1.e rfl) λs2=>?_;refine wS s2 (cL (v:=Y 0) rfl rfl) λs3=>?_;refine wS s3 (fT (i:=es.length) (j:=1099511627776) rfl s3.e rfl) λs4=>bG ?_;rw[show decide ((es.length:Int)<1099511627776)=true by simp;omega]at s4;refine bO (bM s4.e (bQ ?_));refine bO (Kg (toV:=toV) (cn:=cn) hR hn s4 ⟨rfl,rfl,rfl,rfl,rfl⟩ λa5 e5 i5 s5 f5=>?_);refine bO (mD λw1 k1=>?_);refine bO (bF (du s5 rfl rfl (by decide) (cL (v:=Y 0) rfl rfl) λa6 s6=>bG ?_));refine bO (wp_block (wp_loop (λP w'=>∃i v a,bY 12 P a/\AZ base toV en bs cn es g w i v a w') ov ⟨0,toV,_,s6,?_⟩ ?_))
 .exact⟨⟨f5.e0,f5.e1,f5.e2,f5.e3,rfl⟩,aZ _,aZ _,by simpa [dp]using h.kept k1,k1.mono λ_ _ e=>e.elim,.inl rfl,hR.kp k1 id⟩
 rintro a7 w7 ⟨i,v,e7,s7,I⟩;have fin:∀P a,bY 12 P a->mH v en cn es.length i a->(es.length<=i\/cn<=i)->(Code.ret).wp (cj prog) (bodyPost (cj prog) pT λe w'=>∃v',e = .returned (.tuple #[v',Y (min es.length cn.toNat:Nat)])/\BA base w' v' (bs++dp (es.take (min es.length cn.toNat)))/\Kp (λb=>toV.ownBlock=some b) w w'/\Loc w toV v') P w7:=by
  intro P a s f hd;have hi:min es.length cn.toNat=i:=by have:=I.le;have:=I.lm;omega
  refine wp_ret ⟨s.d,.tuple #[v,Y i],?_,v,by rw[hi],by rw[hi];exact I.row,I.kp,I.loc⟩;rw[results_tmp2 (t:=0) (u:=4) rfl];have e0:=s.v 0 (by decide);have e4:=s.v 4 (by decide);rw[f.e0]at e0;rw[f.e4]at e4;simp only[e0,e4]
 have bl:=vx s7 (by decide) I.fI w7;refine bO (bF (du s7 rfl rfl (by decide) (fT rfl (s7.e.trans I.fI.e4) (s7.e.trans I.fI.e2)) λa8 o=>bG ?_))
 by_cases h1:(i:Int)<cn
 .rw[show decide ((i:Int)<cn)=true by simpa using h1]at o;refine bO (bM o.e (bQ ?_));refine bO (bF (du o rfl rfl (by decide) (fT rfl (o.e.trans I.fI.e4) (o.e.trans I.fI.e3)) λa9 r=>bG ?_))
  by_cases B:i<es.length
  .rw[show decide ((i:Int)<(es.length:Int))=true by simpa using B]at r;refine bO (bM r.e (bQ ?_));obtain⟨p',Q,R,a4⟩:=id I.ef;obtain⟨bq,rfl,hc⟩:=a4 (by intro h;rw[h]at B;simp at B);have l:=aQ B;generalize bS:es[i]=x at l;have bm:x∈es:=aI l;have hW:=J1 es i l;have hB:=vo (es.take i);have bp:a9.eval (.tmp 1) = .slice (some ⟨g,bq,none⟩) es.length Q:=r.e.trans (I.fI.e1.trans R);refine sR ?_;refine wS r (Eb fW (i:=i) rfl bp (r.e.trans I.fI.e4) B) λU=>?_;refine du U rfl rfl (by decide) (tJ fW rfl U.e (hc i x l 0 (by decide)) (hc i x l 1 (by decide)) (hc i x l 2 (by decide)) (hc i x l 3 (by decide))) λam M=>?_;refine xo rfl rfl yz (by kernel_rfl) rfl (vs:=#[v,.agg #[.string x.key,Y x.bU,.string x.val,.bool x.del]]) (by simp[M.eval];exact⟨I.fI.e0,rfl⟩) ((Ol (k:=x.key) (m:=x.bU) (t:=x.val) (d:=x.del) I.row (hm x bm) (by simp only[aj];unfold cO.w at hW;omega) (aX hb I.kp.size)).mono λz b3 hh=>?_);obtain⟨N,rfl,a1,S,a3⟩:=hh;refine⟨N,rfl,bG ?_⟩;have bv:bY 12 (am.put (some 12) N) _:=M.bit N;have an:=M.last N;refine bO (bF (du bv rfl rfl (by decide) (cL (v:=N) rfl an) λbA W=>?_));refine du W rfl rfl (by decide) (wF (i:=i) rfl (W.e.trans I.fI.e4) rfl (by omega)) λy bw=>bG ?_;refine mD λad C=>?_;have bf:v.ownBlock≠some g:=λeg=>by
    rcases I.loc with e1|⟨g',e1,bb⟩
    .exact hg (e1.symm.trans eg)
    .rw[e1]at eg;cases eg;exact bx be (Nat.not_lt.2 bb)
   have key:∀a,bY 12 y a->mH N en cn es.length (i+1) a->(∃i v a,bY 12 y a/\AZ base toV en bs cn es g w i v a ad)/\ov y ad<ov a7 w7:=λa s f=>⟨⟨i+1,N,a,s,f,B,by omega,by rw[J0 l,<- bn];exact a1.kept C,I.loc.kp (S.trans C λ_ _ e=>e.elim) I.kp,I.loc.trans a3 I.kp.size,(I.ef.kp S bf).kp C id⟩,by rw[bl,vx s (by decide) f];omega⟩
   exact key _ bw ⟨rfl,I.fI.e1,I.fI.e2,I.fI.e3,rfl⟩
  .rw[show decide ((i:Int)<(es.length:Int))=false by simpa using B]at r;refine bO (bL r.e (wp_exit ?_));exact fin a9 _ r ⟨I.fI.e0,I.fI.e1,I.fI.e2,I.fI.e3,I.fI.e4⟩ (.inl (by omega))
 .rw[show decide ((i:Int)<cn)=false by simpa using h1]at o;refine bO (bL o.e (wp_exit ?_));exact fin a8 _ o ⟨I.fI.e0,I.fI.e1,I.fI.e2,I.fI.e3,I.fI.e4⟩ (.inr (by omega))
end
section
open Go.Conc Go.Lib
section
variable {P Q:Ad}
end
section
variable {P:Ad}
end
@[go_sem] def Oi (w:Z):(isAgg 48).run (cj prog) w = .ok false w:=pI (F:=dH prog) isAgg48 w
@[go_sem] def zL (w:Z):(isAgg 159).run (cj prog) w = .ok false w:=pI (F:=dH prog) isAgg159 w
@[go_sem] def Ew (w:Z):(isAgg 230).run (cj prog) w = .ok false w:=pI (F:=dH prog) isAgg230 w
def qf{f:Ag}(a:xB f=false)(h:prog.funcs[f]?=some fn):(cj prog).funcs[f]?=some fn:=(jN f (nx f a)).trans h
end
section
open Go.Conc Go.Lib
section
variable {P:Ad}{ρ:Ae->D}{o:Oper}{x y:Ae}{w:Z}
def di {v:D}(a:o.op = .assign x)(f:ρ x=v):(execOp ρ o).run P w = .ok (.value v) w:=by simp[execOp,a,f]
def fc{p:Addr}(a:o.op = .nilCheck x)(f:ρ x = .pointer (some p)):(execOp ρ o).run P w = .ok (.value (.pointer (some p))) w:=by simp[execOp,a,f]
def zD {c:Ak}{i:Nat}{v:D}(a:o.op = .extract x i)(g:ρ x = .tuple c)(f:c[i]?=some v):(execOp ρ o).run P w = .ok (.value v) w:=by simp[execOp,a,g,Instr.extract,f]
def cU{t:Af}{p:Addr}{v:D}(a:o.op = .load t x)(ht:∀w,(isAgg t).run P w = .ok false w)(g:ρ x = .pointer (some p))(f:w.cell? p=some v):(execOp ρ o).run P w = .ok (.value v) w:=by simp[execOp,a,g,Instr.loadAt,Instr.sureAddr,loadVar,ht,load,Sem.run,f]
def iG{t:Af}{p:Addr}{v u:D}(a:o.op = .store t x y)(ht:∀w,(sizeOf t).run P w = .ok 1 w)(j:ρ x = .pointer (some p))(l:ρ y=v)(g:w.cell? p=some u)(r:w.frozen? p=false)(hv:v.cells=#[v])(h1:∀c,v≠.agg c)(f:∀c,v≠.tuple c):(execOp ρ o).run P w = .ok .skip (w.setCell p v):=by
 have h:(store p v).run P w = .ok () (w.setCell p v):=by cases v<;>first|exact bx rfl (h1 _)|exact bx rfl (f _)|simp[store,Sem.run,g,r]
 simp[execOp,a,j,l,Instr.storeAt,Instr.sureAddr,storeVar,ht,hv,storeCells,Addr.add,h]
def oK{t u:Af}{i:Int}(a:o.op = .binOp .gtr t x y u)(f:ρ x = Y i)(g:ρ y = Y j):(execOp ρ o).run P w = .ok (.value (.bool (decide (i > j)))) w:=by simp[execOp,a,f,g,binOp,eqGuard,Op.intCmp]
def Nu(T:jz P){z:Ae}{n c i:Nat}(a:o.op = .slice 159 x (some z) none none)(g:ρ x = .slice p n c)(h:ρ z = Y i)(f:i<=n):∃j,(execOp ρ o).run P w = .ok (.value (.slice j (n-i) (c-i))) w:=by refine⟨if c=i then p else p.map (·.add (i*4)),?_⟩;simp[execOp,a,g,h,bK T.AM,Instr.sliceAt,Instr.slice,Instr.sliceBounds,Instr.sliceBound,asIntOf,T.z171,f]
end
section
variable {P:Ad}{Post:Exit->Act->Z->Prop}{ops:Am}{a:Act}{w w1:Z}{o:Oper}{r:List Oper}{N:Nat}{e:Nat->D}
def jL (h:o.guard=none)(f:o.dst=none)(j:(execOp a.eval o).run P w = .ok .skip w1)(next:wpList P ops Post r a w1):wpList P ops Post (o::r) a w:=by refine wpList_plain h λK g=>?_;unfold Oper.wp;rw[j,Oper.upon_skip,f];exact g _ _ next
def Gf{d : Nat}{f : Ag}{args : Array Ae}{ats : Array Af}{vs : Ak}(h : bY N a e)(Q : o.guard = none)(j : o.dst = some d)(D : d < N)(l : o.op = .call { callee := .value (.func f),args,argTypes := ats })(M : P.funcs[f]? = some fn)(g : (fn.name == "runtime.NumGoroutine") = false)(hb : fn.body.isNone = false)(B : args.map a.eval = vs)
  (C:Calls P f vs w λx w'=>∃y,x = .returned y/\∀a',bY N a' (upd e d y)->wpList P ops Post r a' w'):wpList P ops Post (o::r) a w:=
 xo Q l M g hb B (C.mono λx w' R=>by obtain⟨y,rfl,S⟩:=R;exact⟨y,rfl,S _ (by rw[j];exact h.put D y)⟩)
def wC{d:Nat}{f:Ag}{args:Array Ae}{ats:Array Af}{vs:Ak}(h:bY N a e)(l:o.op = .call { callee:=.value (.func f),args,argTypes:=ats })(M:P.funcs[f]?=some fn)(B:args.map a.eval=vs)
  (C : Calls P f vs w fun x w' => ∃ y,x = .returned y /\ ∀ a',bY N a' (upd e d y) -> wpList P ops Post r a' w') (Q : o.guard = none := by rfl) (j : o.dst = some d := by rfl) (D : d < N := by decide) (g : (fn.name == "runtime.NumGoroutine") = false := by kernel_rfl) (hb : fn.body.isNone = false := by kernel_rfl) : wpList P ops Post (o :: r) a w := Gf h Q j D l M g hb B C
end
def cK {w:Z}{p i:Nat}{c:Ak}{t:Af}{a:Nat × Nat}{v:D}(h:w.heap[p]?=some (.cells c t a))(f:c[i]?=some v):w.cell? ⟨p,i,none⟩=some v:=by simp[World.cell?,h,f]
def jH {w:Z}{p i:Nat}{c:Ak}{t:Af}(h:w.heap[p]?=some (.cells c t (0,0))):w.frozen? ⟨p,i,none⟩=false:=by simp[World.frozen?,h]
def kg {w:Z}{p i:Nat}{c:Ak}{t:Af}{a:Nat × Nat}(v:D)(h:w.heap[p]?=some (.cells c t a)):(w.setCell ⟨p,i,none⟩ v).heap[p]?=some (.cells (c.setIfInBounds i v) t a):=by simp[World.setCell,aV,h]
end
section
open Go.Conc Go.Lib
section
variable {P:Ad}{ρ:Ae->D}{o:Oper}{x:Ae}{w:Z}{g:Nat}
def Ei (T:jz P)(a:o.op = .fieldAddr 232 x 0)(f:ρ x = ab g):(execOp ρ o).run P w = .ok (.value (ab g)) w:=by simp[execOp,a,f,Instr.fieldAt,bK T.AN,Instr.sureAddr,fieldPlace,T.Sf,Addr.add]
def wH (T:jz P)(a:o.op = .fieldAddr 232 x 1)(f:ρ x = ab g):(execOp ρ o).run P w = .ok (.value (.pointer (some ⟨g,1,none⟩))) w:=by simp[execOp,a,f,Instr.fieldAt,bK T.AN,Instr.sureAddr,fieldPlace,T.z159,Addr.add]
def zH (T:jz P)(a:o.op = .fieldAddr 232 x 2)(f:ρ x = ab g):(execOp ρ o).run P w = .ok (.value (.pointer (some ⟨g,2,none⟩))) w:=by simp[execOp,a,f,Instr.fieldAt,bK T.AN,Instr.sureAddr,fieldPlace,T.Se,Addr.add]
end
def P0 (i:Nat):js 138 i=0:=by rfl
def P1 (i:Nat):js 139 i=0:=by rfl
def P2 (i:Nat):js 140 i=0:=by rfl
def Oq{base p g:Nat}{a en:D}{hb:Aj}{cn:Int}{es:List cO}{w:Z}(ht:ej w)(hT:db w)(hp:w.heap[p]?=some (.cells #[a,en,.int .u32 0] 232))(hA:BA base w a hb)(hR:fP w en es g)(an:a.ownBlock≠some p)(ek:p≠g)(hg:a.ownBlock≠some g)(eg:g<w.heap.size)
  (eu:2<=p) (bf:∀b,a.ownBlock=some b->2<=b) (hn:es.length<1099511627776) (hm:∀x∈es,x.bU<4294967296) (hl:hb.length+j4 es<=100000000) (bb:base<=w.heap.size) (eh:cn<9223372036854775808) (ba:es.length<=cn.toNat) :
  Calls (cj prog) 85 #[ab p,Y cn] w λe w'=>∃v',e = .returned (.tuple #[v',.bool true])/\BR base w' v' (cQ (hb++dp es))/\Kp (λb=>b=p\/a.ownBlock=some b) w w'/\ej w':=by
 refine cW (qf (f:=85) rfl func85) rfl ntmps85 λa0 s0=>?_;have bm:p<w.heap.size:=(aO.1 hp).1;refine sR ?_;refine wS s0 (di (v:=ae) rfl rfl) λs1=>?_;refine wS s1 (di (v:=.bool false) rfl rfl) λs2=>bG ?_;refine sR ?_;refine wS s2 (cL rfl s2.e) λs3=>?_;refine wS s3 (cL rfl s3.e) λs4=>?_;refine wS s4 (fc (p:=⟨p,0,none⟩) rfl s4.e) λs5=>?_;refine wS s5 (Ei fW (g:=p) rfl s5.e) λs6=>?_;refine wS s6 (cU (v:=a) rfl Oi s6.e (cK hp rfl)) λs7=>?_;refine wS s7 (di (v:=a) rfl s7.e) λs8=>?_;refine wS s8 (fc (p:=⟨p,0,none⟩) rfl s8.e) λs9=>?_;refine wS s9 (Ei fW (g:=p) rfl s9.e) λa1=>?_;refine jL rfl rfl (iG (p:=⟨p,0,none⟩) (v:=ae) rfl (ei sizeOf48) a1.e rfl (cK hp rfl) (jH hp) rfl (λ_ h=>(by cases h)) (λ_ h=>(by cases h))) (bG ?_);have P:=kg (i:=0) (ae) hp;have S:Kp (λb=>b=p) w (w.setCell ⟨p,0,none⟩ (ae)):=Kp.sc w _ _ rfl;have t1:ej (w.setCell ⟨p,0,none⟩ (ae)):=ht.setCell _ _;generalize w.setCell ⟨p,0,none⟩ (ae)=w1 at P S t1 ⊢;rw[show(#[a,en,Value.int .u32 0]:Ak).setIfInBounds 0 (ae)=#[ae,en,.int .u32 0]from rfl]at P;have d3:BA base w1 a hb:=hA.kp S λb C e=>an (by rw[C,e])
 have d7:fP w1 en es g:=hR.kp S λe=>ek e.symm
 refine sR ?_;refine wS a1 (cL (v:=a) rfl a1.e) λbv=>?_;refine wS bv (cL rfl bv.e) λbw=>?_;refine wS bw (fc (p:=⟨p,0,none⟩) rfl bw.e) λbA=>?_;refine wS bA (wH fW (g:=p) rfl bA.e) λbB=>?_;refine wS bB (cU (v:=en) rfl zL bB.e (cK P rfl)) λbS=>?_;refine wS bS (cL (v:=Y cn) rfl bS.e) λb3=>?_;have be:=LM (f:=138) (by decide) P0 t1 ((Om d3 d7 hg (aR eg S.size) hn hm (by omega) (aX bb S.size) eh).mono (R':=λe w'=>∃x,e = .returned x/\∃v',x = .tuple #[v',Y es.length]/\BA base w' v' (hb++dp es)/\Kp (λb=>a.ownBlock=some b) w1 w'/\Loc w1 a v') λe w' M=>by obtain⟨v',rfl,h1,h2,h3⟩:=M;rw[Nat.min_eq_left ba,List.take_length]at *;exact⟨_,rfl,v',rfl,h1,h2,h3⟩)
 refine Gf b3 rfl rfl (by decide) rfl f138 (by kernel_rfl) rfl (vs:=#[a,en,Y cn]) (by simp[b3.eval];exact⟨rfl,rfl,rfl⟩) (be.mono λx w2 M=>?_);obtain⟨_,rfl,⟨y,rfl,d4,k2,hL⟩,t2⟩:=M;refine⟨_,rfl,λer b5=>?_⟩;have l:w2.heap[p]?=some (.cells #[ae,en,.int .u32 0] 232):=(k2.block p (aR bm S.size) an).trans P;refine wS b5 (cL rfl b5.e) λb6=>?_;refine wS b6 (zD (i:=0) (v:=y) rfl b6.e rfl) λb7=>?_;refine wS b7 (zD (i:=1) (v:=Y es.length) rfl b7.e rfl) λca=>?_;refine wS ca (di (v:=y) rfl ca.e) λcb=>?_;refine wS cb (di (v:=Y es.length) rfl cb.e) λcc=>bG ?_;obtain⟨pe,B,d9,_⟩:=id hR;refine sR ?_;refine wS cc (cL rfl cc.e) λcd=>?_;refine wS cd (cL rfl cd.e) λcf=>?_;refine wS cf (fc (p:=⟨p,0,none⟩) rfl cf.e) λcg=>?_;refine wS cg (wH fW (g:=p) rfl cg.e) λch=>?_;refine wS ch (cU (v:=en) rfl zL ch.e (cK l rfl)) λci=>?_;refine du ci rfl rfl (by decide) (cL (v:=Y es.length) rfl ci.e) λd1 a3=>?_;obtain⟨N,bp⟩ := Nu fW (ρ := d1.eval) (o := ⟨some 30,.slice 159 (.tmp 28) (some (.tmp 29)) none none,159, "",#[],none⟩) (w := w2) (p := pe) (n := es.length) (c := B) (i := es.length) rfl (a3.e.trans d9) a3.e (aW _)
 rw[Nat.sub_self]at bp;refine wS a3 bp λck=>?_;refine wS ck (fc (p:=⟨p,0,none⟩) rfl ck.e) λcl=>?_;refine wS cl (wH fW (g:=p) rfl cl.e) λU=>?_;refine jL rfl rfl (iG (p:=⟨p,1,none⟩) (v:=.slice N 0 (B-es.length)) rfl (ei sizeOf159) U.e U.e (cK l rfl) (jH l) rfl (λ_ h=>(by cases h)) (λ_ h=>(by cases h))) (bG ?_);have r:=kg (i:=1) (.slice N 0 (B-es.length)) l;have k3:Kp (λb=>b=p) w2 (w2.setCell ⟨p,1,none⟩ (.slice N 0 (B-es.length))):=Kp.sc w2 _ _ rfl;have t3:ej (w2.setCell ⟨p,1,none⟩ (.slice N 0 (B-es.length))):=t2.setCell _ _;generalize w2.setCell ⟨p,1,none⟩ (.slice N 0 (B-es.length))=w3 at r k3 t3 ⊢;rw[show(#[ae,en,Value.int .u32 0]:Ak).setIfInBounds 1 (.slice N 0 (B-es.length))=#[ae,.slice N 0 (B-es.length),.int .u32 0]from rfl]at r;have bq:y.ownBlock≠some p:=λe=>by
  rcases hL with e1|⟨g',e1,ec⟩
  .exact an (e1.symm.trans e)
  .rw[e1]at e;cases e;have:=S.size;omega
 have a9:BA base w3 y (hb++dp es):=d4.kp k3 λb C e=>bq (by rw[C,e])
 have kt:Kp (λb=>b=p\/a.ownBlock=some b) w w3:=((S.mono λ_ _ e=>.inl e).trans k2 λ_ _ e=>.inr e).trans k3 λ_ _ e=>.inl e
 have d8:db w3:=λi hi=>by
  obtain⟨h0,h1⟩:=hT i hi;refine⟨(kt.cell (bH w _ h0) ?_).trans h0,(kt.cell (bH w _ h1) ?_).trans h1⟩
  .rintro(e|e)
   .simp only at e;omega
   .have:=bf _ e;simp only at this;omega
  .rintro(e|e)
   .simp only at e;omega
   .have:=bf _ e;simp only at this;omega
 have bl:(hb++dp es).length<=100000000:=by have:=vo es;rw[aj];omega
 refine sR ?_;refine wS U (cL rfl U.e) λcm=>?_;refine wS cm (cL rfl cm.e) λco=>?_;refine wS co (fc (p:=⟨p,0,none⟩) rfl co.e) λcq=>?_;refine wS cq (zH fW (g:=p) rfl cq.e) λcr=>?_;refine wS cr (cU (v:=.int .u32 0) rfl Ew cr.e (cK r rfl)) λcu=>?_;refine wS cu (cL (v:=y) rfl cu.e) λcv=>?_;have am:=gM (f:=139) (by decide) func139 P1 t3 ((DF y [] (hb++dp es) w3 d8 (by omega) a9.1.rd 0 sum_nil.symm).mono (R':=λe w'=>∃x,e = .returned x/\x = .int .u32 (dO (hb++dp es):Nat)/\w'=w3) λe w' M=>⟨_,M.1,rfl,M.2⟩);refine wC cv rfl (qf (f:=139) rfl func139) (vs:=#[.int .u32 0,y]) (by simp[cv.eval];exact⟨rfl,rfl⟩) (am.mono λx w4 M=>?_);obtain⟨_,rfl,⟨rfl,rfl⟩,_⟩:=M;refine⟨_,rfl,λet cw=>?_⟩;refine wS cw (fc (p:=⟨p,0,none⟩) rfl cw.e) λcz=>?_;refine wS cz (zH fW (g:=p) rfl cz.e) λW=>?_;refine jL rfl rfl (iG (p:=⟨p,2,none⟩) (v:=.int .u32 (dO (hb++dp es):Nat)) rfl (ei sizeOf230) W.e W.e (cK r rfl) (jH r) rfl (λ_ h=>(by cases h)) (λ_ h=>(by cases h))) (bG ?_);have Q:=kg (i:=2) (.int .u32 (dO (hb++dp es):Nat)) r;have k4:Kp (λb=>b=p) w4 (w4.setCell ⟨p,2,none⟩ (.int .u32 (dO (hb++dp es):Nat))):=Kp.sc w4 _ _ rfl;have t4:ej (w4.setCell ⟨p,2,none⟩ (.int .u32 (dO (hb++dp es):Nat))):=t3.setCell _ _;generalize w4.setCell ⟨p,2,none⟩ (.int .u32 (dO (hb++dp es):Nat))=w5 at Q k4 t4 ⊢;rw[show(#[ae,.slice N 0 (B-es.length),Value.int .u32 0]:Ak).setIfInBounds 2 (.int .u32 (dO (hb++dp es):Nat))=#[ae,.slice N 0 (B-es.length),.int .u32 (dO (hb++dp es):Nat)]from rfl]at Q;have d5:BA base w5 y (hb++dp es):=a9.kp k4 λb C e=>bq (by rw[C,e])
 refine bO (bO (bF ?_));refine wS W (cL rfl W.e) λcA=>?_;refine wS cA (fc (p:=⟨p,0,none⟩) rfl cA.e) λcT=>?_;refine wS cT (wH fW (g:=p) rfl cT.e) λc3=>?_;refine wS c3 (cU (v:=.slice N 0 (B-es.length)) rfl zL c3.e (cK Q rfl)) λc7=>?_;refine wS c7 (Ec fW (n:=0) rfl c7.e) λdd=>?_;refine wS dd (oK (i:=(0:Nat)) (j:=0) rfl dd.e rfl) λa4=>bG ?_;refine bL a4.e (bQ ?_);refine sR ?_;refine wS a4 (cL (v:=y) rfl a4.e) λde=>?_;refine wS de (cL rfl de.e) λdk=>?_;refine wS dk (fc (p:=⟨p,0,none⟩) rfl dk.e) λdl=>?_;refine wS dl (zH fW (g:=p) rfl dl.e) λds=>?_;refine du ds rfl rfl (by decide) (cU (v:=.int .u32 (dO (hb++dp es):Nat)) rfl Ew ds.e (cK Q rfl)) λd2 a7=>?_;have ad:=gM (f:=140) (by decide) func140 P2 t4 (uT base y (hb++dp es) (dO (hb++dp es)) w5 d5.1 (uf _) bl (aX bb (aX kt.size k4.size)) (R:=λe w'=>∃x,e = .returned x/\BR base w' x (cQ (hb++dp es))/\Kp (λb=>y.ownBlock=some b) w5 w') λv' w' h1 h2=>⟨v',rfl,h1,h2⟩);refine xo (ats:=#[48,230]) rfl rfl (qf (f:=140) rfl func140) (by kernel_rfl) (by kernel_rfl) (vs:=#[y,.int .u32 (dO (hb++dp es):Nat)]) (by simp[a7.eval];exact⟨rfl,rfl⟩) (ad.mono λx w6 M=>?_);obtain⟨v2,rfl,⟨d6,k6⟩,t6⟩:=M;refine⟨v2,rfl,?_⟩;have el:bY 54 (d2.put (some 54) v2) _:=a7.bit v2;refine wS el (di (v:=v2) rfl (a7.last v2)) λeo=>?_;refine wS eo (di (v:=.bool true) rfl rfl) λa8=>bG ?_;have kq:Kp (λb=>b=p\/a.ownBlock=some b) w w6:=(kt.trans k4 λ_ _ e=>.inl e).trans k6 λk hk e=>by
  rcases hL with e1|⟨g',e1,ec⟩
  .exact .inr (e1.symm.trans e)
  .rw[e1]at e;cases e;have:=S.size;omega
 refine wp_ret ⟨a8.d,.tuple #[v2,.bool true],?_,v2,rfl,d6,kq,t6⟩;rw[results_tmp2 (t:=4) (u:=5) rfl];simp only[a8.v 4 (by decide),a8.v 5 (by decide)]
 rfl
end
section
open Go.Conc Go.Lib
def Nh{ρ:Ae->D}{o:Oper}{nx:Next}{w w':Z}(ht:ej w)(M:∀x,ρ (.const x)=x)(g:∀f,ρ (.func f) = .func (.func f) #[] #[])(y:ig prog o.op=true)(S:∀c f,o.op = .call c->c.callee≠.value (.func f))(B:∀f args,nx≠.enter f args)
  (h:(execOp ρ o).run prog w = .ok nx w'):(execOp ρ o).run (cj prog) w = .ok nx w'/\ej w':=by
 have W:ig (cj prog) o.op=true:=(FL (P:=prog) (F:=dH prog) o.op).trans y;have U:(cj prog).globals.size<=(plain 2).n:=qH.hG;have key:=bT.op (P:=cj prog) (F:=prog.funcs) (G0:=plain 2) (Lk:=df (cj prog) Tc) pz U ρ M g o (λc f e1 e2=>bx e2 (S c f e1)) W (λ_=>False) w'.drawn w w #[] (mz _ w) ht;rw[show imag (cj prog) prog.funcs=prog from rfl,h]at key;rcases key with⟨f,args,e,_⟩|⟨c,l,N,r⟩
 .exact bx e (B f args)
 obtain⟨Q,ad,r1,r2,_,⟨r3,r4⟩,_⟩:=r (by have:=l.1;omega);have a:(execOp ρ o).run (cj prog) w = .ok nx Q:=by have:=congrArg Prod.fst r1;simpa using this
 have C:ej Q:=by
  have j:=bT.op (P:=cj prog) (F:=(cj prog).funcs) (G0:=plain 2) (Lk:=df (cj prog) Tc) pz U ρ M g o (λc f e1 e2=>bx e2 (S c f e1)) W (λ_=>False) 0 w w #[] (mz _ w) ht;rw[show imag (cj prog) (cj prog).funcs=cj prog from rfl,a]at j;rcases j with⟨f,args,e,_⟩|⟨_,_,h,_⟩
  .exact bx e (B f args)
  .exact h
 have Y:=wR r2 N C;have e6:Q=w':=by
  rw[Y,r3,r4];have R:=l.1;have a2:=l.2;obtain⟨x1,x2,x3,x4,x5⟩:=w';simp only at R a2;subst R a2
  rfl
 rw[<- e6];exact⟨a,C⟩
end
section
open Go.Conc Go.Lib Go.RowKit Go.Maps
section
variable {P:Ad}{ρ:Ae->D}{o:Oper}{x y z:Ae}{w:Z}
def fK{t e:Af}(f:P.underlying t=some (.slice e))(a:o.op = .call ⟨.builtin .len,#[x],#[t]⟩)(g:ρ x = .slice p n c):(execOp ρ o).run P w = .ok (.value (Y n)) w:=by simp[execOp,a,g,resolve,invoke,builtin,Builtin.len_,bK f,goInt]
def kY{t e:Af}{g off:Nat}(h:P.underlying t=some (.slice e))(r:∀w,(sizeOf e).run P w = .ok sz w)(a:o.op = .indexAddr t x y)(j:ρ x = .slice (some ⟨g,off,none⟩) n c)(l:ρ y = Y i)(f:i<n):(execOp ρ o).run P w = .ok (.value (.pointer (some ⟨g,off+sz*i,none⟩))) w:=by simp[execOp,a,j,l,Instr.indexAt,bK h,r,asIntOf,f,addr_add,Nat.mul_comm]
def Ea{t e:Af}(h:P.underlying t=some (.slice e))(f:∀w,(sizeOf e).run P w = .ok sz w)(a:o.op = .slice t x (some z) none none)(j:ρ x = .slice p n c)(l:ρ z = Y i)(g:i<=n):(execOp ρ o).run P w = .ok (.value (.slice (if c=i then p else p.map (·.add (i*sz))) (n-i) (c-i))) w:=by simp[execOp,a,j,l,bK h,Instr.sliceAt,Instr.slice,Instr.sliceBounds,Instr.sliceBound,asIntOf,f,g]
def iC {t:Af}{v:D}(f:∀w,(zeroValue t).run P w = .ok v w)(a:o.op = .alloc t):(execOp ρ o).run P w = .ok (.value (ab w.heap.size)) (w.alloc (.cells v.cells t)):=by simp[execOp,a,Instr.alloc,f,newVar,newRow]
def NE{t:Af}{g k:Nat}{a b:D}(r:∀w,(isAgg t).run P w = .ok true w)(y:∀w,(sizeOf t).run P w = .ok 2 w)(h:o.op = .load t x)(B:ρ x = .pointer (some ⟨g,k,none⟩))(h0:w.cell? ⟨g,k,none⟩=some a)(h1:w.cell? ⟨g,k+1,none⟩=some b):(execOp ρ o).run P w = .ok (.value (.agg #[a,b])) w:=by
 have l:=run_loadCells_list (P:=P) (w:=w) ⟨g,k,none⟩ [a,b] (λj v f=>by
  rw[addr_add]
  match j,f with
  |0,f=>cases f;exact h0
  |1,f=>cases f;exact h1
  |j+2,f=>simp at f)
 rw[show [a,b].length=2 from rfl]at l;simp[execOp,h,B,Instr.loadAt,Instr.sureAddr,loadVar,r,y,l]
def Ee{t k e:Af}{b:Nat}{f:D->Option D}{zv key v:D}{B:Lit}(a:o.op = .lookup t x y false)(j:ρ x = .map (some b))(l:ρ y=key)(h:cH w P k b n f)(K:Keyed P k)(ht:P.underlying t=some (.map k e))(r:(zeroValue e).run P w = .ok zv w)(g:keyOf P k key=some B)(hv:f key=some v):(execOp ρ o).run P w = .ok (.value v) w:=by have:=h.look false K ht r g;rw[hv]at this;simp[execOp,a,j,l,this]
def NN{t:Af}{g:Nat}{a b a' j:D}(C:∀w,(sizeOf t).run P w = .ok 2 w)(h:o.op = .store t x y)(M:ρ x = ab g)(N:ρ y = .agg #[a,b])(l:w.heap[g]?=some (.cells #[a',j] t))(r:a.oneCell'=true)(hb:b.oneCell'=true) :
  ∃w',(execOp ρ o).run P w = .ok .skip w'/\w'.heap[g]?=some (.cells #[a,b] t)/\Kp (λk=>k=g) w w':=by
 have f:=run_storeCells_at P g 0 t [a,b] 0 #[a',j] w l (by simp) (by simp[r,hb]);simp only[Nat.add_zero,ao]at f;refine⟨_,by simp[execOp,h,M,N,Instr.storeAt,Instr.sureAddr,storeVar,C,Value.cells,f];rfl,?_,?_⟩
 .simp[World.setRow,aV,l]
 .exact⟨rfl,rfl,rfl,by simp[World.setRow],λk _ B=>by simp[World.setRow,aV];intro e;exact bx e.symm B⟩
end
def Hu{ρ:Ae->D}{o:Oper}{x y:Ae}{w:Z}{k:Ac}(a:o.op = .build 225 #[(0,x),(1,y)])(f:ρ x = .string k)(g:ρ y = Y m):(execOp ρ o).run prog w = .ok (.value (.agg #[.string k,Y m])) w:=by simp[execOp,a,f,g,Instr.build,zeroValue225,bK underlying225,aF,sizeOf9,sizeOf3,Instr.fill,Value.cells]
def Hr{ρ:Ae->D}{o:Oper}{x y z:Ae}{w:Z}{k t:Ac}(a:o.op = .build 171 #[(0,x),(1,y),(2,z)])(f:ρ x = .string k)(g:ρ y = Y m)(h:ρ z = .agg #[.string t,.bool d]):(execOp ρ o).run prog w = .ok (.value (.agg #[.string k,Y m,.string t,.bool d])) w:=by simp[execOp,a,f,g,h,Instr.build,zeroValue171,bK underlying171,aF,sizeOf9,sizeOf3,sizeOf138,Instr.fill,Value.cells]
def uX {ρ:Ae->D}{o:Oper}{x:Ae}{w:Z}{a b c d:D}(f:o.op = .buildSlice 159 1 #[(0,x)])(h:ρ x = .agg #[a,b,c,d]):(execOp ρ o).run prog w = .ok (.value (ag w.heap.size 1 1)) (w.alloc (.cells #[a,b,c,d] 171)):=by
 have g:Array.range 4=#[0,1,2,3]:=by decide
 simp[execOp,f,h,Instr.buildSlice,zeroValue171,bK underlying159,sizeOf171,Instr.fill,Value.cells,g,newRow]
end
section
open Go.Conc Go.Lib Go.RowKit Go.Maps
def oI (sn si:Nat)(a:Act)(_:Z):Nat:=match(a.tmps[sn]?:Option D),(a.tmps[si]?:Option D)with
 |some (.int _ n),some (.int _ i)=>(n-i).toNat
 |_,_=>0
def bY.at{N:Nat}{a:Act}{e:Nat->D}(h:bY N a e){t:Nat}(ht:t<N):a.tmps[t]?=some (e t):=by have f:=h.v t ht;have:=h.s;rw[aU,aP (by omega)]at f;rw[aP (by omega)];exact congrArg some f
def vU{N:Nat}{a:Act}{e:Nat->D}(f:bY N a e)(h1:sn<N)(g:si<N)(e1:e sn = Y n)(e2:e si = Y i)(w:Z):oI sn si a w=n-i:=by unfold oI;rw[f.at h1,f.at g,e1,e2];show((n:Int)-i).toNat=n-i;omega
def upd_ne{e:Nat->D}{d t:Nat}{y:D}(h:t≠d):upd e d y t=e t:=if_neg h
def qb{e:Nat->D}{d:Nat}{y:D}:upd e d y d=y:=if_pos rfl
def xp{P:Ad}{N:Nat}{Post:Exit->Act->Z->Prop}{d:Nat}{body:Code}{a:Act}{e:Nat->D}{w:Z}(I:Nat->(Nat->D)->Z->Prop)
  (g1:s.guard=none) (d1:s.dst=some c) (p1:s.op = .binOp .lss 3 (.tmp si) (.tmp sn) 3) (g2:u.guard=none) (d2:u.dst=some d) (p2:u.op = .binOp .add 3 (.tmp si) (.const (Y 1)) 3) (g3:A.guard=none) (d3:A.dst=some si) (p3:A.op = .move (.tmp d))
  (g:si<N/\sn<N/\c<N/\d<N) (W:si≠c/\sn≠c/\sn≠d/\si≠sn/\si≠d) (hn:n<4611686018427387904)
  (Q:∀i e w v,I i e w->I i (upd e c v) w) (R:∀i e w v v',I i e w->I i (upd (upd e d v) si v') w)
  (hs:bY N a e) (e1:e si = Y 0) (e2:e sn = Y n) (h0:I 0 e w)
  (o:∀(i:Nat) (a:Act) (e:Nat->D) (w:Z) (K:Act->Z->Prop),i<n->bY N a e->I i e w->e si = Y i->e sn = Y n->(∀a' B w',bY N a' B->I (i+1) B w'->B si = Y i->B sn = Y n->K a' w')->
   body.wp P (Exit.inBlock k (Exit.then K (Exit.inBlock sz Post))) a w)
  (done:∀a e w,bY N a e->I n e w->Post .normal a w) :
  (Code.block sz (.loop (.seq (.region l #[s] false) (.seq (.cond (.tmp c) .skip (.exit sz)) (.seq (.block k body) (.region q #[u,A] false)))))).wp P Post a w:=by
 obtain⟨r,l2,l3,l4⟩:=g;obtain⟨n1,n2,n3,n4,n5⟩:=W;refine wp_block (wp_loop (λa w=>∃i e,i<=n/\bY N a e/\I i e w/\e si = Y i/\e sn = Y n) (oI sn si) ⟨0,e,aZ _,hs,h0,e1,e2⟩ ?_);rintro a1 y ⟨i,f,hi,M,I1,f1,f2⟩;have U:=vU M l2 r f2 f1 y;refine bO (bF (du M g1 d1 l3 (fT p1 ((M.eval r).trans f1) ((M.eval l2).trans f2)) λa2 s2=>bG ?_));have I2:=Q i f y (.bool (decide ((i:Int)<(n:Int)))) I1;have C:a2.eval (.tmp c) = .bool (decide ((i:Int)<(n:Int))):=(s2.eval l3).trans qb
 by_cases g:i<n
 .rw[show decide ((i:Int)<(n:Int))=true by simpa using g]at C;refine bO (bM C (bQ ?_));refine bO (wp_block ?_);refine wp_mono (o i a2 _ y (λa w=>Code.wp P (.region q #[u,A] false) (Exit.then (λa' w'=>(∃i e,i<=n/\bY N a' e/\I i e w'/\e si = Y i/\e sn = Y n)/\oI sn si a' w'<oI sn si a1 y) (Exit.inBlock sz Post)) a w) g s2 I2 ((upd_ne n1).trans f1) ((upd_ne n2).trans f2) λa3 f3 w3 s3 I3 h1 h2=>?_) ?_
  rotate_left
  .intro ex a' w' h;cases ex with
   |exit j=>
    simp only[Exit.inBlock]at h ⊢;split
    .rename_i S
     rw[if_pos S]at h;exact h
    .rename_i S
     rw[if_neg S]at h;exact h
   |_=>exact h
  refine bF (du s3 g2 d2 l4 (wF p2 ((s3.eval r).trans h1) rfl (by omega)) λa4 s4=>?_);refine du s4 g3 d3 r (cL p3 ((s4.eval l4).trans qb)) λa5 s5=>bG ?_;have q1:upd (upd f3 d (Y ((i+1:Nat):Int))) si (Y ((i+1:Nat):Int)) si = Y ((i+1:Nat):Int):=qb;have q2:upd (upd f3 d (Y ((i+1:Nat):Int))) si (Y ((i+1:Nat):Int)) sn = Y n:=((upd_ne (Ne.symm n4)).trans (upd_ne n3)).trans h2;refine⟨⟨i+1,_,g,s5,R _ _ _ _ _ I3,q1,q2⟩,?_⟩;rw[U,vU s5 l2 r q2 q1];omega
 .rw[show decide ((i:Int)<(n:Int))=false by simpa using g]at C;refine bO (bL C (wp_exit ?_));have:i=n:=by omega
  subst this;show(if sz=sz then _ else _);rw[if_pos rfl];exact done a2 _ y s2 I2
end
end Go.Proofs.YthbdpfccfcceiaaGreatDoor
