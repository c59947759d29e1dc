/-
  Of hurt_card.
-/
import Derived.Test.YthbdpfccfcceiaaGreatDoorZL1x
import Derived.Tactics
import Derived.Test.YthbdpfccfcceiaaGreatDoorM1x
import Derived.Laws.BytesString
import Derived.Great.BuildSlice
set_option linter.all false
namespace Go.Proofs.YthbdpfccfcceiaaGreatDoor
open Go.Proofs.Tryz
variable {c g n:Nat}{fn:Func}{y:D}{i:TypeInfo}{d:TypeDesc}{p:Option Addr}{b:Int}
section
open Go.Conc
abbrev bO:=@wp_seq
abbrev bM:=@wp_cond_true
abbrev bL:=@wp_cond_false
abbrev bG:=@wpList_nil
abbrev bF:=@wp_region_list
section
variable {Q:Ad}{Post:Exit->Act->Z->Prop}{a:Act}{w:Z}
def qh{id:Nat}{o:Oper}{w':Z}(g:o.guard=none)(j:(execOp a.eval o).run Q w = .ok (.value y) w')(h:Post .normal (a.put o.dst y) w'):(Code.region id #[o] false).wp Q Post a w:=by refine bF (wpList_plain g λK f=>?_);unfold Oper.wp;rw[j];exact f _ _ (bG h)
def uu{id : Nat}{o : Oper}{f : Ag}{args : Array Ae}{ats : Array Af}(C : o.guard = none)(j : o.op = .call { callee := .value (.func f),args,argTypes := ats })(B : Q.funcs[f]? = some fn)(g : (fn.name == "runtime.NumGoroutine") = false)(hb : fn.body.isNone = false){vs : Ak}(l : args.map a.eval = vs)
  (y:Calls Q f vs w λe w'=>∃x,e = .returned x/\Post .normal (a.put o.dst x) w'):(Code.region id #[o] false).wp Q Post a w:=by
 refine bF (wpList_plain C λK r=>?_);unfold Oper.wp;rw[run_call_body j B g hb,Oper.upon_enter,l];refine y.mono λe w' D=>?_;obtain⟨x,rfl,h⟩:=D;exact r _ _ (bG h)
def Gk{id s:Nat}(h:∀t:Bool,Post .normal ((a.put (some s) (.bool (!t))).put (some s) (.bool t)) { w with drawn:=w.drawn+1 }):(Code.region id (je s) true).wp Q Post a w:=by
 refine wp_region_draw λt=>?_;rw[Fa];split
 .have:=h false;simp[wpOps,je,cp,Region.wanted,Oper.wp,execOp,Oper.upon,Act.eval];exact .inl (.inl this)
 .have:=h true;simp[wpOps,je,cp,Region.wanted,Oper.wp,execOp,Oper.upon,Act.eval];exact .inl (.inl this)
def LC (a:Act)(_:Z):Nat:=match(a.tmps[0]?:Option D)with
 |some (.int _ c)=>(iS-c).toNat
 |_=>0
def Pr{ρ:Ae->D}(h0:ρ (.tmp 0) = Y c)(f:∀x,ρ (.const x)=x)(a:(c:Int)<iS)(w:Z):(execOp ρ (cp (some 0) (.binOp .add 3 (.tmp 0) (.const (Y 1)) 3))).run Q w = .ok (.value (Y ((c+1:Nat):Int))) w:=by simp[execOp,cp,binOp,eqGuard,Op.intArith,h0,f];have g:(c:Int)<1152921504606846976:=a;rw[IntKind.wrap_i64];omega
def LI{jf:Ag}(r:lY Q jf fn)(w:Z):Calls Q jf #[] w λe w'=>∃x,e = .returned x/\An w w':=by
 refine calls_of_wp r.at_ r.body ?_;rw[r.ntmps];refine bO (qh rfl rfl ?_);show Code.wp Q _ _ _ _;refine wp_block (wp_loop (λa g=>∃(c:Nat) (x y:D),a=⟨#[Y c,x,y],[]⟩/\(c:Int)<=iS/\An w g) LC ⟨0,_,_,rfl,by decide,Kp.refl _ _⟩ ?_);rintro a g ⟨c,x,y,rfl,R,o⟩;have done:∀(M:Ak) (w':Z),An w w'->bodyPost Q fn (λe w'=>∃x,e = .returned x/\An w w') .normal ⟨M,[]⟩ w':=λM w' C=>⟨rfl,_,results_none r.results _ Q w',_,rfl,C⟩
 refine bO (Gk λt=>?_);have j:An w { g with drawn:=g.drawn+1 }:=⟨o.os,o.tape,o.output,o.size,o.block⟩;show Code.wp Q _ _ _ _;cases t with
 |true=>exact bM rfl (wp_exit (done _ _ j))
 |false=>
  refine bL rfl (bO ?_)
  by_cases l:(c:Int)<iS
  .refine qh (y:=.bool true) (w':={ g with drawn:=g.drawn+1 }) rfl (by simp[execOp,cp,binOp,eqGuard,Op.intCmp,Act.eval,Act.put,l]) ?_;show Code.wp Q _ _ _ _;refine bM rfl (bF (wpList_plain rfl λK N=>N _ _ (wpList_plain rfl λP B=>?_)));unfold Oper.wp;rw[Pr (c:=c) rfl (λ_=>rfl) l];refine B _ _ (bG ⟨⟨c+1,_,_,rfl,by omega,?_⟩,?_⟩)
   .exact j.trans (Kp.al _ _ _) λ_ _ h=>h
   .show(iS-((c+1:Nat):Int)).toNat<(iS-(c:Int)).toNat;omega
  .refine qh (y:=.bool false) (w':={ g with drawn:=g.drawn+1 }) rfl (by simp[execOp,cp,binOp,eqGuard,Op.intCmp,Act.eval,Act.put,l]) ?_;show Code.wp Q _ _ _ _;exact bL rfl (wp_exit (done _ _ j))
end
end
section
open Go.Conc Go.Lib
abbrev bK:=@run_underlying
def mi (x:D):Prop:=∃n:Int,x = .int .u8 n
def uy (w:Z)(v:D):Prop:=∀g,v.ownBlock=some g->∀c e a,w.heap[g]?=some (.cells c e a)->∀x∈c.toList,mi x
def BA (base:Nat)(w:Z)(v:D)(bs:Aj):Prop:=BR base w v bs/\uy w v
def qQ (x:UInt8):mi (b8 x):=⟨_,rfl⟩
section
variable {S:Nat->Prop}{base:Nat}{w w':Z}{v:D}{bs:Aj}
def BA.kp (h:BA base w v bs)(f:Kp S w w')(j:∀b,v.ownBlock=some b->¬S b):BA base w' v bs:=
 ⟨h.1.kp f j,λg a c e l o=>h.2 g a c e l ((f.block g (h.1.lt g a).2 (j g a)).symm.trans o)⟩
def BA.kept (h:BA base w v bs)(a:An w w'):BA base w' v bs:=h.kp a λ_ _ e=>e
def BA.nil (base:Nat)(w:Z):BA base w (ae) []:=⟨World.ownsRow_nil w base _ 1,λg a=>by cases a⟩
def BA.mono {a:Nat}(h:BA base w v bs)(hb:a<=base):BA a w v bs:=⟨h.1.mono hb,h.2⟩
def sx (w:Z)(l:List D)(n m cap:Nat)(j:∀x∈l,mi x):uy (w.drew.alloc (.cells (l.toArray++Builtin.zeroCells (Value.int .u8 0).cells n) 5)) (ag w.heap.size m cap):=by
 intro g h c e o f x a;cases h;have:=bI w.drew (.cells (l.toArray++Builtin.zeroCells (Value.int .u8 0).cells n) 5);rw[show w.drew.heap.size=w.heap.size from rfl,f]at this;cases this;simp only[Array.toList_append,aM]at a;rcases a with a|a
 .exact j x a
 .simp only[Builtin.zeroCells,Array.toList_map,aK]at a;obtain⟨i,_,rfl⟩:=a;refine⟨0,?_⟩;show(#[Value.int .u8 0]:Ak)[i % 1]! = _;rw[Nat.mod_one]
  rfl
def Bg (w:Z)(g n cap:Nat)(a:Ak)(l:List D)(e:Af)(h:Nat × Nat)(r:w.heap[g]?=some (.cells a e h))(y:∀x∈l,mi x):uy (w.setRow g l.toArray) (ag g n cap):=by
 intro M f c C j o x B;cases f;have:(w.setRow g l.toArray).heap[g]?=some (.cells l.toArray e h):=by simp[World.setRow,aV,r]
 rw[o]at this;cases this;exact y x B
def oc{P:Ad}(hu:P.underlying 48=some (.slice 5))(Y:P.info? 5=some i)(hz:i.zero=some (.int .u8 0))(o:i.size=1)(M:i.bytes=1)(W:Af)(h:BA base w v bs)(ad:Addr)(c:Nat)(a:Aj)
  (hc:∀j u,(a.map b8)[j]?=some u->w.cell? (ad.add j)=some u) (hl:bs.length+a.length<=1000000000) (N:base<=w.heap.size) :
  ∃v' w',(Builtin.append_ #[48,48] W #[v,.slice (some ad) a.length c]).run P w = .ok v' w'/\BA base w' v' (bs++a)/\Kp (λb=>v.ownBlock=some b) w w'/\(v'.ownBlock=v.ownBlock\/v'.ownBlock=some w.heap.size):=by
 have B:∀u∈a.map b8,u.oneCell'=true:=xT a;obtain⟨v',w',f,h1,h2,_,D⟩:=run_append_own_at (P:=P) w base 48 W 5 i (.int .u8 0) 1 1 hu Y hz o M rfl (by decide) v bs.length (bs.map b8) h.1 ad a.length c (a.map b8) (by simp) hc B (by unfold maxLen;omega) (by omega) N;refine⟨v',w',f,⟨?_,?_⟩,Kp.jh h2 (λ_ e=>e),D⟩
 .unfold BR;rw[aj,bj];exact h1
 have R:∀x∈a.map b8,mi x:=λx l=>by obtain⟨y,_,rfl⟩:=aK.1 l;exact qQ y
 have am:∀x∈bs.map b8,mi x:=λx l=>by obtain⟨y,_,rfl⟩:=aK.1 l;exact qQ y
 rcases h.1.2 with⟨rfl,h0⟩|⟨g,cap,C,rfl,a0,Q,a4,a1,a3,an⟩
 .by_cases hm:a.length=0
  .rw[hm]at f;have hn:a.map b8=[]:=by rw[aA hm];rfl
   intro g Q;rcases D with D|D
   .rw[Q]at D;cases D
   .rw[Q]at D
    exfalso
    have e:(Builtin.append_ #[48,48] W #[ae,.slice (some ad) 0 c]).run P w = .ok (ae) w:=by simp[Builtin.append_,bK hu,sizeOf,typeInfo,Y,Builtin.lenOf,Builtin.firstCells,loadCells,loadCellsFrom]
    rw[e]at f;cases f;cases Q
  .have Z:=run_append_nil (P:=P) w 48 W 5 i (.int .u8 0) hu Y hz ad a.length c (a.map b8) (by rw[o];simp) hc (by omega) (by omega) (by rw[M];omega);rw[Z]at f;cases f;exact sx w _ _ _ _ R
 .by_cases U:bs.length+a.length<=cap
  .have Z:=run_append_room (P:=P) w 48 W 5 i hu Y g bs.length cap C Q ad a.length c (a.map b8) (by rw[o];simp) hc B U (by rw[o];simp;omega);rw[Z]at f;cases f;refine Bg w g _ _ C _ 5 (0,0) Q λx l=>?_;have r:=h.2 g rfl C 5 (0,0) Q;simp only[aM]at l;rcases l with(l|l)|l
   .exact r x (List.mem_of_mem_take l)
   .exact R x l
   .exact r x (List.mem_of_mem_drop l)
  .have S:∀j u,(bs.map b8)[j]?=some u->w.cell? ((⟨g,0,none⟩:Addr).add j)=some u:=h.1.cells (g:=g) rfl;have Z:=run_append_grow (P:=P) w 48 W 5 i (.int .u8 0) hu Y hz ⟨g,0,none⟩ bs.length cap (bs.map b8) (by rw[o];simp) S ad a.length c (a.map b8) (by rw[o];simp) hc (by omega) (by omega) (by rw[M];exact growslice_fits (by omega) (by omega));rw[Z]at f;cases f;have:=sx w (bs.map b8++a.map b8) (grownCap w (bs.length+a.length) cap 5-(bs.length+a.length)) (bs.length+a.length) (grownCap w (bs.length+a.length) cap 5) (λx l=>by
    rcases aM.1 l with l|l
    .exact am x l
    .exact R x l)
   simpa using this
def Hd{P:Ad}(Y:P.underlying 48=some (.slice 5))(l:P.underlying 9=some .string)(W:P.info? 5=some i)(hz:i.zero=some (.int .u8 0))(r:i.size=1)(C:i.bytes=1)(S:Af)(h:BA base w v bs)(s:Ac)
  (hl:bs.length+s.size<=1000000000) (D:base<=w.heap.size) :
  ∃v' w',(Builtin.append_ #[48,9] S #[v,.string s]).run P w = .ok v' w'/\BA base w' v' (bs++s.data.toList)/\Kp (λb=>v.ownBlock=some b) w w'/\(v'.ownBlock=v.ownBlock\/v'.ownBlock=some w.heap.size):=by
 obtain⟨v',w',a,h1,h2,_⟩:=run_append_own_string (P:=P) w base 48 9 S 5 i Y l W hz r C v bs.length (bs.map b8) h.1 s (by unfold maxLen;omega) (by omega) D;have Z:BR base w' v' (bs++s.data.toList):=by unfold BR;rw[aj,bj,<- AB,show s.data.toList.length=s.size by rw[Array.length_toList];rfl];exact h1
 have M:∀x∈strCells s,mi x:=λx f=>by rw[AB]at f;obtain⟨y,_,rfl⟩:=aK.1 f;exact qQ y
 have am:∀x∈bs.map b8,mi x:=λx f=>by obtain⟨y,_,rfl⟩:=aK.1 f;exact qQ y
 have key:uy w' v'/\(v'.ownBlock=v.ownBlock\/v'.ownBlock=some w.heap.size):=by
  rcases h.1.2 with⟨rfl,h0⟩|⟨g,cap,o,rfl,a1,U,a4,a3,ad,an⟩
  .by_cases hm:s.size=0
   .have hf:=run_firstCells_string (P:=P) w 1 s;rw[hm]at hf;have e:(Builtin.append_ #[48,9] S #[ae,.string s]).run P w = .ok (ae) w:=by simp[Builtin.append_,bK Y,bK l,sizeOf,typeInfo,W,r,Builtin.lenOf,hm,hf]
    rw[e]at a;cases a;exact⟨λg U=>(by cases U),.inl rfl⟩
   .have R:=run_append_nil_string (P:=P) w 48 9 S 5 i (.int .u8 0) Y l W hz s (by omega) (by omega) (by rw[C];omega);have e1:(s.data.map λb=>Value.int .u8 b.toNat)=(strCells s).toArray:=by apply Array.ext';simp[strCells]
    rw[e1]at R;rw[R]at a;cases a;exact⟨sx w _ _ _ _ M,.inr rfl⟩
  .by_cases Q:bs.length+s.size<=cap
   .have a0:o.size=cap:=by simpa using ad
    have R:=run_append_room_string (P:=P) w 48 9 S 5 i Y l W r g bs.length cap o U s Q (by omega);rw[R]at a;cases a;refine⟨Bg w g _ _ o _ 5 (0,0) U λx f=>?_,.inl rfl⟩;have B:=h.2 g rfl o 5 (0,0) U;simp only[aM]at f;rcases f with(f|f)|f
    .exact B x (List.mem_of_mem_take f)
    .exact M x f
    .exact B x (List.mem_of_mem_drop f)
   .have N:∀j u,(bs.map b8)[j]?=some u->w.cell? ((⟨g,0,none⟩:Addr).add j)=some u:=h.1.cells (g:=g) rfl;have R:=run_append_grow_string (P:=P) w 48 9 S 5 i (.int .u8 0) Y l W hz ⟨g,0,none⟩ bs.length cap (bs.map b8) (by rw[r];simp) N s (by omega) (by omega) (by rw[C];exact growslice_fits (by omega) (by omega));rw[R]at a;cases a;have:=sx w (bs.map b8++strCells s) (grownCap w (bs.length+s.size) cap 5-(bs.length+s.size)) (bs.length+s.size) (grownCap w (bs.length+s.size) cap 5) (λx f=>by
     rcases aM.1 f with f|f
     .exact am x f
     .exact M x f)
    exact⟨by simpa using this,.inr rfl⟩
 exact⟨v',w',a,⟨Z,key.1⟩,Kp.jh h2 (λ_ e=>e),key.2⟩
end
end
section
open Go.Conc Go.Lib
def qu{P:Ad}{t:Af}(h:P.underlying t=some d):(cj P).underlying t=some d:=h
def qi{P:Ad}{t:Af}{d:TypeInfo}(h:P.info? t=some d):(cj P).info? t=some d:=h
def lL:(cj prog).underlying 48=some (.slice 5):=qu underlying48
def rC:(cj prog).underlying 9=some .string:=qu underlying9
def pW:(cj prog).underlying 5=some (.int .u8):=qu underlying5
def pU:∃i,(cj prog).info? 5=some i/\i.zero=some (.int .u8 0)/\i.size=1/\i.bytes=1:=by obtain⟨i,h,a,f,g⟩:=info_parts qP;exact⟨i,qi h,a,f,g⟩
def Ox (w:Z):(sizeOf 5).run (cj prog) w = .ok 1 w:=by obtain⟨i,h,_,a,_⟩:=pU;simp[sizeOf,typeInfo,h,a]
def OD{ρ:Ae->D}(h:ρ (.tmp 0) = .slice p n c)(w:Z):(execOp ρ (cp (some 1) (.call ⟨.builtin .cap,#[.tmp 0],#[48]⟩))).run (cj prog) w = .ok (.value (Y c)) w:=by simp[execOp,cp,resolve,invoke,builtin,Builtin.cap_,h,bK lL,goInt]
def OB{ρ:Ae->D}(h:ρ (.tmp 0) = .slice p n c)(h1:ρ (.tmp 1) = Y c)(w:Z):(execOp ρ (cp (some 2) (.slice 48 (.tmp 0) none (some (.tmp 1)) none))).run (cj prog) w = .ok (.value (.slice p c c)) w:=by simp[execOp,cp,h,h1,bK lL,Instr.sliceAt,Instr.slice,Instr.sliceBounds,Instr.sliceBound,asIntOf,Ox];cases p<;>simp[Addr.add]
def Il{l:List D}(h:∀x∈l,mi x):∃a:List Int,l=a.map (Value.int .u8):=by
 induction l with
 |nil=>exact⟨[],rfl⟩
 |cons x l g=>
  obtain⟨n,rfl⟩:=h x (by simp);obtain⟨a,rfl⟩:=g λy f=>h y (by simp[f])
  exact⟨n::a,rfl⟩
def OM{ρ:Ae->D}{cs:Ak}{l:Nat × Nat}(h:ρ (.tmp 2) = ag g c c)(w:Z)(r:w.heap[g]?=some (.cells cs 5 l))(o:cs.size=c)(hb:∀x∈cs.toList,mi x):∃y,(execOp ρ (cp (some 3) (.convert 48 9 (.tmp 2)))).run (cj prog) w = .ok (.value y) w:=by
 obtain⟨f,e⟩:=Il hb;have a:=run_loadCells_list (P:=cj prog) (w:=w) ⟨g,0,none⟩ cs.toList (λj v B=>by rw[addr_add];simp only[World.cell?,r,ao,Option.isSome_none,bg,if_false];rw[<- B,Array.getElem?_toList])
 rw[e,show(f.map (Value.int IntKind.u8)).length=c by rw[<- e,Array.length_toList,o]]at a;have C:=run_bytesToString (P:=cj prog) w ⟨g,0,none⟩ c c f a;exact⟨_,by simp[execOp,cp,h,convert,bK lL,bK rC,bK pW,C];rfl⟩
def ON {ρ:Ae->D}(h:ρ (.tmp 2) = ae)(w:Z):∃y,(execOp ρ (cp (some 3) (.convert 48 9 (.tmp 2)))).run (cj prog) w = .ok (.value y) w:=by simp[execOp,cp,h,convert,bK lL,bK rC,bK pW,Conv.bytesToString]
def iI{P:Ad}{ops:Am}{Q:Exit->Act->Z->Prop}{rest:List Oper}{o:Oper}{a:Act}{w w':Z}(g:o.guard=none)(j:(execOp a.eval o).run P w = .ok (.value y) w')(h:wpList P ops Q rest (a.put o.dst y) w'):wpList P ops Q (o::rest) a w:=by refine wpList_plain g λK f=>?_;unfold Oper.wp;rw[j];exact f _ _ h
def Rv{P:Ad}{ops:Am}{Q:Exit->Act->Z->Prop}{rest:List Oper}{o:Oper}{a:Act}{w:Z}(g:o.guard=none)(f:∃y,(execOp a.eval o).run P w = .ok (.value y) w)(h:∀y,wpList P ops Q rest (a.put o.dst y) w):wpList P ops Q (o::rest) a w:=by obtain⟨y,f⟩:=f;exact iI g f (h y)
def LB:lY (cj prog) 283 lB:=⟨yy,by kernel_rfl,rfl,rfl,rfl⟩
section
variable {Post:Exit->Act->Z->Prop}{a:Act}{w:Z}
def mD (h:∀w',An w w'->Post .normal a w'):(dC 283).wp (cj prog) Post a w:=by refine uu rfl rfl yy (by kernel_rfl) rfl (vs:=#[]) (by simp) ?_;refine(LI LB w).mono λe w' f=>?_;obtain⟨x,rfl,g⟩:=f;exact⟨x,rfl,h w' g⟩
def Dq{base:Nat}{v:D}{bs:Aj}(h:BA base w v bs):Calls (cj prog) 284 #[v] w λe w'=>∃x,e = .returned x/\w'=w:=by
 refine calls_of_wp vp rfl ?_;have go:∀p n c,v = .slice p n c->(∀f:Ae->D,f (.tmp 2) = .slice p c c->∃y,(execOp f (cp (some 3) (.convert 48 9 (.tmp 2)))).run (cj prog) w = .ok (.value y) w)->
   (uj 48 9).wp (cj prog) (bodyPost (cj prog) oQ λe w'=>∃x,e = .returned x/\w'=w) { tmps:=#[v]++Array.replicate (oQ.ntmps-(#[v]:Ak).size) undef,defers:=[] } w:=by
  rintro p n c rfl r;refine bF (iI rfl (OD (p:=p) (n:=n) (c:=c) rfl w) (iI rfl (OB (p:=p) (n:=n) (c:=c) rfl rfl w) (Rv rfl (r _ rfl) λy=>?_)));exact bG ⟨rfl,_,results_none rfl _ _ w,_,rfl,rfl⟩
 rcases h.1.2 with⟨rfl,_⟩|⟨g,cap,j,rfl,_,l,_,_,o,_⟩
 .exact go none 0 0 rfl λf a=>ON a w
 .exact go _ _ _ rfl λf a=>OM a w l (by omega) (h.2 g rfl j 5 (0,0) l)
end
end
section
open Go.Conc Go.Lib
def tQ:(cj prog).underlying 230=some (.int .u32):=qu underlying230
def zS:(cj prog).underlying 3=some (.int .i64):=qu underlying3
def rE{ρ:Ae->D}{o:Oper}{s d:Af}{x:Ae}{k k' j:IntKind}{n:Int}(a:o.op = .convert s d x)(g:(cj prog).underlying s=some (.int k))(f:(cj prog).underlying d=some (.int k'))(h:ρ x = .int j n)(w:Z):(execOp ρ (qo Iq o)).run (cj prog) w = .ok (.value (.int k' (k'.wrap n))) w:=by simp[execOp,qo,eU,a,h,convert,bK g,bK f,Conv.intToInt]
def zW{ρ:Ae->D}{o:Oper}{x:Ae}{t u:Af}{m:Nat}(a:o.op = .binOp .shr t x (.const (.int .u64 m)) u)(f:∀x,ρ (.const x)=x)(h:ρ x = .int .u32 n)(hm:m<=32)(w:Z):(execOp ρ (qo Iq o)).run (cj prog) w = .ok (.value (.int .u32 ((n / 2 ^ m:Nat):Int))) w:=by
 have g:¬((m:Int)<0):=by omega
 have hb:min m IntKind.u32.bits=m:=Nat.min_eq_left hm;simp[execOp,qo,eU,a,h,f,binOp,eqGuard,Op.shift,g,hb]
def zV{ρ:Ae->D}{o:Oper}{x:Ae}{y:Int}(f:o.op = .buildSlice 48 1 #[(0,x)])(l:ρ x = .int .u8 y)(w:Z):(execOp ρ (qo Iq o)).run (cj prog) w = .ok (.value (ag w.heap.size 1 1)) (w.alloc (.cells #[.int .u8 y] 5)):=by obtain⟨i,h,r,a,_⟩:=pU;have g:=Great.fill_flat [Value.int .u8 y] ((Array.range (1*1)).map ((Value.int .u8 0).cells[· % (Value.int .u8 0).cells.size]!)) (by simp[Value.cells]) (by simp);have j:=run_buildSlice (P:=cj prog) w 48 5 1 #[(0,.int .u8 y)] #[.int .u8 y] i (.int .u8 0) lL h r (by rw[a];decide) (by rw[a];decide) (by rw[a];exact g);simp[execOp,qo,eU,f,l,j]
def OC{ρ:Ae->D}{o:Oper}{x1 g h x4:Ae}{y1 y2 y3:Int}(a:o.op = .buildSlice 48 4 #[(0,x1),(1,g),(2,h),(3,x4)])(h1:ρ x1 = .int .u8 y1)(j:ρ g = .int .u8 y2)(l:ρ h = .int .u8 y3)(r:ρ x4 = .int .u8 b)(w:Z):(execOp ρ (qo Iq o)).run (cj prog) w = .ok (.value (ag w.heap.size 4 4)) (w.alloc (.cells #[.int .u8 y1,.int .u8 y2,.int .u8 y3,.int .u8 b] 5)):=by obtain⟨i,B,M,f,_⟩:=pU;have y:=Great.fill_flat [Value.int .u8 y1,.int .u8 y2,.int .u8 y3,.int .u8 b] ((Array.range (4*1)).map ((Value.int .u8 0).cells[· % (Value.int .u8 0).cells.size]!)) (by simp[Value.cells]) (by simp);have C:=run_buildSlice (P:=cj prog) w 48 5 4 #[(0,.int .u8 y1),(1,.int .u8 y2),(2,.int .u8 y3),(3,.int .u8 b)] #[.int .u8 y1,.int .u8 y2,.int .u8 y3,.int .u8 b] i (.int .u8 0) lL B M (by rw[f];decide) (by rw[f];decide) (by rw[f];exact y);simp[execOp,qo,eU,a,h1,j,l,r,C]
def OJ{ρ:Ae->D}{o:Oper}{x:Ae}{s:Ac}(a:o.op = .call ⟨.builtin .len,#[x],#[9]⟩)(f:ρ x = .string s)(w:Z):(execOp ρ (qo Iq o)).run (cj prog) w = .ok (.value (Y s.size)) w:=by simp[execOp,qo,eU,a,f,resolve,invoke,builtin,Builtin.len_,bK rC,goInt]
def EC{ρ:Ae->D}{o:Oper}{x y:Ae}{t:Af}(a:o.op = .call ⟨.builtin .append,#[x,y],#[48,t]⟩){v':D}{w w':Z}(f:(Builtin.append_ #[48,t] o.type #[ρ x,ρ y]).run (cj prog) w = .ok v' w'):(execOp ρ (qo Iq o)).run (cj prog) w = .ok (.value v') w':=by simp[execOp,qo,eU,a,resolve,invoke,builtin,f]
def ED{ρ:Ae->D}{o:Oper}{x:Ae}{t:Af}{c:Ak}(a:o.op = .box t x)(f:ρ x = .agg c)(w:Z):(execOp ρ (qo Iq o)).run (cj prog) w = .ok (.value (ab w.heap.size)) (w.alloc (.cells c t)):=by simp[execOp,qo,eU,a,f,Instr.box,newVar,newRow,Value.cells]
def zR : (cj prog).underlying 171 = some (.struct #[{ name := "Key",type := 9,offset := 0,embedded := false,tag := "",pkgPath := "",byteOffset := 0 },{ name := "Moment",type := 3,offset := 1,embedded := false,tag := "",pkgPath := "",byteOffset := 16 },{ name := "Version",type := 138,offset := 2,embedded := false,tag := "",pkgPath := "",byteOffset := 24 }]) := qu underlying171
def zQ : (cj prog).underlying 138 = some (.struct #[{ name := "Value",type := 9,offset := 0,embedded := false,tag := "",pkgPath := "",byteOffset := 0 },{ name := "Deleted",type := 4,offset := 1,embedded := false,tag := "",pkgPath := "",byteOffset := 16 }]) := qu underlying138
def Oy:(cj prog).underlying 4=some .bool:=qu underlying4
def ei{t:Af}(h:∀w,(sizeOf t).run prog w = .ok n w)(w:Z):(sizeOf t).run (cj prog) w = .ok n w:=wT (F:=dH prog) h w
def OG{ρ:Ae->D}{o:Oper}{x:Ae}(a:o.op = .fieldAddr 171 x 0)(f:ρ x = ab g)(w:Z):(execOp ρ (qo Iq o)).run (cj prog) w = .ok (.value (ab g)) w:=by simp[execOp,qo,eU,a,f,Instr.fieldAt,bK zR,Instr.sureAddr,fieldPlace,ei sizeOf9,Addr.add]
def OH{ρ:Ae->D}{o:Oper}{x:Ae}(a:o.op = .fieldAddr 171 x 1)(f:ρ x = ab g)(w:Z):(execOp ρ (qo Iq o)).run (cj prog) w = .ok (.value (.pointer (some ⟨g,1,none⟩))) w:=by simp[execOp,qo,eU,a,f,Instr.fieldAt,bK zR,Instr.sureAddr,fieldPlace,ei sizeOf3,Addr.add]
def OI{ρ:Ae->D}{o:Oper}{x:Ae}(a:o.op = .fieldAddr 171 x 2)(f:ρ x = ab g)(w:Z):(execOp ρ (qo Iq o)).run (cj prog) w = .ok (.value (.pointer (some ⟨g,2,none⟩))) w:=by simp[execOp,qo,eU,a,f,Instr.fieldAt,bK zR,Instr.sureAddr,fieldPlace,ei sizeOf138,Addr.add]
def OE{ρ:Ae->D}{o:Oper}{x:Ae}(a:o.op = .fieldAddr 138 x 0)(f:ρ x = ab g)(w:Z):(execOp ρ (qo Iq o)).run (cj prog) w = .ok (.value (ab g)) w:=by simp[execOp,qo,eU,a,f,Instr.fieldAt,bK zQ,Instr.sureAddr,fieldPlace,ei sizeOf9,Addr.add]
def OF{ρ:Ae->D}{o:Oper}{x:Ae}(a:o.op = .fieldAddr 138 x 1)(f:ρ x = ab g)(w:Z):(execOp ρ (qo Iq o)).run (cj prog) w = .ok (.value (.pointer (some ⟨g,1,none⟩))) w:=by simp[execOp,qo,eU,a,f,Instr.fieldAt,bK zQ,Instr.sureAddr,fieldPlace,ei sizeOf4,Addr.add]
def wJ{ρ:Ae->D}{o:Oper}{x:Ae}{t:Af}{p:Addr}(a:o.op = .load t x)(ht:(cj prog).underlying t=some d)(g:d = .string\/d = .bool\/∃k,d = .int k)(h:ρ x = .pointer (some p)){w:Z}(f:w.cell? p=some y):(execOp ρ (qo Iq o)).run (cj prog) w = .ok (.value y) w:=by rcases g with rfl|rfl|⟨k,rfl⟩<;>simp[execOp,qo,eU,a,h,Instr.loadAt,Instr.sureAddr,loadVar,isAgg,bK ht,load,Sem.run,f]
def OL{ρ:Ae->D}{o:Oper}{x:Ae}{k:Nat}{z:D}(f:o.op = .load 138 x)(l:ρ x = .pointer (some ⟨g,k,none⟩)){w:Z}(h0:w.cell? ⟨g,k,none⟩=some y)(h1:w.cell? ⟨g,k+1,none⟩=some z):(execOp ρ (qo Iq o)).run (cj prog) w = .ok (.value (.agg #[y,z])) w:=by
 have h:=run_loadCells_list (P:=cj prog) (w:=w) ⟨g,k,none⟩ [y,z] (λj v a=>by
  rw[addr_add]
  match j,a with
  |0,a=>cases a;exact h0
  |1,a=>cases a;exact h1
  |j+2,a=>simp at a)
 rw[show [y,z].length=2 from rfl]at h;simp[execOp,qo,eU,f,l,Instr.loadAt,Instr.sureAddr,loadVar,isAgg,bK zQ,ei sizeOf138,h]
end
section
open Go.Conc Go.Lib
abbrev bQ:=@wp_skip
def gR (I:Ins):List Oper->Code
 |[]=>.skip
 |o::r=>.seq (gA I o) (.seq (dC I.jf) (gR I r))
def C6 (I:Ins)(ops:Am):∀(l:List Oper) (k:Nat),(∀j o,l[j]?=some o->ops.getD (k+j) default=o)->mQ I ops (List.range' k l.length)=gR I l
 |[],_,_=>rfl
 |o::r,k,h=>by
  show Code.seq (gA I (ops.getD k default)) (.seq (dC I.jf) (mQ I ops (List.range' (k+1) r.length)))=_;rw[C6 I ops r (k+1) (λj x a=>by have:=h (j+1) x a;rwa [show k+(j+1)=k+1+j by omega]at this),show ops.getD k default=o from h 0 o rfl]
  rfl
def vL (I:Ins)(l:List Oper):mQ I l.toArray (List.range l.toArray.size)=gR I l:=by rw[List.range_eq_range',show l.toArray.size=l.length from ay];exact C6 I l.toArray l 0 λj o h=>by simp[aU,h]
def Loc (w:Z)(v v':D):Prop:=v'.ownBlock=v.ownBlock\/∃g,v'.ownBlock=some g/\w.heap.size<=g
def Loc.kp {w w1 l:Z}{v j:D}(h:Loc w v j)(a:Kp (λb=>j.ownBlock=some b) w1 l)(f:Kp (λb=>v.ownBlock=some b) w w1):Kp (λb=>v.ownBlock=some b) w l:=
 f.trans a λk a e=>by
  rcases h with h|⟨g,h,o⟩
  .rw[<- h];exact e
  .rw[h]at e;cases e;exact bx a (Nat.not_lt.2 o)
def Loc.trans {w w1:Z}{v f j:D}(h:Loc w v f)(h1:Loc w1 f j)(l:w.heap.size<=w1.heap.size):Loc w v j:=by
 rcases h1 with e|⟨g,e,a⟩
 .rcases h with h|⟨g,h,a⟩
  .exact .inl (e.trans h)
  .exact .inr ⟨g,e.trans h,a⟩
 .exact .inr ⟨g,e,aX l a⟩
section
variable {Post:Exit->Act->Z->Prop}{a:Act}{w:Z}{o:Oper}{r:List Oper}
def RI {y:D}{w1:Z}(f:iN o.op=none)(h:o.guard=none)(j:(execOp a.eval (qo Iq o)).run (cj prog) w = .ok (.value y) w1)
  (next:∀g,An w1 g->(gR Iq r).wp (cj prog) Post (a.put o.dst y) g):(gR Iq (o::r)).wp (cj prog) Post a w:=by
 unfold gR;refine bO ?_;unfold gA;rw[f];exact qh h j (bO (mD next))
def RD{f : Ag}{args : Array Ae}{ats : Array Af}{vs : Ak}(j : iN o.op = none)(M : o.guard = none)(l : (qo Iq o).op = .call { callee := .value (.func f),args,argTypes := ats })(D : (cj prog).funcs[f]? = some fn)(g : (fn.name == "runtime.NumGoroutine") = false)(hb : fn.body.isNone = false)(y : args.map a.eval = vs)
  (C:Calls (cj prog) f vs w λe w1=>∃x,e = .returned x/\∀B,An w1 B->(gR Iq r).wp (cj prog) Post (a.put o.dst x) B):(gR Iq (o::r)).wp (cj prog) Post a w:=by
 unfold gR;refine bO ?_;unfold gA;rw[j];refine uu M l D g hb y (C.mono λe w1 N=>?_);obtain⟨x,rfl,h⟩:=N;exact⟨x,rfl,bO (mD h)⟩
def Ry {s x:Ae}{t:Af}{base:Nat}{v:D}{bs:Aj}{v':D}{w1:Z}(j:o.guard=none)(f:o.op = .call ⟨.builtin .append,#[s,x],#[48,t]⟩)(C:a.eval s=v)(h:BA base w v bs)
  (B:(Builtin.append_ #[48,t] o.type #[a.eval s,a.eval x]).run (cj prog) w = .ok v' w1)
  (next:∀g,An w1 g->(gR Iq r).wp (cj prog) Post (a.put o.dst v') g):(gR Iq (o::r)).wp (cj prog) Post a w:=by
 unfold gR;refine bO ?_;unfold gA;rw[show iN o.op=some s by rw[f];rfl];refine bO (uu rfl rfl vp (by kernel_rfl) rfl (vs:=#[v]) (by simp[C]) ((Dq h).mono λe w1 l=>?_));obtain⟨y,rfl,rfl⟩:=l;exact⟨y,rfl,qh j (EC f B) (bO (mD next))⟩
end
def Kp.t {w w1 a:Z}(h:An w w1)(f:An w1 a):An w a:=h.trans f λ_ _ e=>e
structure bY (N:Nat)(a:Act)(e:Nat->D):Prop where
 d:a.defers=[]
 s:N<a.tmps.size
 v:∀t,t<N->a.tmps.getD t undef=e t
def upd (e:Nat->D)(d:Nat)(y:D):Nat->D:=λt=>if t=d then y else e t
def bY.put {N:Nat}{a:Act}{e:Nat->D}(h:bY N a e){d:Nat}(f:d<N)(y:D):bY N (a.put (some d) y) (upd e d y):=by
 refine⟨h.d,by simpa [Act.put]using h.s,λt ht=>?_⟩;simp only[Act.put,aU,Array.getElem?_setIfInBounds,upd]
 by_cases e1:d=t
 .subst e1;simp[Nat.lt_trans f h.s]
 .rw[if_neg e1,if_neg (λx=>e1 x.symm),<- aU];exact h.v t ht
def bY.bit {N:Nat}{a:Act}{e:Nat->D}(h:bY N a e)(y:D):bY N (a.put (some N) y) e:=by refine⟨h.d,by simpa [Act.put]using h.s,λt ht=>?_⟩;simp only[Act.put,aU];rw[aS (by omega),<- aU];exact h.v t ht
def bY.eval {N:Nat}{a:Act}{e:Nat->D}(h:bY N a e){t:Nat}(ht:t<N):a.eval (.tmp t)=e t:=h.v t ht
def bY.e {N:Nat}{a:Act}{e:Nat->D}(h:bY N a e){t:Nat}(ht:t<N:=by decide):a.eval (.tmp t)=e t:=h.v t ht
def bY.start {vs:Ak}{n N:Nat}(a:N<vs.size+n):bY N ⟨vs++Array.replicate n undef,[]⟩ (λt=>vs.getD t undef):=by
 refine⟨rfl,by simpa using a,λt ht=>?_⟩;simp only[aU]
 by_cases h:t<vs.size
 .rw[Array.getElem?_append_left h]
 .rw[Array.getElem?_append_right (by omega),Array.getElem?_eq_none (xs:=vs) (by omega),Array.getElem?_replicate];split<;>rfl
def cW{P:Ad}{f:Ag}{c:Code}{vs:Ak}{w:Z}{R:Al}{N:Nat}(g:P.funcs[f]?=some fn)(hb:fn.body=some c)(h:fn.ntmps=N+1)
  (next:∀a,bY N a (λt=>vs.getD t undef)->c.wp P (bodyPost P fn R) a w):Calls P f vs w R:=
 calls_of_wp g hb (by rw[h];exact next _ (bY.start (by omega)))
def fL {ρ:Ae->D}{o:Oper}{x:Ae}{y:D}(a:o.op = .move x\/o.op = .assign x)(f:ρ x=y)(w:Z):(execOp ρ (qo Iq o)).run (cj prog) w = .ok (.value y) w:=by rcases a with a|a<;>simp[execOp,qo,eU,a,f]
section
variable {Post:Exit->Act->Z->Prop}{a:Act}{w:Z}{o:Oper}{r:List Oper}{N:Nat}{e:Nat->D}
def RH {d:Nat}{y:D}{w1:Z}(h:bY N a e)(j:iN o.op=none)(B:o.guard=none)(f:o.dst=some d)(l:d<N)(C:(execOp a.eval (qo Iq o)).run (cj prog) w = .ok (.value y) w1)
  (next:∀a' g,bY N a' (upd e d y)->An w1 g->(gR Iq r).wp (cj prog) Post a' g):(gR Iq (o::r)).wp (cj prog) Post a w:=
 RI j B C λg k=>next _ g (by rw[f];exact h.put l y) k
def dL {d:Nat}{y:D}{w1:Z}(h:bY N a e)(C:(execOp a.eval (qo Iq o)).run (cj prog) w = .ok (.value y) w1)
  (next:∀a' j,bY N a' (upd e d y)->An w1 j->(gR Iq r).wp (cj prog) Post a' j) (g:iN o.op=none:=by rfl) (B:o.guard=none:=by rfl) (f:o.dst=some d:=by rfl) (l:d<N:=by decide):(gR Iq (o::r)).wp (cj prog) Post a w:=RH h g B f l C next
def AU{d : Nat}{f : Ag}{args : Array Ae}{ats : Array Af}{vs : Ak}(h : bY N a e)(B : iN o.op = none)(R : o.guard = none)(j : o.dst = some d)(P : d < N)(C : (qo Iq o).op = .call { callee := .value (.func f),args,argTypes := ats })(Q : (cj prog).funcs[f]? = some fn)(g : (fn.name == "runtime.NumGoroutine") = false)(hb : fn.body.isNone = false)(D : args.map a.eval = vs)
  (M:Calls (cj prog) f vs w λx w1=>∃y,x = .returned y/\∀a' l,bY N a' (upd e d y)->An w1 l->(gR Iq r).wp (cj prog) Post a' l):(gR Iq (o::r)).wp (cj prog) Post a w:=
 RD B R C Q g hb D (M.mono λx w1 S=>by obtain⟨y,rfl,U⟩:=S;exact⟨y,rfl,λl k=>U _ l (by rw[j];exact h.put P y) k⟩)
def xu {d:Nat}{s x:Ae}{t:Af}{base:Nat}{v:D}{bs:Aj}{v':D}{w1:Z}(h:bY N a e)(B:o.guard=none)(f:o.dst=some d)(y:d<N)(j:o.op = .call ⟨.builtin .append,#[s,x],#[48,t]⟩)(M:a.eval s=v)(l:BA base w v bs)
  (C:(Builtin.append_ #[48,t] o.type #[a.eval s,a.eval x]).run (cj prog) w = .ok v' w1)
  (next:∀a' g,bY N a' (upd e d v')->An w1 g->(gR Iq r).wp (cj prog) Post a' g):(gR Iq (o::r)).wp (cj prog) Post a w:=
 Ry B j M l C λg k=>next _ g (by rw[f];exact h.put y v') k
end
def On {base:Nat}{v:D}{bs:Aj}{n:Nat}{w:Z}(h:BA base w v bs)(hl:bs.length+4<=1000000000)(hb:base<=w.heap.size):Calls (cj prog) 287 #[v,.int .u32 n] w λe w'=>∃v',e = .returned v'/\BA base w' v' (bs++cP n)/\Kp (λb=>v.ownBlock=some b) w w'/\Loc w v v':=by
 refine calls_of_wp yA rfl ?_;simp only[fi,ntmps140];have s0:bY 19 ⟨#[v,Value.int .u32 n]++Array.replicate (19+1-(#[v,Value.int .u32 n]:Ak).size) undef,[]⟩ _:=bY.start (by simp);generalize (Act.mk (#[v,Value.int .u32 n]++Array.replicate (19+1-(#[v,Value.int .u32 n]:Ak).size) undef) []:Act)=a0 at s0 ⊢;refine bO (mD λw0 k0=>?_);simp only[f140,aC,gy,vL];refine bO (dL s0 (fL (y:=ae) (.inr rfl) rfl w0) λa1 w1 s1 k1=>bQ ?_);refine bO ?_;refine dL s1 (fL (y:=v) (.inl rfl) s1.e w1) λa2 w2 s2 k2=>?_;refine dL s2 (fL (y:=.int .u32 n) (.inl rfl) s2.e w2) λa3 w3 s3 k3=>?_;refine dL s3 (rE rfl tQ pW (n:=n) s3.e w3) λa4 w4 s4 k4=>?_;refine dL s4 (fL (y:=.int .u32 n) (.inl rfl) s4.e w4) λa5 w5 s5 k5=>?_;refine dL s5 (zW (m:=8) rfl (λ_=>rfl) (n:=n) s5.e (by decide) w5) λa6 w6 s6 k6=>?_;refine dL s6 (rE rfl tQ pW (n:=(n / 2 ^ 8:Nat)) s6.e w6) λa7 w7 s7 k7=>?_;refine dL s7 (fL (y:=.int .u32 n) (.inl rfl) s7.e w7) λa8 w8 s8 k8=>?_;refine dL s8 (zW (m:=16) rfl (λ_=>rfl) (n:=n) s8.e (by decide) w8) λa9 w9 s9 k9=>?_;refine dL s9 (rE rfl tQ pW (n:=(n / 2 ^ 16:Nat)) s9.e w9) λbv bl N ba=>?_;refine dL N (fL (y:=.int .u32 n) (.inl rfl) N.e bl) λbw bm Q bb=>?_;refine dL Q (zW (m:=24) rfl (λ_=>rfl) (n:=n) Q.e (by decide) bm) λbA bp R be=>?_;refine dL R (rE rfl tQ pW (n:=(n / 2 ^ 24:Nat)) R.e bp) λbB a j bf=>?_;refine dL j (OC rfl j.e j.e j.e j.e a) λbS W l f=>?_;have kk:An w a:=k0.t (k1.t (k2.t (k3.t (k4.t (k5.t (k6.t (k7.t (k8.t (k9.t (ba.t (bb.t (be.t bf))))))))))));have hA:BA base W v bs:=(h.kept kk).kept ((Kp.al _ _ _).t f);have B:=((mK a #[.int .u8 (IntKind.u8.wrap (n:Int)),.int .u8 (IntKind.u8.wrap ((n / 2 ^ 8:Nat):Int)),.int .u8 (IntKind.u8.wrap ((n / 2 ^ 16:Nat):Int)),.int .u8 (IntKind.u8.wrap ((n / 2 ^ 24:Nat):Int))] (cP n) (by rw[vA];simp[IntKind.wrap_u8]) (by rw[eG];omega)).kept f).rd.form (by simp[cP])
 obtain⟨g,o,cap,e,hc⟩:=B;rw[eG]at e;cases e;have an:base<=W.heap.size:=aX hb (aX kk.size ((Kp.al (λ_=>False) a _).t f).size);obtain⟨i,hi,hz,h1,h2⟩:=pU;obtain⟨v',b6,hr,ad,am,r⟩:=oc (P:=cj prog) lL hi hz h1 h2 48 hA ⟨a.heap.size,0,none⟩ 4 (cP n) hc (by rw[eG];omega) an;rw[eG]at hr;refine xu l rfl rfl (by decide) rfl (v:=v) l.e hA (by rw[l.eval (by decide),l.eval (by decide)];exact hr) λb3 bq S C=>?_;refine dL S (fL (y:=v') (.inr rfl) S.e bq) λb5 Y U M=>bQ ?_;have kq:Kp (λb=>v.ownBlock=some b) w Y:=((kk.t ((Kp.al _ _ _).t f)).mono (λ_ _ e=>e.elim)).trans (am.trans (C.t M) λ_ _ e=>e.elim) λ_ _ e=>e
 refine wp_ret ⟨U.d,v',?_,v',rfl,?_,kq,?_⟩
 .rw[fo rfl];exact congrArg (λx=>Result.ok x Y) (U.v 4 (by decide))
 .exact ad.kept (C.t M)
 .rcases r with e|e
  .exact .inl e
  .exact .inr ⟨_,e,aX kk.size ((Kp.al (λ_=>False) a _).t f).size⟩
end
end Go.Proofs.YthbdpfccfcceiaaGreatDoor
