/-
  Of hurt_card.
-/
import Derived.Test.YthbdpfccfcceiaaGreatDoorZE9x
import Derived.Test.YthbdpfccfcceiaaGreatDoorChecked
import Derived.Conc.CompanyMem
import Derived.Conc.AppendWalk
import Derived.Conc.SmallLaws
import Derived.RowKit
set_option linter.all false
namespace Go.Proofs.YthbdpfccfcceiaaGreatDoor
set_option maxRecDepth 100000
set_option maxHeartbeats 1000000
open Go.Proofs.Tryz
variable {bs:Option Addr}{ea:Addr}{f:Field}{j:Nat}
section
open Go.Conc
section
variable (P:Ad)(M:dI)(K:Nat)
def take:Array CommCase:=#[rcase M.cS M.zv]
def nQ (f:Ag)(A:D->Ah->Z->Prop)(to e:D)(g:Ah)(_:Z):Prop:=
 ∃(b:Ai) (a:Act) (ops:Am) (i:Nat) (o:Oper) (rest:List Nat) (k:List Item) (cs:List Ai) (args:Array Ae) (h:Array Af),
  g=G (b.at a (.inRegion ops (i::rest)::k)) cs/\ops[i]?=some o/\o.guard=none/\b.kind≠.early/\o.op = .call { callee:=.value (.func f),args,argTypes:=h }/\args.map a.eval=#[to,e]/\args.size=2/\
  ∀val j,M.Ks j->Goes P true (Rs M) (Ds M) (A val) K (G (b.at (a.put o.dst val) (.inRegion ops rest::k)) cs) j
def px (N:Ah->Z->Prop)(g:Ah)(w:Z):Prop:=
 g.status = .running/\∃a,stepG P true g w = .go a (cy w M.zO) #[]/\Goes P true (Rz M w.heap.size) (Dz M w.heap.size) N K a (cy w M.zO)
def uK (V:Prop)(A:Ah->Z->Prop)(B:Ah->Z->Prop)(e:D)(g:Ah)(_:Z):Prop:=
 g.status = .running/\g.offers=none/\(∀a,stepG P true g a = .comm g (take M) true (.recv true) a #[])/\
  (V->∀a,M.Ks a->Goes P true (Rs M) (Ds M) (px P M K A) K (g.finishComm P (take M) (.recv true) 0 e true) a)/\
  ∀a,M.Ks a->Goes P true (Rs M) (Ds M) (px P M K B) K (g.finishComm P (take M) (.recv true) 0 M.zv false) a
def RStop (f:Ag)(cn:Int)(Fin:D->Nat->Ah->Z->Prop):Nat->D->Ah->Z->Prop
 |0,to=>λg w=>if((M.n:Nat):Int)<cn then uK P M K False (λ_ _=>False) (Fin to M.n) undef g w else Fin to M.n g w
 |r+1,to=>λg w=>if((M.n-(r+1):Nat):Int)<cn then uK P M K True (nQ P M K f (λval=>RStop f cn Fin r val) to (M.E (M.n-(r+1)))) (Fin to (M.n-(r+1))) (M.E (M.n-(r+1))) g w else Fin to (M.n-(r+1)) g w
end
section
variable {P:Ad}{M:dI}{t:Af}{z:Ak}{o:Oper}{w:Z}{n i K:Nat}{b:Ai}{a:Act}{k:List Item}{cs:List Ai}{ops:Am}{rest:List Nat}
def zX {N:Ah->Z->Prop}(g:nJ P t z)(r:ops[i]?=some o)(j:o.guard=none)(l:b.kind≠.early)(f:o.op = .alloc t)(y:M.zO = .cells z t)
  (h:Goes P true (Rz M w.heap.size) (Dz M w.heap.size) N K (G (b.at (a.put o.dst (ab w.heap.size)) (.inRegion ops rest::k)) cs) (cy w M.zO)):px P M K N (G (b.at a (.inRegion ops (i::rest)::k)) cs) w:=by
 refine⟨rfl,_,?_,h⟩;rw[y];exact FB r j l (Ch g f)
def AH (v:D)(ok:Bool):commResult (take M) (.recv true) 0 v ok = .tuple #[v,.bool ok]:=rfl
end
end
section
open Go.Conc Go.RowKit
def iZ (fn:Func):Code:=match fn.body.getD .skip with
 |.seq _ (.seq _ (.block _ (.loop c)))=>c
 |_=>.skip
def z171:Ak:=#[.string ⟨#[]⟩,Y 0,.string ⟨#[]⟩,.bool false]
def lx:nJ prog 171 z171:=by
 refine⟨λw a=>?_,λw a=>?_,λw a=>?_⟩
 .simp[go_sem]
 .simp[go_sem]
 .simp[go_sem,z171]
structure pd (M:dI)(ea:Addr)(V:Nat->Ak):Prop where
 val:∀j,j<M.n->M.E j = .agg (V j)/\(V j).size=4
 one:∀j,j<M.n->∀v∈V j,v.oneCell'=true
 cells:∀w,M.Ks w->∀j,j<M.n->∀i,i<4->w.cell? ((ea.add (j*4)).add i)=some ((V j).getD i undef)
 rd:∀j,j<M.n->∀i,i<4->M.Rd (.cell ((ea.add (j*4)).add i))
 zv:M.zv = .agg z171
 zd:M.zd = .agg #[]
 zO:M.zO = .cells z171 171
 up:∀w w',M.Ks w->(∀k,k<w.heap.size->w'.heap[k]?=w.heap[k]?)->M.Ks w'
 lo:∀w,M.Ks w->M.lo<=w.heap.size
 kL:∀w w' z,M.Ks w->M.lo<=z->jV z w w'->M.Ks w'
def gX (M:dI):Deferred:=⟨.builtin .close #[344] 0 #[false],#[.chan (some M.cS)]⟩
def PF{M:dI}(bl:bs=some ea){cap:Nat}{V:Nat->Ak}(B:pd M ea V)(hn:M.n<2 ^ 40)(K r:Nat)(hr:r<M.n)(cs:List Ai)
  (ih:∀(x3 x4 x5 x6 x7 x12 W ad am an a0 a1 a3 a4 a7 a8:D) (w:Z),M.Ks w->Goes prog false (Rs M) (Ds M) (jW prog M K r) (K-40) (G ((base 185).at ⟨#[.chan (some M.cS),.slice bs M.n cap,.chan (some M.cD),x3,x4,x5,x6,x7,.chan (some M.cS),.slice bs M.n cap,Y M.n,Y ((M.n-r:Nat):Int),x12,W,ad,am,an,a0,a1,a3,a4,a7,a8],[gX M]⟩ [.code (iZ f185),.inLoop (iZ f185),.inBlock 0]) cs) w)
  (bm:∀(a:Act) (k:List Item) (w:Z),a.defers=[gX M]->M.Ks w->Goes prog false (Rs M) (Ds M) (mF prog M K) (K-20) (G { (base 185).at a k with mode:=.returning } cs) w) (hK:60<=K)
  (x3 x4 x5 x6 x7 x12 W ad am an a0 a1 a3 a4 a7 a8:D) (w:Z) (hF:M.Ks w) :
  Goes prog false (Rs M) (Ds M) (jW prog M K (r+1)) 20 (G ((base 185).at ⟨#[.chan (some M.cS),.slice bs M.n cap,.chan (some M.cD),x3,x4,x5,x6,x7,.chan (some M.cS),.slice bs M.n cap,Y M.n,Y ((M.n-(r+1):Nat):Int),x12,W,ad,am,an,a0,a1,a3,a4,a7,a8],[gX M]⟩ [.code (iZ f185),.inLoop (iZ f185),.inBlock 0]) cs) w:=by
 subst bl;have hb:(iZ f185)=(iZ f185):=rfl
 conv at hb=>rhs;simp only[iZ,f185,aC]
 have T:=kh M;have hi:M.n-(r+1)<M.n:=by omega
 have bp:M.n-r=M.n-(r+1)+1:=by omega
 obtain⟨bf,P⟩:=B.val _ hi;have be:=B.rd _ hi;have ba:=λw h=>B.cells w h _ hi
 have bb:=B.one _ hi;rw[bp]at ih;generalize bq:M.n-(r+1)=i at *;rw[hb];refine dX T ?_;refine eI T ?_;refine dx T (.bool true) rfl rfl (base_kind _) (λw=>by go_simp) (λw=>by simp[go_sem]) ?_;refine eB T ?_
 walk_nrm
 refine dX T ?_;refine kT T true rfl ?_;refine te T ?_;refine dX T ?_;refine pF T ?_;refine dX T ?_;refine eI T ?_;simp only[ay,ai,ax,Nat.reduceAdd,ao,List.range,List.range.loop];refine dx T (.pointer (some (ea.add (i*4)))) rfl rfl (base_kind _) (λw=>by go_simp) (λw=>by simp[go_sem,hi]) ?_
 walk_nrm
 refine yO lx rfl rfl (base_kind _) rfl rfl P (λC g=>ba C (g hF)) (λC a9 _ h=>⟨rfl,λe he=>?_⟩) (λC g=>?_)
 .obtain⟨j,hj,e⟩:=h e he;exact⟨_,e,be j hj⟩
 replace hF:=g hF
 clear g ba be
 walk_nrm
 refine Goes.stop λf Q=>?_
 replace hF:=Q hF
 clear Q;refine Ji lx rfl rfl (base_kind _) rfl B.zO ?_
 walk_nrm
 refine Goes.mono (n:=30) ?_ (by omega)
 replace T:=p9 M f.heap.size
 have hz:(cy f M.zO).heap[f.heap.size]?=some (.cells z171 171 (0,0)):=by rw[B.zO];simp only[cy];rw[aq,if_pos rfl]
 have bv:=B.lo _ hF;have y:M.Ks (cy f M.zO):=B.up _ _ hF λk hk=>by simp only[cy];rw[aq,if_neg (by omega)]
 generalize cy f M.zO=wp at *;generalize f.heap.size=z at *;refine vD lx rfl rfl (base_kind _) rfl rfl rfl P bb (λR l=>l.2.trans hz) rfl (λR U a9 _ h h'=>⟨h,λe he=>.inr (h' e he)⟩) (λR U l e2 e3=>?_)
 replace y:M.Ks U:=B.kL _ _ z (l.1 y) bv e2
 clear e2 l hz
 walk_nrm
 refine eB T ?_;refine dX T ?_;refine dX T ?_;refine dX T ?_;refine eI T ?_;refine dx T (.chan (some M.cS)) rfl rfl (base_kind _) (λw=>by go_simp) (λw=>by simp[go_sem]) ?_
 walk_nrm
 refine eB T ?_;refine eI T ?_;refine yO lx rfl rfl (base_kind _) rfl rfl P (λN o=>cells_of_row (o.2.trans e3) P) (λN a9 _ h=>⟨.refl z N,λe he=>.inr ?_⟩) (λN o=>?_)
 .obtain⟨j,hj,e⟩:=h e he;refine⟨_,_,e,?_⟩;unfold Addr.add;split<;>rfl
 replace y:=o.1 y
 clear o e3
 walk_nrm
 refine eB T ?_;refine eI T ?_;refine dx T (.chan (some M.cD)) rfl rfl (base_kind _) (λw=>by go_simp) (λw=>by simp[go_sem]) ?_
 walk_nrm
 refine eB T ?_;refine dX T ?_;refine eI T ?_;simp only[ay,ai,ax,Nat.reduceAdd,ao,List.range,List.range.loop];refine Goes.stop λbA bw=>?_;unfold rS;rw[bq];refine⟨rfl,rfl,λU=>AA rfl rfl (base_kind _) ?_,λU S=>?_,λU S=>?_⟩
 .rw[Sem.runT_eq];refine Prod.ext ?_ ?_
  .dsimp only
   go_simp
   simp[jS,sr,scase,rcase,B.zv,B.zd,bf,z171]
  .simp[go_sem]
 .rw[sU rfl,MY]
  walk_nrm
  clear y T;have T:=kh M;refine Goes.mono (n:=(K-40)+20) ?_ (by omega);refine dx T (Y 0) rfl rfl (base_kind _) (λw=>by go_simp) (λw=>by simp[go_sem]) ?_
  walk_nrm
  refine dx T (.bool true) rfl rfl (base_kind _) (λw=>by go_simp) (λw=>by simp[go_sem]) ?_
  walk_nrm
  refine dx T (.bool false) rfl rfl (base_kind _) (λw=>by go_simp) (λw=>by simp[go_sem]) ?_
  walk_nrm
  refine eB T ?_;refine pF T ?_;refine kT T true rfl ?_;refine te T ?_;refine yN T ?_;refine yN T ?_;refine eI T ?_;refine dx T (Y ((i+1:Nat):Int)) rfl rfl (base_kind _) (λw=>by go_simp;rw[IntKind.wrap_i64];omega) (λw=>by simp[go_sem]) ?_
  walk_nrm
  refine dx T (Y ((i+1:Nat):Int)) rfl rfl (base_kind _) (λw=>by go_simp) (λw=>by simp[go_sem]) ?_
  walk_nrm
  refine eB T ?_;refine CN T ?_;have:=ih x3 x4 x5 x6 (ab z) (.bool true) (.pointer (some (ea.add (i*4)))) (.agg (V i)) (.chan (some M.cS)) (.agg (V i)) (.chan (some M.cD)) (.tuple #[Y 0,.bool false,M.zd]) (Y 0) (.bool true) (.bool false) (Y ((i+1:Nat):Int)) U S;rw[hb]at this;exact this.mono (by omega)
 .rw[sU rfl,MX]
  walk_nrm
  clear y T;have T:=kh M;refine Goes.mono (n:=(K-20)+9) ?_ (by omega);refine dx T (Y 1) rfl rfl (base_kind _) (λw=>by go_simp) (λw=>by simp[go_sem]) ?_
  walk_nrm
  refine dx T (.bool false) rfl rfl (base_kind _) (λw=>by go_simp) (λw=>by simp[go_sem]) ?_
  walk_nrm
  refine dx T (.bool true) rfl rfl (base_kind _) (λw=>by go_simp) (λw=>by simp[go_sem]) ?_
  walk_nrm
  refine eB T ?_;refine pF T ?_;refine kT T false rfl ?_;refine kT T true rfl ?_;refine CP T ?_;exact(bm _ _ U rfl S).mono (by omega)
def Fh {M:dI}{ea:Addr}{bs:Option Addr}(Q:0<M.n->bs=some ea){cap:Nat}{V:Nat->Ak}(S:pd M ea V)(U:M.n<2 ^ 40)(K:Nat)(cs:List Ai)
  (P:∀(a:Act) (k:List Item) (w:Z),a.defers=[gX M]->M.Ks w->Goes prog false (Rs M) (Ds M) (mF prog M K) (K-60) (G { (base 185).at a k with mode:=.returning } cs) w) (hK:80<=K) :
  ∀(r:Nat) (_:r<=M.n) (R x4 x5 x6 x7 x12 f g h j l o y B C N:D) (w:Z),M.Ks w->Goes prog false (Rs M) (Ds M) (jW prog M K r) (K-40) (G ((base 185).at ⟨#[.chan (some M.cS),.slice bs M.n cap,.chan (some M.cD),R,x4,x5,x6,x7,.chan (some M.cS),.slice bs M.n cap,Y M.n,Y ((M.n-r:Nat):Int),x12,f,g,h,j,l,o,y,B,C,N],[gX M]⟩ [.code (iZ f185),.inLoop (iZ f185),.inBlock 0]) cs) w
 |0,_,R,x4,x5,x6,x7,x12,f,g,h,j,l,o,y,B,C,N,w,hF=>by
  have hb:(iZ f185)=(iZ f185):=rfl
  conv at hb=>rhs;simp only[iZ,f185,aC]
  have T:=kh M;rw[hb];simp only[Nat.sub_zero];refine Goes.mono (n:=(K-60)+9) ?_ (by omega);refine dX T ?_;refine eI T ?_;refine dx T (.bool false) rfl rfl (base_kind _) (λw=>by go_simp) (λw=>by simp[go_sem]) ?_
  walk_nrm
  refine eB T ?_;refine dX T ?_;refine kT T false rfl ?_;refine td T [] rfl ?_;refine CM T ?_;exact(P _ _ w rfl hF).mono (by omega)
 |r+1,hr,R,x4,x5,x6,x7,x12,f,g,h,j,l,o,y,B,C,N,w,hF=>(PF (Q (by omega)) S U K r (by omega) cs (Fh Q S U K cs P hK r (by omega)) (λa k w W h2=>(P a k w W h2).mono (by omega)) (by omega) R x4 x5 x6 x7 x12 f g h j l o y B C N w hF).mono (by omega)
def Qi{P:Ad}{M:dI}{main:Bool}{b:Ai}{a:Act}{todo:List Item}{cs:List Ai}{w:Z}{s r:Nat}{ds:List Deferred}(l:a.defers=gX M::ds)(f:w.heap[M.cS]?=some (.chan 0 #[] false s r false)) :
  ∃es,stepG P main (G { b.at a todo with mode:=.returning } cs) w = .go (G { b.at ⟨a.tmps,ds⟩ todo with mode:=.returning } cs) (w.setChan M.cS 0 #[] true s r false) es/\∀e∈es,e.loc = .obj M.cS/\e.sync=true:=by
 have g:=run_close_open (P:=P) (w:=w) #[344] 0 f;have j:=events_close_open (P:=P) (w:=w) (es:=#[]) #[344] 0 f;have B:(invoke (gX M).target (gX M).args).runT P w #[]=(.ok (.value (.tuple #[])) (w.setChan M.cS 0 #[] true s r false),#[⟨.obj M.cS,false,true⟩,⟨.obj M.cS,true,true⟩]):=by
  show(Builtin.close_ #[344] 0 #[.chan (some M.cS)] >>= λy=>(pure (Next.value y):Sem Next)).runT P w #[]=_;rw[eN (a:=.tuple #[]) (w':=w.setChan M.cS 0 #[] true s r false) (es':=#[⟨.obj M.cS,false,true⟩,⟨.obj M.cS,true,true⟩])]
  .rfl
  .rw[Sem.runT_eq,g,j];rfl
 refine⟨seen P b.fn #[⟨.obj M.cS,false,true⟩,⟨.obj M.cS,true,true⟩],?_,λe o=>?_⟩
 .have ht:∀r,(gX M).target≠.collected r:=λr h=>by cases h
  simp only[G,stepG,unwind,Frame.at,l];show callDeferred P _ cs none (gX M) w=_;unfold callDeferred;rw[B];simp[gX,GStep.after]
 .have:=mem_seen o;simp only[aL,bE,List.not_mem_nil,or_false]at this;rcases this with rfl|rfl<;>exact⟨rfl,rfl⟩
end
section
open Go.Conc Go.RowKit
section
variable {F:Array Func}{ρ:Ae->D}{o:Oper}{x y:Ae}{v v':Z}{nx:Next}
def wT{P:Ad}{t:Af}{n:Nat}(h:∀w,(sizeOf t).run P w = .ok n w)(w:Z):(sizeOf t).run (imag P F) w = .ok n w:=by
 have h:=h w;have e1 : (sizeOf t).run P w = (match P.info? t with | some i => Result.ok i.size w | none => .halt (.stuck "no such type") w) := by
  show((match P.info? t with | some i => (pure i : Sem TypeInfo) | none => Go.stuck "no such type") >>= fun i => (pure i.size : Sem Nat)).run P w = _
  cases P.info? t<;>rfl
 have e2 : (sizeOf t).run (imag P F) w = (match P.info? t with | some i => Result.ok i.size w | none => .halt (.stuck "no such type") w) := by
  show((match P.info? t with | some i => (pure i : Sem TypeInfo) | none => Go.stuck "no such type") >>= fun i => (pure i.size : Sem Nat)).run (imag P F) w = _
  cases P.info? t<;>rfl
 rw[e2,<- e1];exact h
def pI{P:Ad}{t:Af}{b:Bool}(h:∀w,(isAgg t).run P w = .ok b w)(w:Z):(isAgg t).run (imag P F) w = .ok b w:=by
 have h:=h w;have e : ∀ Q : Ad,(isAgg t).run Q w = (match Q.underlying t with | some d => (match d with | .struct _ | .array .. => (pure true : Sem Bool) | _ => pure false).run Q w | none => .halt (.stuck "no such type") w) := by
  intro Q;unfold isAgg;rw[Sem.run_bind];cases a:Q.underlying t with
  |none=>
   have : (Go.underlying t).run Q w = .halt (.stuck "no such type") w := by
    show(match Q.underlying t with | some d => (pure d : Sem TypeDesc) | none => Go.stuck "no such type").run Q w = _
    rw[a];rfl
   rw[this];rfl
  |some d=>rw[tY a w];cases d<;>rfl
 rw[e]at h ⊢;show(match P.underlying t with|some d=>_|none=>_)=_;cases a:P.underlying t with
 |none=>rw[a]at h;cases h
 |some d=>rw[a]at h;cases d<;>exact h
def Br{P:Ad}{b:Builtin}{s:Ak->Sem D}{ats:Array Af}(a:o.op = .call ⟨.builtin b,#[x],ats⟩)(f:∀args,Go.builtin b ats o.type (#[x].map fun | .const _=>true|_=>false) args=(s args >>= λy=>(pure (Next.value y):Sem Next)))(w:Z):(execOp ρ o).run P w=(s #[ρ x] >>= λy=>(pure (Next.value y):Sem Next)).run P w:=by
 have:(execOp ρ o)=Go.builtin b ats o.type (#[x].map fun | .const _=>true|_=>false) ((#[x]:Array Ae).map ρ):=by
  unfold execOp;rw[a]
  rfl
 rw[this,f,show(#[x]:Array Ae).map ρ=#[ρ x] by simp]
def um{P:Ad}{t:Af}{d:TypeDesc}(h:P.underlying t=some d)(w:Z):(Go.underlying t).run (imag P F) w = .ok d w:=tY (Q:=imag P F) h w
def Nb (a:o.op = .call ⟨.builtin .len,#[x],#[159]⟩)(h:(execOp ρ o).run (imag prog F) v = .ok nx v'):∃b n c,ρ x = .slice b n c/\∀w,(execOp ρ o).run (imag prog F) w = .ok (.value (Y n)) w:=by
 have e:=λw=>Br (P:=imag prog F) (ρ:=ρ) (s:=Builtin.len_ #[159] o.type) a (λ_=>rfl) w
 have f:∀w,(Go.underlying 159).run (imag prog F) w = .ok (.slice 171) w:=um underlying159;rw[e,Sem.run_bind]at h;unfold Builtin.len_ at h;simp only[List.getElem?_toArray,List.getElem?_cons_zero]at h;rw[Sem.run_bind,f]at h;dsimp only[Result.andThen]at h;cases g:ρ x<;>rw[g]at h<;>first | (cases h;done)|skip
 rename_i b n c
 refine⟨b,n,c,rfl,λw=>?_⟩;rw[e,g,Sem.run_bind];unfold Builtin.len_;simp only[List.getElem?_toArray,List.getElem?_cons_zero];rw[Sem.run_bind,f]
 rfl
def DX (a:o.op = .call ⟨.builtin .len,#[x],#[9]⟩)(h:(execOp ρ o).run (imag prog F) v = .ok nx v'):∃s,ρ x = .string s/\∃y,∀w,(execOp ρ o).run (imag prog F) w = .ok (.value y) w:=by
 have e:=λw=>Br (P:=imag prog F) (ρ:=ρ) (s:=Builtin.len_ #[9] o.type) a (λ_=>rfl) w
 have f:∀w,(Go.underlying 9).run (imag prog F) w = .ok .string w:=um underlying9;rw[e,Sem.run_bind]at h;unfold Builtin.len_ at h;simp only[List.getElem?_toArray,List.getElem?_cons_zero]at h;rw[Sem.run_bind,f]at h;dsimp only[Result.andThen]at h;cases g:ρ x<;>rw[g]at h<;>first | (cases h;done)|skip
 rename_i s
 refine⟨s,rfl,goInt s.size,λw=>?_⟩;rw[e,g,Sem.run_bind];unfold Builtin.len_;simp only[List.getElem?_toArray,List.getElem?_cons_zero];rw[Sem.run_bind,f]
 rfl
def DV(op:BinOp)(f:op = .lss\/op = .mul){b:Int}(l:o.op = .binOp op 3 x y 3)(B:ρ y = Y b)(h:(execOp ρ o).run (imag prog F) v = .ok nx v'):∃a,ρ x = Y a/\∃z,∀w,(execOp ρ o).run (imag prog F) w = .ok (.value z) w/\(op = .lss->z = .bool (decide (a<b))):=by
 have e:∀w,(execOp ρ o).run (imag prog F) w=(Go.binOp op 3 (ρ x) (Y b) >>= λy=>(pure (Next.value y):Sem Next)).run (imag prog F) w:=by intro w;unfold execOp;rw[l];dsimp only;rw[B];rcases f with rfl|rfl<;>rfl
 rw[e,Sem.run_bind]at h;have j : ∀ k a,k ≠ IntKind.i64 -> Go.binOp op 3 (.int k a) (Y b) = Go.stuck "BinOp: operands of different kinds" := by
  intro k a g;rcases f with rfl|rfl<;>simp[Go.binOp,g]
 cases r:ρ x<;>rw[r]at h
 all_goals first | (rcases f with rfl|rfl<;>cases h;done)|skip
 .rename_i k a
  by_cases g:k = .i64
  .subst g;rcases f with rfl|rfl
   .exact⟨a,rfl,_,λw=>⟨by rw[e,r];rfl,λ_=>rfl⟩⟩
   .exact⟨a,rfl,_,λw=>⟨by rw[e,r];rfl,λh=>by cases h⟩⟩
  .rw[j k a g]at h;cases h
 .rename_i p
  cases p<;>(rcases f with rfl|rfl<;>cases h)
def DW{n c i:Nat}(j:o.op = .indexAddr 159 x y)(B:ρ x = .slice bs n c)(C:ρ y = Y i)(N:i<n)(h:(execOp ρ o).run (imag prog F) v = .ok nx v'):∃ea,bs=some ea/\∀w,(execOp ρ o).run (imag prog F) w = .ok (.value (.pointer (some (ea.add (i*4))))) w:=by
 have e:∀w,(execOp ρ o).run (imag prog F) w=(Instr.indexAt 159 (.slice bs n c) (Y i) >>= λy=>(pure (Next.value y):Sem Next)).run (imag prog F) w:=by intro w;unfold execOp;rw[j];dsimp only;rw[B,C]
 have a:∀w,(Go.underlying 159).run (imag prog F) w = .ok (.slice 171) w:=um underlying159;have r:∀w,(sizeOf 171).run (imag prog F) w = .ok 4 w:=wT λw=>by simp[go_sem]
 have g:(0:Int)<=i/\(i:Int)<n:=by omega
 cases bs with
 |none=>
  exfalso
  rw[e,Sem.run_bind]at h;unfold Instr.indexAt at h;rw[Sem.run_bind]at h;simp only[asIntOf,Sem.run_pure,Result.andThen_ok]at h;rw[Sem.run_bind,a]at h;dsimp only[Result.andThen]at h;rw[Sem.run_bind]at h;simp only[Sem.run_pure,Result.andThen_ok]at h;rw[Sem.run_bind,a]at h;dsimp only[Result.andThen]at h;have hb:∀w,∃e l,(boundsPanic .i64 (i:Int) 0 .index:Sem D).run (imag prog F) w = .halt e l:=by
   intro w;unfold boundsPanic runtimePanic
   repeat' (first|exact⟨_,_,rfl⟩|split)
  obtain⟨M,l,f⟩:=hb v;rw[f]at h;cases h
 |some ea=>refine⟨ea,rfl,λw=>?_⟩;rw[e,Sem.run_bind];unfold Instr.indexAt;rw[Sem.run_bind];simp only[asIntOf,Sem.run_pure,Result.andThen_ok];rw[Sem.run_bind,a];dsimp only[Result.andThen];rw[Sem.run_bind];simp only[Sem.run_pure,Result.andThen_ok];rw[Sem.run_bind,a];dsimp only[Result.andThen];rw[if_pos g,Sem.run_bind,r];simp
def DY(hv:qn v){p:Addr}(j:o.op = .load 171 x)(P:ρ x = .pointer (some p))(h:(execOp ρ o).run (imag prog F) v = .ok nx v'):∃a b c d,nx = .value (.agg #[a,b,c,d])/\v'=v/\v.cell? (p.add 0)=some a/\v.cell? (p.add 1)=some b/\v.cell? (p.add 2)=some c/\v.cell? (p.add 3)=some d:=by
 have e:∀w,(execOp ρ o).run (imag prog F) w=(Instr.loadAt 171 (.pointer (some p)) >>= λy=>(pure (Next.value y):Sem Next)).run (imag prog F) w:=by intro w;unfold execOp;rw[j];dsimp only;rw[P]
 have N:∀w,(sizeOf 171).run (imag prog F) w = .ok 4 w:=wT λw=>by simp[go_sem]
 have M:∀w,(isAgg 171).run (imag prog F) w = .ok true w:=pI λw=>by simp[go_sem]
 rw[e,Sem.run_bind]at h;unfold Instr.loadAt at h;rw[Sem.run_bind,show(Instr.sureAddr (.pointer (some p))).run (imag prog F) v = .ok p v from rfl]at h;dsimp only[Result.andThen]at h;unfold loadVar at h;rw[Sem.run_bind,M]at h;simp only[Result.andThen_ok,if_true]at h;rw[Sem.run_bind,N]at h;simp only[Result.andThen_ok]at h;rw[Sem.run_bind]at h;cases r:(loadCells p 4).run (imag prog F) v with
 |halt Q B=>rw[r]at h;cases h
 |ok g B=>
  rw[r]at h;obtain⟨rfl,l,C,D,f⟩:=zh hv p 4 0 #[] g B r
  match l,C with
  |[a,b,c,d],_=>
   cases h;refine⟨a,b,c,d,by rw[D];rfl,rfl,?_,?_,?_,?_⟩
   .exact f 0 a rfl
   .exact f 1 b rfl
   .exact f 2 c rfl
   .exact f 3 d rfl
def Nc (a:o.op = .unOp .not 4 x)(h:(execOp ρ o).run (imag prog F) v = .ok nx v'):∃b,ρ x = .bool b/\∀w,(execOp ρ o).run (imag prog F) w = .ok (.value (.bool (!b))) w:=by
 have e:∀w,(execOp ρ o).run (imag prog F) w=(Op.unary .not (ρ x) >>= λy=>(pure (Next.value y):Sem Next)).run (imag prog F) w:=by intro w;unfold execOp;rw[a]
 rw[e,Sem.run_bind]at h;cases f:ρ x<;>rw[f]at h<;>first | (cases h;done)|skip
 exact⟨_,rfl,λw=>by rw[e,f];rfl⟩
def vr{P:Ad}{t:Af}{fs:Array Field}{cells:Ak}{y:D}(r:P.underlying t=some (.struct fs))(l:fs[j]?=some f)(g:∀w,(isAgg f.type).run P w = .ok false w)(h:cells[f.offset]?=some y)(a:o.op = .field t x j)(B:ρ x = .agg cells)(w:Z):(execOp ρ o).run (imag P F) w = .ok (.value y) w:=by
 have e:(execOp ρ o).run (imag P F) w=(Instr.field t (.agg cells) j >>= λy=>(pure (Next.value y):Sem Next)).run (imag P F) w:=by unfold execOp;rw[a];dsimp only;rw[B]
 rw[e,Sem.run_bind];unfold Instr.field;rw[Sem.run_bind,um r];dsimp only[Result.andThen];rw[l];dsimp only;rw[Sem.run_bind,show(asAgg (.agg cells)).run (imag P F) w = .ok cells w from rfl];dsimp only[Result.andThen];unfold part;rw[Sem.run_bind,pI g];simp[h]
def Kn{P:Ad}{t:Af}{fs:Array Field}{cells:Ak}{n:Nat}(B:P.underlying t=some (.struct fs))(l:fs[j]?=some f)(g:∀w,(isAgg f.type).run P w = .ok true w)(r:∀w,(sizeOf f.type).run P w = .ok n w){cells':Ak}(h:cells.extract f.offset (f.offset+n)=cells')(a:o.op = .field t x j)(C:ρ x = .agg cells)(w:Z):(execOp ρ o).run (imag P F) w = .ok (.value (.agg cells')) w:=by
 subst h;have e:(execOp ρ o).run (imag P F) w=(Instr.field t (.agg cells) j >>= λy=>(pure (Next.value y):Sem Next)).run (imag P F) w:=by unfold execOp;rw[a];dsimp only;rw[C]
 rw[e,Sem.run_bind];unfold Instr.field;rw[Sem.run_bind,um B];dsimp only[Result.andThen];rw[l];dsimp only;rw[Sem.run_bind,show(asAgg (.agg cells)).run (imag P F) w = .ok cells w from rfl];dsimp only[Result.andThen];unfold part;rw[Sem.run_bind,pI g];simp only[Result.andThen_ok,if_true];rw[Sem.run_bind,wT r]
 rfl
end
end
section
open Go.Conc Go.RowKit
def cI (n:Int):Ae:=.const (Y n)
def zN:Am:=#[cp (some 3) (.call ⟨.builtin .len,#[.tmp 1],#[159]⟩),cp (some 5) (.binOp .lss 3 (.tmp 2) (cI 0) 3),cp (some 4) (.move (cI 0)),cp (some 5) (.binOp .lss 3 (.tmp 3) (cI 1099511627776) 3)]
def zP:Am:=#[cp (some 6) (.indexAddr 159 (.tmp 1) (.tmp 4)),cp (some 7) (.load 171 (.tmp 6)),
 cp (some 8) (.field 171 (.tmp 7) 0),cp (some 9) (.call ⟨.builtin .len,#[.tmp 8],#[9]⟩),
 cp (some 8) (.field 171 (.tmp 7) 1),cp (some 9) (.binOp .mul 3 (.tmp 8) (cI 1) 3),
 cp (some 8) (.field 171 (.tmp 7) 2),cp (some 10) (.field 138 (.tmp 8) 0),cp (some 9) (.call ⟨.builtin .len,#[.tmp 10],#[9]⟩),
 cp (some 10) (.field 138 (.tmp 8) 1),cp (some 9) (.unOp .not 4 (.tmp 10)),
 cp (some 4) (.binOp .add 3 (.tmp 4) (cI 1) 3)]
def fC:Code:=.seq (.region 1 #[cp (some 5) (.binOp .lss 3 (.tmp 4) (.tmp 3) 3)] false) (.seq (.cond (.tmp 5) .skip (.exit 0)) (.region 2 zP false))
def lJ (qf:Ag):Am:=#[cp (some 6) (.indexAddr 159 (.tmp 1) (.tmp 4)),cp (some 7) (.load 171 (.tmp 6)),cp (some 12) (.call ⟨.value (.func qf),#[.tmp 0,.tmp 7],#[48,171]⟩)]
def gG (jf qf:Ag):Code:=.seq (.region 3 #[cp (some 5) (.binOp .lss 3 (.tmp 4) (.tmp 2) 3)] false) (.seq (.cond (.tmp 5) .skip (.exit 0)) (.seq (.region 4 #[cp (some 5) (.binOp .lss 3 (.tmp 4) (.tmp 3) 3)] false) (.seq (.cond (.tmp 5) .skip (.exit 0))
 (.seq (.region 5 (lJ qf) false) (.seq (.region 6 #[cp (some 0) (.move (.tmp 12)),cp (some 4) (.binOp .add 3 (.tmp 4) (cI 1) 3)] false) (dC jf))))))
def lK (jf qf:Ag):Code:=.seq (.region 7 #[cp (some 4) (.move (cI 0))] false) (.seq (.block 0 (.loop (gG jf qf))) .ret)
def nk (jf qf a:Ag):Code:=.seq (.region 0 zN false) (.seq (.cond (.tmp 5) .skip (.region 8 #[cp none (.call ⟨.value (.func a),#[],#[]⟩)] false)) (.seq (.block 0 (.loop fC)) (.seq (dC jf) (lK jf qf))))
section
variable {F:Array Func}{X:Ag->Prop}{T:dq}{Fin:Ai->Z->Prop}{G0:Base}{b:Ai}{k:List Item}{cs:List Ai}{v:Z}{to en mo x5 x6 x7 x8 x9 x10 x11 x12:D}
def Tr.pass{a:Act}(a':D->Act)(hb:prog.info? bad=none)(hG:prog.globals.size<=G0.n)(hF:lq F)(nt:eF Fin){ops:Am}{i:Nat}{rest:List Nat}{o:Oper}(t:Tr (imag prog F) X T Fin (b.at a (.inRegion ops (i::rest)::k)) cs v)(j:cs≠[])(r:b.kind = .normal)
  (B:ops[i]?=some o) (l:o.guard=none) (ht:ig prog o.op=true) (C:∀y,a.put o.dst y=a' y) {Φ:D->Prop} (h:∀nx v',(execOp a.eval o).run (imag prog F) v = .ok nx v'->∃y,Φ y/\(execOp a.eval o).run (imag prog F) v = .ok (.value y) v) :
  ∃y,Φ y/\Ru (imag prog F) Fin (b.at a (.inRegion ops (i::rest)::k),cs,v) (b.at (a' y) (.inRegion ops rest::k),cs,v)/\Tr (imag prog F) X T Fin (b.at (a' y) (.inRegion ops rest::k)) cs v:=by
 obtain⟨nx,v',N⟩:=t.ok hb hG hF j r B l ht v.tape v.drawn;obtain⟨y,P,M⟩:=h nx v' N;have g:b.kind≠.early:=by rw[r];simp
 have f:Ru (imag prog F) Fin (b.at a (.inRegion ops (i::rest)::k),cs,v) (b.at (a' y) (.inRegion ops rest::k),cs,v):=
  Ru.go j v.tape v.drawn (τ':=v.tape) (d':=v.drawn) ((stepG_value B (by simp[Region.wanted,l]) g M).trans (by rw[C];rfl))
 exact⟨y,P,f,f.tr nt t⟩
def rU (v:Z)(p:Addr):Prop:=∃s m a d,v.cell? (p.add 0)=some (.string s)/\v.cell? (p.add 1)=some (Y m)/\v.cell? (p.add 2)=some (.string a)/\v.cell? (p.add 3)=some (.bool d)
def Mj(hb:prog.info? bad=none)(hG:prog.globals.size<=G0.n)(hF:lq F)(nt:eF Fin)(f:cs≠[])(l:b.kind = .normal){n cap i:Nat}(hn:n<1099511627776)(hi:i<n)
  (t:Tr (imag prog F) X T Fin (b.at ⟨#[to,.slice bs n cap,mo,Y n,Y i,x5,x6,x7,x8,x9,x10,x11,x12],[]⟩ (.code fC::.inLoop fC::k)) cs v) :
  ∃ea,bs=some ea/\rU v (ea.add (i*4))/\∃y5 y6 y7 y8 y9 a8,Ru (imag prog F) Fin (b.at ⟨#[to,.slice bs n cap,mo,Y n,Y i,x5,x6,x7,x8,x9,x10,x11,x12],[]⟩ (.code fC::.inLoop fC::k),cs,v)
   (b.at ⟨#[to,.slice bs n cap,mo,Y n,Y ((i+1:Nat):Int),y5,y6,y7,y8,y9,a8,x11,x12],[]⟩ (.code fC::.inLoop fC::k),cs,v):=by
 have N:b.kind≠.early:=by rw[l];simp
 have ad:((i:Nat):Int)<n:=by omega
 have c1:bV (imag prog F) Fin (b.at ⟨#[to,.slice bs n cap,mo,Y n,Y i,x5,x6,x7,x8,x9,x10,x11,x12],[]⟩ (.code fC::.inLoop fC::k),cs)
   (b.at ⟨#[to,.slice bs n cap,mo,Y n,Y i,.bool true,x6,x7,x8,x9,x10,x11,x12],[]⟩ (.inRegion zP [0,1,2,3,4,5,6,7,8,9,10,11]::.inLoop fC::k),cs):=
  (bV.seq f).trans nt ((bV.region f).trans nt ((bV.value f (o:=cp (some 5) (.binOp .lss 3 (.tmp 4) (.tmp 3) 3)) (x:=.bool true) rfl rfl N λw=>by simp[execOp,cp,Go.binOp,eqGuard,Op.intCmp,Act.eval,ad]).trans nt ((bV.fM f).trans nt ((bV.seq f).trans nt ((bV.cond f (t:=true) rfl).trans nt ((bV.skip f).trans nt (bV.region f)))))))
 have t1:=(c1 v).tr nt t;dsimp only at t1;have hv:qn v:=t.unfold.1.ht.no;obtain⟨y,⟨ea,rfl,rfl⟩,r2,t2⟩:=t1.pass (λy=>⟨#[to,.slice bs n cap,mo,Y n,Y i,.bool true,y,x7,x8,x9,x10,x11,x12],[]⟩) hb hG hF nt f l (o:=cp (some 6) (.indexAddr 159 (.tmp 1) (.tmp 4))) rfl rfl rfl (λ_=>rfl) (Φ:=λy=>∃ea,bs=some ea/\y = .pointer (some (ea.add (i*4)))) (λnx r h=>by obtain⟨ea,e1,e2⟩:=DW rfl rfl rfl hi h;exact⟨_,⟨ea,e1,rfl⟩,e2 v⟩)
 refine⟨ea,rfl,?_⟩;obtain⟨y,⟨a,M,c,d,rfl,S,U,W,Z⟩,r3,t3⟩:=t2.pass (λy=>⟨#[to,.slice (some ea) n cap,mo,Y n,Y i,.bool true,.pointer (some (ea.add (i*4))),y,x8,x9,x10,x11,x12],[]⟩) hb hG hF nt f l (o:=cp (some 7) (.load 171 (.tmp 6))) rfl rfl rfl (λ_=>rfl) (Φ:=λy=>∃a b c d,y = .agg #[a,b,c,d]/\v.cell? ((ea.add (i*4)).add 0)=some a/\v.cell? ((ea.add (i*4)).add 1)=some b/\v.cell? ((ea.add (i*4)).add 2)=some c/\v.cell? ((ea.add (i*4)).add 3)=some d) (λnx r h=>by obtain⟨a,b,c,d,rfl,rfl,S,U,W,Z⟩:=DY hv rfl rfl h;exact⟨_,⟨a,b,c,d,rfl,S,U,W,Z⟩,h⟩)
 have a9:∀w,(isAgg 9).run prog w = .ok false w:=isAgg9;have a3:∀w,(isAgg 3).run prog w = .ok false w:=isAgg3;have a4:∀w,(isAgg 4).run prog w = .ok false w:=isAgg4;have D:∀w,(isAgg 138).run prog w = .ok true w:=isAgg138;have P:∀w,(sizeOf 138).run prog w = .ok 2 w:=sizeOf138;obtain⟨g,rfl,r4,t4⟩:=t3.pass (λy=>⟨#[to,.slice (some ea) n cap,mo,Y n,Y i,.bool true,.pointer (some (ea.add (i*4))),.agg #[a,M,c,d],y,x9,x10,x11,x12],[]⟩) hb hG hF nt f l (o:=cp (some 8) (.field 171 (.tmp 7) 0)) rfl rfl rfl (λ_=>rfl) (Φ:=λy=>y=a) (λnx r h=>⟨a,rfl,vr underlying171 rfl a9 rfl rfl rfl v⟩);obtain⟨y9,⟨s,hs⟩,r5,t5⟩:=t4.pass (λy=>⟨#[to,.slice (some ea) n cap,mo,Y n,Y i,.bool true,.pointer (some (ea.add (i*4))),.agg #[g,M,c,d],g,y,x10,x11,x12],[]⟩) hb hG hF nt f l (o:=cp (some 9) (.call ⟨.builtin .len,#[.tmp 8],#[9]⟩)) rfl rfl rfl (λ_=>rfl) (Φ:=λ_=>∃s,g = .string s) (λnx r h=>by obtain⟨s,e1,z,e2⟩:=DX rfl h;exact⟨z,⟨s,e1⟩,e2 v⟩)
 obtain⟨b0,rfl,r6,t6⟩:=t5.pass (λy=>⟨#[to,.slice (some ea) n cap,mo,Y n,Y i,.bool true,.pointer (some (ea.add (i*4))),.agg #[g,M,c,d],y,y9,x10,x11,x12],[]⟩) hb hG hF nt f l (o:=cp (some 8) (.field 171 (.tmp 7) 1)) rfl rfl rfl (λ_=>rfl) (Φ:=λy=>y=M) (λnx r h=>⟨M,rfl,vr underlying171 rfl a3 rfl rfl rfl v⟩);obtain⟨z9,⟨m,hm⟩,r7,t7⟩:=t6.pass (λy=>⟨#[to,.slice (some ea) n cap,mo,Y n,Y i,.bool true,.pointer (some (ea.add (i*4))),.agg #[g,b0,c,d],b0,y,x10,x11,x12],[]⟩) hb hG hF nt f l (o:=cp (some 9) (.binOp .mul 3 (.tmp 8) (cI 1) 3)) rfl rfl rfl (λ_=>rfl) (Φ:=λ_=>∃m,b0 = Y m) (λnx r h=>by obtain⟨m,e1,z,e2⟩:=DV .mul (.inr rfl) rfl rfl h;exact⟨z,⟨m,e1⟩,(e2 v).1⟩)
 obtain⟨y2,rfl,r8,t8⟩:=t7.pass (λy=>⟨#[to,.slice (some ea) n cap,mo,Y n,Y i,.bool true,.pointer (some (ea.add (i*4))),.agg #[g,b0,c,d],y,z9,x10,x11,x12],[]⟩) hb hG hF nt f l (o:=cp (some 8) (.field 171 (.tmp 7) 2)) rfl rfl rfl (λ_=>rfl) (Φ:=λy=>y = .agg #[c,d]) (λnx r h=>⟨_,rfl,Kn (cells:=#[g,b0,c,d]) (cells':=#[c,d]) underlying171 (j:=2) rfl D P (by simp) rfl rfl v⟩);obtain⟨B,rfl,r9,t9⟩:=t8.pass (λy=>⟨#[to,.slice (some ea) n cap,mo,Y n,Y i,.bool true,.pointer (some (ea.add (i*4))),.agg #[g,b0,c,d],.agg #[c,d],z9,y,x11,x12],[]⟩) hb hG hF nt f l (o:=cp (some 10) (.field 138 (.tmp 8) 0)) rfl rfl rfl (λ_=>rfl) (Φ:=λy=>y=c) (λnx r h=>⟨c,rfl,vr underlying138 rfl a9 rfl rfl rfl v⟩);obtain⟨ba,⟨s',am⟩,an,t10⟩:=t9.pass (λy=>⟨#[to,.slice (some ea) n cap,mo,Y n,Y i,.bool true,.pointer (some (ea.add (i*4))),.agg #[g,b0,B,d],.agg #[B,d],y,B,x11,x12],[]⟩) hb hG hF nt f l (o:=cp (some 9) (.call ⟨.builtin .len,#[.tmp 10],#[9]⟩)) rfl rfl rfl (λ_=>rfl) (Φ:=λ_=>∃s,B = .string s) (λnx r h=>by obtain⟨s,e1,z,e2⟩:=DX rfl h;exact⟨z,⟨s,e1⟩,e2 v⟩)
 obtain⟨C,rfl,a1,t11⟩:=t10.pass (λy=>⟨#[to,.slice (some ea) n cap,mo,Y n,Y i,.bool true,.pointer (some (ea.add (i*4))),.agg #[g,b0,B,d],.agg #[B,d],ba,y,x11,x12],[]⟩) hb hG hF nt f l (o:=cp (some 10) (.field 138 (.tmp 8) 1)) rfl rfl rfl (λ_=>rfl) (Φ:=λy=>y=d) (λnx r h=>⟨d,rfl,vr underlying138 rfl a4 rfl rfl rfl v⟩);obtain⟨be,⟨dd,hd⟩,a7,t12⟩:=t11.pass (λy=>⟨#[to,.slice (some ea) n cap,mo,Y n,Y i,.bool true,.pointer (some (ea.add (i*4))),.agg #[g,b0,B,C],.agg #[B,C],y,C,x11,x12],[]⟩) hb hG hF nt f l (o:=cp (some 9) (.unOp .not 4 (.tmp 10))) rfl rfl rfl (λ_=>rfl) (Φ:=λ_=>∃b,C = .bool b) (λnx r h=>by obtain⟨bb,e1,e2⟩:=Nc rfl h;exact⟨_,⟨bb,e1⟩,e2 v⟩)
 have R:=bV.value (Q:=imag prog F) (Fin:=Fin) (b:=b) (k:=.inLoop fC::k) (ops:=zP) (i:=11) (rest:=[]) (a:=⟨#[to,.slice (some ea) n cap,mo,Y n,Y i,.bool true,.pointer (some (ea.add (i*4))),.agg #[g,b0,B,C],.agg #[B,C],be,C,x11,x12],[]⟩) f (o:=cp (some 4) (.binOp .add 3 (.tmp 4) (cI 1) 3)) (x:=Y ((i+1:Nat):Int)) rfl rfl N λw=>by
  have:IntKind.i64.wrap ((i:Int)+1)=((i+1:Nat):Int):=by rw[IntKind.wrap_i64];omega
  simp[execOp,cp,Go.binOp,eqGuard,Op.intArith,Act.eval,cI,this]
 subst hs hm am hd;refine⟨⟨s,m,s',dd,S,U,W,Z⟩,_,_,_,_,_,_,(c1 v).trans nt (r2.trans nt (r3.trans nt (r4.trans nt (r5.trans nt (r6.trans nt (r7.trans nt (r8.trans nt (r9.trans nt (an.trans nt (a1.trans nt (a7.trans nt ((R.trans nt ((bV.fM f).trans nt (bV.inLoop f))) v))))))))))))⟩
end
end
section
open Go.Conc Go.RowKit
section
variable {F:Array Func}{X:Ag->Prop}{T:dq}{Fin:Ai->Z->Prop}{G0:Base}{b:Ai}{k:List Item}{cs:List Ai}{v:Z}
def Dr (hb:prog.info? bad=none)(hG:prog.globals.size<=G0.n)(hF:lq F)(nt:eF Fin)(a:cs≠[])(h:b.kind = .normal){to mo:D}{bs:Option Addr}{n cap:Nat}(R:n<1099511627776) :
  ∀(r i:Nat) (x5 x6 x7 x8 x9 x10 x11 x12:D),i+r=n->Tr (imag prog F) X T Fin (b.at ⟨#[to,.slice bs n cap,mo,Y n,Y i,x5,x6,x7,x8,x9,x10,x11,x12],[]⟩ (.code fC::.inLoop fC::.inBlock 0::k)) cs v->
  (∀j,i<=j->j<n->∃ea,bs=some ea/\rU v (ea.add (j*4)))/\∃y B C M N f,Ru (imag prog F) Fin (b.at ⟨#[to,.slice bs n cap,mo,Y n,Y i,x5,x6,x7,x8,x9,x10,x11,x12],[]⟩ (.code fC::.inLoop fC::.inBlock 0::k),cs,v)
   (b.at ⟨#[to,.slice bs n cap,mo,Y n,Y n,y,B,C,M,N,f,x11,x12],[]⟩ k,cs,v)
 |0,i,x5,x6,x7,x8,x9,x10,x11,x12,W,t=>by
  have l:b.kind≠.early:=by rw[h];simp
  have:i=n:=by omega
  subst this;refine⟨λj g Q=>bx g (by omega),.bool false,x6,x7,x8,x9,x10,?_⟩;have c:bV (imag prog F) Fin (b.at ⟨#[to,.slice bs i cap,mo,Y i,Y i,x5,x6,x7,x8,x9,x10,x11,x12],[]⟩ (.code fC::.inLoop fC::.inBlock 0::k),cs) (b.at ⟨#[to,.slice bs i cap,mo,Y i,Y i,.bool false,x6,x7,x8,x9,x10,x11,x12],[]⟩ k,cs):=
   (bV.seq a).trans nt ((bV.region a).trans nt ((bV.value a (o:=cp (some 5) (.binOp .lss 3 (.tmp 4) (.tmp 3) 3)) (x:=.bool false) rfl rfl l λw=>by simp[execOp,cp,Go.binOp,eqGuard,Op.intCmp,Act.eval]).trans nt ((bV.fM a).trans nt ((bV.seq a).trans nt ((bV.cond a (t:=false) rfl).trans nt (bV.exit a rfl))))))
  exact c v
 |r+1,i,x5,x6,x7,x8,x9,x10,x11,x12,W,t=>by
  obtain⟨ea,e1,e2,y,B,C,M,N,f,g⟩:=Mj hb hG hF nt a h R (by omega) t;obtain⟨Q,z5,z6,z7,z8,z9,P,S⟩:=Dr hb hG hF nt a h R r (i+1) y B C M N f x11 x12 (by omega) (g.tr nt t);refine⟨λj h4 U=>?_,z5,z6,z7,z8,z9,P,g.trans nt S⟩
  by_cases Z:j=i
  .subst Z;exact⟨ea,e1,e2⟩
  .exact Q j (by omega) U
structure se (Q:Ad)(jf qf xf:Ag)(f:Ag)(fn:Func):Prop where
 at_:Q.funcs[f]?=some fn
 name : (fn.name == "runtime.NumGoroutine") = false
 body:fn.body=some (nk jf qf xf)
 ntmps:fn.ntmps=13
 results:fn.results=#[.tmp 0,.tmp 4]
def Kj(hb : prog.info? bad = none)(hG : prog.globals.size <= G0.n)(hF : lq F)(nt : eF Fin)(a : cs ≠ []){jf qf f : Ag}{fn g : Func}(l : se (imag prog F) jf qf f 138 fn)(S : X f)(B : (imag prog F).funcs[f]? = some g)(C : (g.name == "runtime.NumGoroutine") = false){xc : Code}(r : g.body = some xc)
  {to en mo:D} (t:Tr (imag prog F) X T Fin (Frame.enter (imag prog F) 138 #[to,en,mo] .normal) cs v) :
  ∃bs n cap cn,en = .slice bs n cap/\mo = Y cn/\n<1099511627776/\(∀j,j<n->∃ea,bs=some ea/\rU v (ea.add (j*4)))/\∃x4 x5 x6 x7 x8 x9 x10 x11 x12,
   Ru (imag prog F) Fin (Frame.enter (imag prog F) 138 #[to,en,mo] .normal,cs,v) ((base 138).at ⟨#[to,en,mo,Y n,x4,x5,x6,x7,x8,x9,x10,x11,x12],[]⟩ [.code (dC jf),.code (lK jf qf)],cs,v):=by
 have Q:Frame.enter (imag prog F) 138 #[to,en,mo] .normal=(base 138).at ⟨#[to,en,mo,undef,undef,undef,undef,undef,undef,undef,undef,undef,undef],[]⟩ [.code (nk jf qf f)]:=by
  rw[enter_at _ l.at_ l.body,l.ntmps]
  rfl
 rw[Q]at t ⊢;have c1:bV (imag prog F) Fin ((base 138).at ⟨#[to,en,mo,undef,undef,undef,undef,undef,undef,undef,undef,undef,undef],[]⟩ [.code (nk jf qf f)],cs) ((base 138).at ⟨#[to,en,mo,undef,undef,undef,undef,undef,undef,undef,undef,undef,undef],[]⟩ (.inRegion zN [0,1,2,3]::[.code (.seq (.cond (.tmp 5) .skip (.region 8 #[cp none (.call ⟨.value (.func f),#[],#[]⟩)] false)) (.seq (.block 0 (.loop fC)) (.seq (dC jf) (lK jf qf))))]),cs):=(bV.seq a).trans nt (bV.region a);have t1:=(c1 v).tr nt t;dsimp only at t1;obtain⟨y,⟨bs,n,cap,rfl,rfl⟩,U,t2⟩:=t1.pass (λy=>⟨#[to,en,mo,y,undef,undef,undef,undef,undef,undef,undef,undef,undef],[]⟩) hb hG hF nt a rfl (o:=cp (some 3) (.call ⟨.builtin .len,#[.tmp 1],#[159]⟩)) rfl rfl rfl (λ_=>rfl) (Φ:=λy=>∃bs n cap,en = .slice bs n cap/\y = Y ((n:Nat):Int)) (λnx Z h=>by obtain⟨bs,n,c,e1,e2⟩:=Nb rfl h;exact⟨_,⟨bs,n,c,e1,rfl⟩,e2 v⟩)
 obtain⟨y5,⟨cn,rfl⟩,W,t3⟩:=t2.pass (λy=>⟨#[to,.slice bs n cap,mo,Y n,undef,y,undef,undef,undef,undef,undef,undef,undef],[]⟩) hb hG hF nt a rfl (o:=cp (some 5) (.binOp .lss 3 (.tmp 2) (cI 0) 3)) rfl rfl rfl (λ_=>rfl) (Φ:=λy=>∃cn,mo = Y cn) (λnx Z h=>by obtain⟨m,e1,z,e2⟩:=DV .lss (.inl rfl) rfl rfl h;exact⟨z,⟨m,e1⟩,(e2 v).1⟩)
 have c4:bV (imag prog F) Fin ((base 138).at ⟨#[to,.slice bs n cap,Y cn,Y n,undef,y5,undef,undef,undef,undef,undef,undef,undef],[]⟩ (.inRegion zN [2,3]::[.code (.seq (.cond (.tmp 5) .skip (.region 8 #[cp none (.call ⟨.value (.func f),#[],#[]⟩)] false)) (.seq (.block 0 (.loop fC)) (.seq (dC jf) (lK jf qf))))]),cs)
   ((base 138).at ⟨#[to,.slice bs n cap,Y cn,Y n,Y 0,.bool (decide ((n:Int)<1099511627776)),undef,undef,undef,undef,undef,undef,undef],[]⟩ [.code (.cond (.tmp 5) .skip (.region 8 #[cp none (.call ⟨.value (.func f),#[],#[]⟩)] false)),.code (.seq (.block 0 (.loop fC)) (.seq (dC jf) (lK jf qf)))],cs):=
  (bV.value a (o:=cp (some 4) (.move (cI 0))) (x:=Y 0) rfl rfl (base_kind _) λw=>rfl).trans nt ((bV.value a (o:=cp (some 5) (.binOp .lss 3 (.tmp 3) (cI 1099511627776) 3)) (x:=.bool (decide ((n:Int)<1099511627776))) rfl rfl (base_kind _) λw=>rfl).trans nt ((bV.fM a).trans nt (bV.seq a)))
 have t4:=(c4 v).tr nt t3;dsimp only at t4
 by_cases M:(n:Int)<1099511627776
 .simp only[M,decide_true]at t4 c4;have c5:bV (imag prog F) Fin ((base 138).at ⟨#[to,.slice bs n cap,Y cn,Y n,Y 0,.bool true,undef,undef,undef,undef,undef,undef,undef],[]⟩ [.code (.cond (.tmp 5) .skip (.region 8 #[cp none (.call ⟨.value (.func f),#[],#[]⟩)] false)),.code (.seq (.block 0 (.loop fC)) (.seq (dC jf) (lK jf qf)))],cs)
    ((base 138).at ⟨#[to,.slice bs n cap,Y cn,Y n,Y 0,.bool true,undef,undef,undef,undef,undef,undef,undef],[]⟩ [.code fC,.inLoop fC,.inBlock 0,.code (.seq (dC jf) (lK jf qf))],cs):=
   (bV.cond a (t:=true) rfl).trans nt ((bV.skip a).trans nt ((bV.seq a).trans nt ((bV.block a).trans nt (bV.loop a))))
  obtain⟨N,z5,z6,z7,z8,z9,ad,P⟩:=Dr (k:=[.code (.seq (dC jf) (lK jf qf))]) hb hG hF nt a rfl (to:=to) (mo:=Y cn) (bs:=bs) (cap:=cap) (by omega) n 0 _ _ _ _ _ _ _ _ (by omega) ((c5 v).tr nt t4);refine⟨bs,n,cap,cn,rfl,rfl,by omega,λj R=>N j (by omega) R,_,_,_,_,_,_,_,_,_,(c1 v).trans nt (U.trans nt (W.trans nt ((c4 v).trans nt ((c5 v).trans nt (P.trans nt (bV.seq a v))))))⟩
 .exfalso
  simp only[M,decide_false]at t4;have c5:bV (imag prog F) Fin ((base 138).at ⟨#[to,.slice bs n cap,Y cn,Y n,Y 0,.bool false,undef,undef,undef,undef,undef,undef,undef],[]⟩ [.code (.cond (.tmp 5) .skip (.region 8 #[cp none (.call ⟨.value (.func f),#[],#[]⟩)] false)),.code (.seq (.block 0 (.loop fC)) (.seq (dC jf) (lK jf qf)))],cs) _:=
   (bV.cond a (t:=false) rfl).trans nt ((bV.region a).trans nt (bV.call a (i:=0) (rest:=[]) (args:=#[]) rfl rfl (base_kind _) rfl B C r))
  exact((c5 v).tr nt t4).unfold.1.ts.1.nX S
end
end
section
open Go.Conc Go.RowKit
def QZ (jf qf:Ag)(en mo:D)(n i:Nat)(to:D)(z:Ai):Prop:=
 ∃h j l o r a f g,z=(base 138).at ⟨#[to,en,mo,Y n,Y i,h,j,l,o,r,a,f,g],[]⟩ [.code (gG jf qf),.inLoop (gG jf qf),.inBlock 0,.code .ret]
def QB (jf qf:Ag)(en mo:D)(n i:Nat)(z:Ai):Prop:=
 ∃h j l o r a f g,z=(base 138).at ⟨#[h,en,mo,Y n,Y i,.bool true,j,l,o,r,a,f,g],[]⟩ [.inRegion (lJ qf) [2],.code (.seq (.region 6 #[cp (some 0) (.move (.tmp 12)),cp (some 4) (.binOp .add 3 (.tmp 4) (cI 1) 3)] false) (dC jf)),.inLoop (gG jf qf),.inBlock 0,.code .ret]
section
variable {F:Array Func}{X:Ag->Prop}{T:dq}{Fin:Ai->Z->Prop}{G0:Base}{cs zs:List Ai}{v:Z}{jf qf xf:Ag}{fn:Func}{en to:D}{cn:Int}{n i:Nat}{z fr:Ai}
def Ki (nt:eF Fin)(a:cs≠[]){x4 x5 x6 x7 x8 x9 x10 x11 x12:D}{mo:D}:∃z,QZ jf qf en mo n 0 to z/\bV (imag prog F) Fin ((base 138).at ⟨#[to,en,mo,Y n,x4,x5,x6,x7,x8,x9,x10,x11,x12],[]⟩ [.code (lK jf qf)],cs) (z,cs):=by refine⟨_,⟨x5,x6,x7,x8,x9,x10,x11,x12,rfl⟩,?_⟩;exact(bV.seq a).trans nt ((bV.region a).trans nt ((bV.value a (o:=cp (some 4) (.move (cI 0))) (x:=Y 0) rfl rfl (base_kind _) λw=>rfl).trans nt ((bV.fM a).trans nt ((bV.seq a).trans nt ((bV.block a).trans nt (bV.loop a))))))
def Kh (nt:eF Fin)(D:se (imag prog F) jf qf xf 138 fn)(R:QZ jf qf en (Y cn) n i to z)(P:¬(i:Int)<cn\/i=n):bV (imag prog F) Fin (z,fr::cs) (fr.finish (.tuple #[to,Y i]),cs):=by
 obtain⟨M,r,y,B,C,g,j,l,rfl⟩:=R;have f:fr::cs≠[]:=by simp
 have key:∃N,bV (imag prog F) Fin ((base 138).at ⟨#[to,en,Y cn,Y n,Y i,M,r,y,B,C,g,j,l],[]⟩ [.code (gG jf qf),.inLoop (gG jf qf),.inBlock 0,.code .ret],fr::cs) ((base 138).at ⟨#[to,en,Y cn,Y n,Y i,N,r,y,B,C,g,j,l],[]⟩ [.code .ret],fr::cs):=by
  by_cases hm:(i:Int)<cn
  .have Q:i=n:=P.resolve_left λh=>h hm
   subst Q;have c1:bV (imag prog F) Fin ((base 138).at ⟨#[to,en,Y cn,Y i,Y i,M,r,y,B,C,g,j,l],[]⟩ [.code (gG jf qf),.inLoop (gG jf qf),.inBlock 0,.code .ret],fr::cs) ((base 138).at ⟨#[to,en,Y cn,Y i,Y i,.bool true,r,y,B,C,g,j,l],[]⟩ (.code (.seq (.region 4 #[cp (some 5) (.binOp .lss 3 (.tmp 4) (.tmp 3) 3)] false) (.seq (.cond (.tmp 5) .skip (.exit 0)) (.seq (.region 5 (lJ qf) false) (.seq (.region 6 #[cp (some 0) (.move (.tmp 12)),cp (some 4) (.binOp .add 3 (.tmp 4) (cI 1) 3)] false) (dC jf)))))::[.inLoop (gG jf qf),.inBlock 0,.code .ret]),fr::cs):=
    (bV.seq f).trans nt ((bV.region f).trans nt ((bV.value f (o:=cp (some 5) (.binOp .lss 3 (.tmp 4) (.tmp 2) 3)) (x:=.bool true) rfl rfl (base_kind _) λw=>by simp[execOp,cp,Go.binOp,eqGuard,Op.intCmp,Act.eval,hm]).trans nt ((bV.fM f).trans nt ((bV.seq f).trans nt ((bV.cond f (t:=true) rfl).trans nt (bV.skip f))))))
   have c2:bV (imag prog F) Fin ((base 138).at ⟨#[to,en,Y cn,Y i,Y i,.bool true,r,y,B,C,g,j,l],[]⟩ (.code (.seq (.region 4 #[cp (some 5) (.binOp .lss 3 (.tmp 4) (.tmp 3) 3)] false) (.seq (.cond (.tmp 5) .skip (.exit 0)) (.seq (.region 5 (lJ qf) false) (.seq (.region 6 #[cp (some 0) (.move (.tmp 12)),cp (some 4) (.binOp .add 3 (.tmp 4) (cI 1) 3)] false) (dC jf)))))::[.inLoop (gG jf qf),.inBlock 0,.code .ret]),fr::cs) ((base 138).at ⟨#[to,en,Y cn,Y i,Y i,.bool false,r,y,B,C,g,j,l],[]⟩ [.code .ret],fr::cs):=
    (bV.seq f).trans nt ((bV.region f).trans nt ((bV.value f (o:=cp (some 5) (.binOp .lss 3 (.tmp 4) (.tmp 3) 3)) (x:=.bool false) rfl rfl (base_kind _) λw=>by simp[execOp,cp,Go.binOp,eqGuard,Op.intCmp,Act.eval]).trans nt ((bV.fM f).trans nt ((bV.seq f).trans nt ((bV.cond f (t:=false) rfl).trans nt (bV.exit f rfl))))))
   exact⟨_,c1.trans nt c2⟩
  .refine⟨.bool false,(bV.seq f).trans nt ((bV.region f).trans nt ((bV.value f (a:=⟨#[to,en,Y cn,Y n,Y i,M,r,y,B,C,g,j,l],[]⟩) (o:=cp (some 5) (.binOp .lss 3 (.tmp 4) (.tmp 2) 3)) (x:=.bool false) rfl rfl (base_kind _) λw=>by simp[execOp,cp,Go.binOp,eqGuard,Op.intCmp,Act.eval,hm]).trans nt ((bV.fM f).trans nt ((bV.seq f).trans nt ((bV.cond f (t:=false) rfl).trans nt (bV.exit f rfl))))))⟩
 obtain⟨N,c⟩:=key;refine c.trans nt ((bV.ret f).trans nt (.go f (es:=#[]) λw=>?_));rw[stepG_leave (b:=base 138) rfl rfl D.at_ (results_tmp2 D.results _ _ w) (events_results_tmp2 D.results _ _)]
 rfl
def Ke (nt:eF Fin)(C:∃fn,lY (imag prog F) jf fn)(h:zs≠[]){mo:D}(Z:i<1099511627776)(U:QB jf qf en mo n i z)(val:D):∃Q,QZ jf qf en mo n (i+1) val Q/\bV (imag prog F) Fin (z.finish val,zs) (Q,zs):=by
 obtain⟨N,j,l,r,y,f,g,P,rfl⟩:=U;have B:((base 138).at ⟨#[N,en,mo,Y n,Y i,.bool true,j,l,r,y,f,g,P],[]⟩ [.inRegion (lJ qf) [2],.code (.seq (.region 6 #[cp (some 0) (.move (.tmp 12)),cp (some 4) (.binOp .add 3 (.tmp 4) (cI 1) 3)] false) (dC jf)),.inLoop (gG jf qf),.inBlock 0,.code .ret]).finish val=(base 138).at ⟨#[N,en,mo,Y n,Y i,.bool true,j,l,r,y,f,g,val],[]⟩ [.inRegion (lJ qf) [],.code (.seq (.region 6 #[cp (some 0) (.move (.tmp 12)),cp (some 4) (.binOp .add 3 (.tmp 4) (cI 1) 3)] false) (dC jf)),.inLoop (gG jf qf),.inBlock 0,.code .ret]:=by
  rw[Frame.finish_at]
  rfl
 rw[B];refine⟨_,⟨.bool true,j,l,r,y,f,g,val,rfl⟩,?_⟩;have c1:bV (imag prog F) Fin ((base 138).at ⟨#[N,en,mo,Y n,Y i,.bool true,j,l,r,y,f,g,val],[]⟩ [.inRegion (lJ qf) [],.code (.seq (.region 6 #[cp (some 0) (.move (.tmp 12)),cp (some 4) (.binOp .add 3 (.tmp 4) (cI 1) 3)] false) (dC jf)),.inLoop (gG jf qf),.inBlock 0,.code .ret],zs)
   ((base 138).at ⟨#[val,en,mo,Y n,Y ((i+1:Nat):Int),.bool true,j,l,r,y,f,g,val],[]⟩ [.code (dC jf),.inLoop (gG jf qf),.inBlock 0,.code .ret],zs):=
  (bV.fM h).trans nt ((bV.seq h).trans nt ((bV.region h).trans nt ((bV.value h (o:=cp (some 0) (.move (.tmp 12))) (x:=val) rfl rfl (base_kind _) λw=>rfl).trans nt ((bV.value h (o:=cp (some 4) (.binOp .add 3 (.tmp 4) (cI 1) 3)) (x:=Y ((i+1:Nat):Int)) rfl rfl (base_kind _) λw=>by
   have:IntKind.i64.wrap ((i:Int)+1)=((i+1:Nat):Int):=by rw[IntKind.wrap_i64];omega
   simp[execOp,cp,Go.binOp,eqGuard,Op.intArith,Act.eval,Act.put,cI,this]).trans nt (bV.fM h)))))
 obtain⟨R,C⟩:=C;obtain⟨W,S,M⟩:=C.enter (Fin:=Fin) nt h (base_kind 138) (a:=⟨#[val,en,mo,Y n,Y ((i+1:Nat):Int),.bool true,j,l,r,y,f,g,val],[]⟩) (k:=[.inLoop (gG jf qf),.inBlock 0,.code .ret]);exact c1.trans nt ((bV.region h).trans nt (M.trans nt ((S.leave C nt).trans nt ((bV.fM h).trans nt (bV.inLoop h)))))
def Kf(hb:prog.info? bad=none)(hG:prog.globals.size<=G0.n)(hF:lq F)(nt:eF Fin)(f:zs≠[]){cap:Nat}(U:bs=some ea)(hz:QZ jf qf (.slice bs n cap) (Y cn) n i to z)(hm:(i:Int)<cn)(hi:i<n)(t:Tr (imag prog F) X T Fin z zs v)
  {V : Ak} (Z : V.size = 4) (g : ∀ j,j < 4 -> v.cell? ((ea.add (i * 4)).add j) = some (V.getD j undef)) {fq : Func} {c : Code} (hf : (imag prog F).funcs[qf]? = some fq) (P : (fq.name == "runtime.NumGoroutine") = false) (N : fq.body = some c) :
  ∃zb,QB jf qf (.slice bs n cap) (Y cn) n i zb/\Ru (imag prog F) Fin (z,zs,v) ((base qf).at { tmps:=#[to,.agg V]++Array.replicate (fq.ntmps-2) undef,defers:=[] } [.code c],zb::zs,v):=by
 obtain⟨x5,S,R,D,M,r,B,C,rfl⟩:=hz;have W:((i:Nat):Int)<n:=by omega
 have c1:bV (imag prog F) Fin ((base 138).at ⟨#[to,.slice bs n cap,Y cn,Y n,Y i,x5,S,R,D,M,r,B,C],[]⟩ [.code (gG jf qf),.inLoop (gG jf qf),.inBlock 0,.code .ret],zs) ((base 138).at ⟨#[to,.slice bs n cap,Y cn,Y n,Y i,.bool true,S,R,D,M,r,B,C],[]⟩ (.code (.seq (.region 4 #[cp (some 5) (.binOp .lss 3 (.tmp 4) (.tmp 3) 3)] false) (.seq (.cond (.tmp 5) .skip (.exit 0)) (.seq (.region 5 (lJ qf) false) (.seq (.region 6 #[cp (some 0) (.move (.tmp 12)),cp (some 4) (.binOp .add 3 (.tmp 4) (cI 1) 3)] false) (dC jf)))))::[.inLoop (gG jf qf),.inBlock 0,.code .ret]),zs):=
  (bV.seq f).trans nt ((bV.region f).trans nt ((bV.value f (o:=cp (some 5) (.binOp .lss 3 (.tmp 4) (.tmp 2) 3)) (x:=.bool true) rfl rfl (base_kind _) λw=>by simp[execOp,cp,Go.binOp,eqGuard,Op.intCmp,Act.eval,hm]).trans nt ((bV.fM f).trans nt ((bV.seq f).trans nt ((bV.cond f (t:=true) rfl).trans nt (bV.skip f))))))
 have c2:bV (imag prog F) Fin ((base 138).at ⟨#[to,.slice bs n cap,Y cn,Y n,Y i,.bool true,S,R,D,M,r,B,C],[]⟩ (.code (.seq (.region 4 #[cp (some 5) (.binOp .lss 3 (.tmp 4) (.tmp 3) 3)] false) (.seq (.cond (.tmp 5) .skip (.exit 0)) (.seq (.region 5 (lJ qf) false) (.seq (.region 6 #[cp (some 0) (.move (.tmp 12)),cp (some 4) (.binOp .add 3 (.tmp 4) (cI 1) 3)] false) (dC jf)))))::[.inLoop (gG jf qf),.inBlock 0,.code .ret]),zs) ((base 138).at ⟨#[to,.slice bs n cap,Y cn,Y n,Y i,.bool true,S,R,D,M,r,B,C],[]⟩ (.inRegion (lJ qf) [0,1,2]::[.code (.seq (.region 6 #[cp (some 0) (.move (.tmp 12)),cp (some 4) (.binOp .add 3 (.tmp 4) (cI 1) 3)] false) (dC jf)),.inLoop (gG jf qf),.inBlock 0,.code .ret]),zs):=
  (bV.seq f).trans nt ((bV.region f).trans nt ((bV.value f (o:=cp (some 5) (.binOp .lss 3 (.tmp 4) (.tmp 3) 3)) (x:=.bool true) rfl rfl (base_kind _) λw=>by simp[execOp,cp,Go.binOp,eqGuard,Op.intCmp,Act.eval,W]).trans nt ((bV.fM f).trans nt ((bV.seq f).trans nt ((bV.cond f (t:=true) rfl).trans nt ((bV.skip f).trans nt ((bV.seq f).trans nt (bV.region f))))))))
 have t2:=((c1.trans nt c2) v).tr nt t;dsimp only at t2;have hv:qn v:=t.unfold.1.ht.no;obtain⟨y,rfl,r3,t3⟩:=t2.pass (λy=>⟨#[to,.slice bs n cap,Y cn,Y n,Y i,.bool true,y,R,D,M,r,B,C],[]⟩) hb hG hF nt f rfl (o:=cp (some 6) (.indexAddr 159 (.tmp 1) (.tmp 4))) rfl rfl rfl (λ_=>rfl) (Φ:=λy=>y = .pointer (some (ea.add (i*4)))) (λnx v' h=>by obtain⟨ad,e1,e2⟩:=DW rfl rfl rfl hi h;rw[U]at e1;cases e1;exact⟨_,rfl,e2 v⟩)
 obtain⟨y,rfl,r4,t4⟩:=t3.pass (λy=>⟨#[to,.slice bs n cap,Y cn,Y n,Y i,.bool true,.pointer (some (ea.add (i*4))),y,D,M,r,B,C],[]⟩) hb hG hF nt f rfl (o:=cp (some 7) (.load 171 (.tmp 6))) rfl rfl rfl (λ_=>rfl) (Φ:=λy=>y = .agg V) (λnx v' h=>by
  obtain⟨a,b,c,d,rfl,rfl,h0,h1,h2,h3⟩:=DY hv rfl rfl h;refine⟨_,?_,h⟩;have k0:=h0.symm.trans (g 0 (by decide));have k1:=h1.symm.trans (g 1 (by decide));have k2:=h2.symm.trans (g 2 (by decide));have k3:=h3.symm.trans (g 3 (by decide));obtain⟨l⟩:=V;simp only[ay]at Z
  match l,Z with
  |[a',b',c',d'],_=>
   simp only[aH]at k0 k1 k2 k3;rw[k0,k1,k2,k3]
   rfl)
 refine⟨_,⟨to,.pointer (some (ea.add (i*4))),.agg V,D,M,r,B,C,rfl⟩,((c1.trans nt c2) v).trans nt (r3.trans nt (r4.trans nt ?_))⟩;have c5:=bV.call (Q:=imag prog F) (Fin:=Fin) (b:=base 138) (a:=⟨#[to,.slice bs n cap,Y cn,Y n,Y i,.bool true,.pointer (some (ea.add (i*4))),.agg V,D,M,r,B,C],[]⟩) (k:=[.code (.seq (.region 6 #[cp (some 0) (.move (.tmp 12)),cp (some 4) (.binOp .add 3 (.tmp 4) (cI 1) 3)] false) (dC jf)),.inLoop (gG jf qf),.inBlock 0,.code .ret]) (ops:=lJ qf) (i:=2) (rest:=[]) (o:=cp (some 12) (.call ⟨.value (.func qf),#[.tmp 0,.tmp 7],#[48,171]⟩)) (args:=#[.tmp 0,.tmp 7]) f rfl rfl (base_kind _) rfl hf P N;have e:(#[Operand.tmp 0,.tmp 7].map (Act.eval ⟨#[to,.slice bs n cap,Y cn,Y n,Y i,.bool true,.pointer (some (ea.add (i*4))),.agg V,D,M,r,B,C],[]⟩))=#[to,.agg V]:=by simp[Act.eval]
 rw[e]at c5;exact c5 v
end
end
end Go.Proofs.YthbdpfccfcceiaaGreatDoor
