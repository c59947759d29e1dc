/-
  Of hurt_card.
-/
import Derived.Conc.FxGenAddNeg
import Derived.Test.YthbdpfccfcceiaaGreatDoorZG8x
import Derived.Conc.FxFork
set_option linter.all false
namespace Go.Proofs.YthbdpfccfcceiaaGreatDoor
set_option maxRecDepth 100000
set_option maxHeartbeats 40000000
open Go.Proofs.Tryz
variable {v zd zj zv:D}{b sh:CommShape}{o:Obj}{K:Nat}{ea:Addr}{e:Event}
section
open Go.Conc Go.ConcX Go.ConcX.Gen Go.RowKit Go.Conc.Lib
open Go.ConcX (WgAt KK stA smA rd wr mk)
variable {L:WgLink}
def Rg{M:dI}{w:Z}(h:ls M w):∃v,w.cell? ⟨M.Wg,0,none⟩=some v:=by obtain⟨st,a,h⟩:=h;exact⟨_,h.cellSt⟩
def zT {P:Ad}:∀{n m d:Nat} {g:Ah},QuitsD P n d g->n<=m->QuitsD P m d g
 |0,0,_,_,h,_=>h
 |0,m+1,_,_,h,_=>.inl h
 |n+1,0,_,_,_,hm=>by omega
 |n+1,m+1,_,_,h,hm=>h.imp id λ⟨a,j,f,b,c,d⟩=>⟨a,j,f,b,c,zT d (by omega)⟩
def Jz{P:Ad}(H:WgLib P L){M:dI}(W:M.tWg=L.tWg){c:Ai}{cs:List Ai}(y:c.mode = .returning)(N:QuitsD P K 0 (G c cs))(w:Z)(f:ls M w) :
  Goes P false (RG M) DQ (uA P M) 30 (G ((baseD L.done).at ⟨#[ab M.Wg]++Array.replicate ((doneFn L).ntmps-1) undef,[]⟩ [.code ((doneFn L).body.getD .skip)]) (c::cs)) w:=by
 lib_facts
 have g:∀{w l:Z},ls M w->RG M w l->ls M l:=λh r=>r h
 simp only[doneFn,aC]
 walk_nrm
 u_reg g f
 u_op g f
 u_in g f
 refine goes_call rfl rfl (by k_ne) rfl H.f_add (nm_add L) rfl ⟨by u_nil,?_⟩
 walk_nrmf addFn
 u_c bP g f
 u_cond true g f
 iterate 2 u_c bP g f
 u_reg g f
 u_op g f
 u_op g f
 u_c bJ g f
 u_cond true g f
 u_reg g f
 u_op g f
 u_conv H.underlying_tWgP H.room_tWg (Rg f).choose_spec g f
 refine Goes.stop (λl j=>?_)
 replace f:=g f j
 clear j;refine⟨rfl,_,stepG_markAt .releaseMerge (by simp) rfl rfl (by k_ne) rfl H.f_relMerge (x_relMerge_n L) (x_relMerge_b L) (x_relMerge_x L) (x_relMerge_f L) (by simp[Act.eval,stA]),60,?_⟩
 walk_nrm
 u_c bJ g f
 u_c bP g f
 u_reg g f
 refine Goes.stop (λl j=>?_)
 replace f:=g f j
 clear j;refine⟨rfl,_,stepG_mark0 .disable (by simp) rfl rfl (by k_ne) rfl H.f_disable (x_disable_n L) (x_disable_b L) (x_disable_x L) (x_disable_f L),60,?_⟩
 walk_nrm
 u_c bJ g f
 u_reg g f
 u_defer g f
 u_c bJ g f
 u_c bP g f
 u_reg g f
 u_op g f
 u_c bJ g f
 iterate 2 u_c bP g f
 u_reg g f
 u_bub g f
 u_c bJ g f
 u_cond false g f
 u_c stepG_skip g f
 u_c bP g f
 u_reg g f
 iterate 6 u_op g f
 u_call H.f_uAdd (nm_uAdd L) uAddFn g f
 u_c bP g f
 u_reg g f
 u_op g f
 u_c bJ g f
 u_c bP g f
 u_reg g f
 iterate 4 u_op g f
 refine Goes.stop (λl j=>?_)
 replace f:=g f j
 clear j f;have e0:IntKind.u64.wrap (KK+18446744069414584320)=0:=by decide
 have e1:IntKind.u64.wrap (KK+1+18446744069414584320)=1:=by decide
 refine⟨rfl,λo=>?_,λo=>?_⟩
 .refine⟨_,(stepG_add_atomic rfl rfl (by k_ne) rfl H.f_addU64 (x_addU64_n L) (x_addU64_b L) (x_addU64_x L) .u64 (x_addU64_f L) rfl rfl o.cellSt (o.thaw 0)).trans (by rw[e0];rfl),K+100,?_⟩;clear o
  walk_nrm
  (co_applyP QuitsD.value _ rfl (by rfl) (by k_ne);(· intro _;go_simp;first|done | (w_num;exact rfl)|exact rfl);(· intro _;simp[go_sem, *]);walk_nrm)
  q_c bJ
  q_c stepG_ret'
  q_leave1 H.f_uAdd
  (co_applyP QuitsD.value _ rfl (by rfl) (by k_ne);(· intro _;go_simp;first|done | (w_num;exact rfl)|exact rfl);(· intro _;simp[go_sem, *]);walk_nrm)
  q_c bJ
  q_c bP
  q_c bP
  q_reg
  iterate 4 (co_applyP QuitsD.value _ rfl (by rfl) (by k_ne);(· intro _;go_simp;first|done | (w_num;exact rfl)|exact rfl);(· intro _;simp[go_sem, *]);walk_nrm)
  q_skip
  q_skip
  (co_applyP QuitsD.value _ rfl (by rfl) (by k_ne);(· intro _;go_simp;first|done | (w_num;exact rfl)|exact rfl);(· intro _;simp[go_sem, *]);walk_nrm)
  q_c bJ
  q_cond false
  q_c stepG_skip
  q_c bP
  q_reg
  iterate 4 (co_applyP QuitsD.value _ rfl (by rfl) (by k_ne);(· intro _;go_simp;first|done | (w_num;exact rfl)|exact rfl);(· intro _;simp[go_sem, *]);walk_nrm)
  q_c bJ
  q_c bP
  q_reg
  iterate 4 (co_applyP QuitsD.value _ rfl (by rfl) (by k_ne);(· intro _;go_simp;first|done | (w_num;exact rfl)|exact rfl);(· intro _;simp[go_sem, *]);walk_nrm)
  q_c bJ
  q_c bP
  q_c bP
  q_reg
  iterate 5 (co_applyP QuitsD.value _ rfl (by rfl) (by k_ne);(· intro _;go_simp;first|done | (w_num;exact rfl)|exact rfl);(· intro _;simp[go_sem, *]);walk_nrm)
  iterate 4 q_skip
  (co_applyP QuitsD.value _ rfl (by rfl) (by k_ne);(· intro _;go_simp;first|done | (w_num;exact rfl)|exact rfl);(· intro _;simp[go_sem, *]);walk_nrm)
  q_c bJ
  q_cond false
  q_c stepG_skip
  q_c bP
  q_c bP
  q_reg
  iterate 2 (co_applyP QuitsD.value _ rfl (by rfl) (by k_ne);(· intro _;go_simp;first|done | (w_num;exact rfl)|exact rfl);(· intro _;simp[go_sem, *]);walk_nrm)
  q_c bJ
  q_cond false
  q_c stepG_skip
  q_c bP
  q_c bP
  q_reg
  iterate 3 (co_applyP QuitsD.value _ rfl (by rfl) (by k_ne);(· intro _;go_simp;first|done | (w_num;exact rfl)|exact rfl);(· intro _;simp[go_sem, *]);walk_nrm)
  q_skip
  q_skip
  iterate 2 (co_applyP QuitsD.value _ rfl (by rfl) (by k_ne);(· intro _;go_simp;first|done | (w_num;exact rfl)|exact rfl);(· intro _;simp[go_sem, *]);walk_nrm)
  iterate 4 q_skip
  (co_applyP QuitsD.value _ rfl (by rfl) (by k_ne);(· intro _;go_simp;first|done | (w_num;exact rfl)|exact rfl);(· intro _;simp[go_sem, *]);walk_nrm)
  q_c bJ
  q_cond false
  q_c stepG_skip
  q_c bP
  q_c bP
  q_reg
  iterate 6 (co_applyP QuitsD.value _ rfl (by rfl) (by k_ne);(· intro _;go_simp;first|done | (w_num;exact rfl)|exact rfl);(· intro _;simp[go_sem, *]);walk_nrm)
  q_c bJ
  q_cond true
  q_c stepG_ret'
  q_enable
  q_leave0 H.f_add
  q_c bJ
  q_c stepG_end
  exact zT (QuitsD.leaveD rfl rfl H.f_done rfl y N) (by omega)
 .refine⟨_,(stepG_add_atomic rfl rfl (by k_ne) rfl H.f_addU64 (x_addU64_n L) (x_addU64_b L) (x_addU64_x L) .u64 (x_addU64_f L) rfl rfl o.cellSt (o.thaw 0)).trans (by rw[e1];rfl),150,?_⟩;have hF:=o.setSt 1;have a:∀{st Q:Int} {w l:Z},WgAt M.tWg M.Wg w st Q->RW M w l->WgAt M.tWg M.Wg l st Q:=λh r=>r.trans h
  clear o
  walk_nrm
  u_op a hF
  u_c bJ a hF
  u_c stepG_ret' a hF
  u_leave1 H.f_uAdd a hF
  u_op a hF
  u_c bJ a hF
  iterate 2 u_c bP a hF
  u_reg a hF
  iterate 4 u_op a hF
  iterate 2 u_skip a hF
  u_op a hF
  u_c bJ a hF
  u_cond false a hF
  u_c stepG_skip a hF
  u_c bP a hF
  u_reg a hF
  iterate 4 u_op a hF
  u_c bJ a hF
  u_c bP a hF
  u_reg a hF
  iterate 4 u_op a hF
  u_c bJ a hF
  iterate 2 u_c bP a hF
  u_reg a hF
  iterate 5 u_op a hF
  iterate 4 u_skip a hF
  u_op a hF
  u_c bJ a hF
  u_cond false a hF
  u_c stepG_skip a hF
  iterate 2 u_c bP a hF
  u_reg a hF
  iterate 2 u_op a hF
  u_c bJ a hF
  u_cond false a hF
  u_c stepG_skip a hF
  iterate 2 u_c bP a hF
  u_reg a hF
  iterate 7 u_op a hF
  iterate 4 u_skip a hF
  u_op a hF
  u_c bJ a hF
  u_cond false a hF
  u_c stepG_skip a hF
  iterate 2 u_c bP a hF
  u_reg a hF
  iterate 6 u_op a hF
  u_c bJ a hF
  u_cond false a hF
  u_c stepG_skip a hF
  iterate 2 u_c bP a hF
  u_reg a hF
  iterate 3 u_op a hF
  u_call H.f_uLoad (nm_uLoad L) uLoadFn a hF
  u_c bP a hF
  u_reg a hF
  u_op a hF
  u_c bJ a hF
  u_c bP a hF
  u_reg a hF
  iterate 3 u_op a hF
  refine Goes.stop (λR B=>⟨rfl,λhF=>?_⟩);clear B;refine⟨_,stepG_load_atomic rfl rfl (by k_ne) rfl H.f_loadU64 (x_loadU64_n L) (x_loadU64_b L) (x_loadU64_x L) .u64 (x_loadU64_f L) rfl hF.cellSt,80,?_⟩
  walk_nrm
  u_op a hF
  u_c bJ a hF
  u_c stepG_ret' a hF
  u_leave1 H.f_uLoad a hF
  iterate 2 u_op a hF
  u_c bJ a hF
  u_cond false a hF
  u_c stepG_skip a hF
  u_c bP a hF
  u_reg a hF
  iterate 3 u_op a hF
  u_call H.f_uStore (nm_uStore L) uStoreFn a hF
  u_reg a hF
  iterate 4 u_op a hF
  refine Goes.stop (λS C=>⟨rfl,λhF=>?_⟩);clear C;refine⟨_,stepG_store_atomic rfl rfl (by k_ne) rfl H.f_storeU64 (x_storeU64_n L) (x_storeU64_b L) (x_storeU64_x L) (x_storeU64_f L) rfl rfl hF.cellSt (hF.thaw 0),80,?_⟩
  replace hF:=hF.setSt 0
  walk_nrm
  u_c bJ a hF
  u_c stepG_end a hF
  u_leave0 H.f_uStore a hF
  u_c bJ a hF
  iterate 2 u_c bP a hF
  u_reg a hF
  u_op a hF
  u_c bJ a hF
  u_cond false a hF
  u_c stepG_skip a hF
  u_c stepG_block a hF
  u_c stepG_loop a hF
  iterate 2 u_c bP a hF
  u_reg a hF
  iterate 2 u_op a hF
  u_c bJ a hF
  u_cond true a hF
  u_c stepG_skip a hF
  u_c bP a hF
  u_c stepG_block a hF
  u_reg a hF
  iterate 3 u_op a hF
  refine Goes.stop (λU D=>⟨rfl,mayWake_entry rfl rfl H.f_semrelease (x_semrelease_b L),λhF=>?_⟩);clear D;refine⟨_,(stepG_semrelease rfl rfl (by k_ne) rfl H.f_semrelease (x_semrelease_n L) (x_semrelease_b L) (x_semrelease_x L) (x_semrelease_f L) (by simp[Act.eval,smA]) hF.cellSm (hF.thaw 1)).trans (by rfl),K+60,?_⟩;clear hF
  walk_nrm
  q_c bJ
  q_c stepG_inBlock
  q_reg
  iterate 3 (co_applyP QuitsD.value _ rfl (by rfl) (by k_ne);(· intro _;go_simp;first|done | (w_num;exact rfl)|exact rfl);(· intro _;simp[go_sem, *]);walk_nrm)
  q_c bJ
  q_c stepG_inLoop
  q_c bP
  q_c bP
  q_reg
  iterate 2 (co_applyP QuitsD.value _ rfl (by rfl) (by k_ne);(· intro _;go_simp;first|done | (w_num;exact rfl)|exact rfl);(· intro _;simp[go_sem, *]);walk_nrm)
  q_c bJ
  q_cond false
  q_exit
  q_c stepG_end
  q_enable
  q_leave0 H.f_add
  q_c bJ
  q_c stepG_end
  exact zT (QuitsD.leaveD rfl rfl H.f_done rfl y N) (by omega)
end
section
open Go.Conc Go.RowKit
def ve:f183.results=#[]/\f185.results=#[]:=⟨by rfl,by rfl⟩
def Md (a:Act)(h:a.defers=[])(todo:List Item):QuitsD prog 2 0 (G { (baseD 183).at a todo with mode:=.returning } [kZ prog]):=by
 refine QuitsD.ctl rfl (g':=G (kZ prog) []) (λw=>?_) (QuitsD.ctl rfl (g':={ G (kZ prog) []with status:=.finished }) (λw=>?_) ⟨rfl,rfl⟩)
 .have f:=results_none ve.1 a.tmps prog w;have g:=events_results_none (P:=prog) (w:=w) ve.1 a.tmps #[];simp[G,stepG,unwind,doReturn,Frame.at,baseD,h,func183,f,g,seen_none,GStep.after,kZ,goexitEntry]
 .simp[G,stepG,unwind,kZ,goexitEntry,Frame.catches]
  rfl
def PE{M:dI}{L:Lib.WgLink}(H:Lib.WgLib prog L)(C:M.tWg=L.tWg)(l:L.done=184){b4 b8 b9:Nat}{bs:Option Addr}{cap:Nat}(B:nL M b4 b8 b9 bs cap)(j:∀w s r,ls M w->ls M (w.setChan M.cS 0 #[] true s r false))(U:40<=K)
  (a:Act) (k:List Item) (w:Z) (N:a.defers=[gX M]) (hF:M.Ks w) {n:Nat} :
  Goes prog false (Rs M) (Ds M) (mF prog M K) n (G { (base 185).at a k with mode:=.returning } [oD f183 M b4 b8 b9 bs cap,kZ prog]) w:=by
 refine Goes.stop λf h=>⟨rfl,rfl,λs r Q=>?_⟩
 obtain⟨y,e1,e2⟩:=Qi (P:=prog) (M:=M) (main:=false) (b:=base 185) (todo:=k) (cs:=[oD f183 M b4 b8 b9 bs cap,kZ prog]) N Q;refine⟨_,y,e1,e2,?_⟩;have D:=j f s r (B.wg _ (h hF));generalize f.setChan M.cS 0 #[] true s r false=S at *;have T:=xa M;have o:(oE f183)=(oE f183):=rfl
 conv at o=>rhs;simp only[oE,f183,aC]
 refine Goes.mono (n:=30+4) ?_ (by omega);refine gZ T rfl (λw=>stepG_leave (b:=base 185) (c:=oD f183 M b4 b8 b9 bs cap) (v:=.tuple #[]) rfl rfl func185 (results_none ve.2 _ _ w) (events_results_none ve.2 _ _)) ?_;have g:(oD f183 M b4 b8 b9 bs cap).finish (.tuple #[])=(baseD 183).at ⟨#[ab M.Wg,ab b8,ab b4,ab b9,.chan (some M.cS),.slice bs M.n cap,.chan (some M.cD),.tuple #[]],[dcall 184 #[ab M.Wg]]⟩ [.inRegion (oE f183) []]:=by
  simp only[oD,o];rw[Frame.finish_at]
  rfl
 rw[g];refine eB T ?_;refine CM T ?_;have R:prog.funcs[184]?=some (Lib.doneFn L):=l ▸ H.f_done;refine gZ T rfl (λw=>stepG_unwind_enter (b:=baseD 183) rfl R (Go.ConcX.Gen.nm_done L) (c:=(Lib.doneFn L).body.getD .skip) rfl) ?_;have:=Jz H C (c:={ (baseD 183).at ⟨#[ab M.Wg,ab b8,ab b4,ab b9,.chan (some M.cS),.slice bs M.n cap,.chan (some M.cD),.tuple #[]],[]⟩ []with mode:=.returning }) (cs:=[kZ prog]) rfl (Md _ rfl []) S D;rw[l]at this;exact this
end
section
open Go.Conc
def Lay.meet (A:Lay):dI where
 cS:=A.cS
 cD:=A.cD
 Wg:=A.Wg
 tWg:=A.tWg
 n:=A.n
 E:=λj=>.agg (A.V j)
 zO:=.cells z171 171
 zv:=.agg z171
 zd:=.agg #[]
 Ks:=A.Ks
 Rd:=λl=>∃a:Addr,l = .cell a/\(a=⟨A.b4,0,none⟩\/a=⟨A.b8,0,none⟩\/a=⟨A.b9,0,none⟩\/∃ea j i,A.bs=some ea/\j<A.n/\i<4/\a=(ea.add (j*4)).add i)
 lo:=A.lo
def PX{w w':Z}(h:∀k,k<w.heap.size->w'.heap[k]?=w.heap[k]?):w.heap.size<=w'.heap.size:=by refine Nat.le_of_not_lt λa=>?_;have:=h w'.heap.size a;rw[Array.getElem?_eq_none (aW _),aP a]at this;cases this
def Lay.yv{A:Lay}(O:A.Ok)(a:0<A.n->A.bs=some ea)(f:∀j,j<A.n->(A.V j).size=4/\∀v∈A.V j,v.oneCell'=true):pd A.meet ea A.V where
 val j hj:=⟨rfl,(f j hj).1⟩
 one j hj:=(f j hj).2
 cells w hw j hj i hi:=hw.ef ea (a (by have:j<A.n:=hj;omega)) j hj i hi
 rd j hj i hi:=⟨_,rfl,.inr (.inr (.inr ⟨ea,j,i,a (by have:j<A.n:=hj;omega),hj,hi,rfl⟩))⟩
 zv:=rfl
 zd:=rfl
 zO:=rfl
 up w w' h hu:=Lay.Ks.up h O hu (PX hu)
 lo w h:=Lay.Ks.size h
 kL w w' z h hz ha:=Lay.Ks.kL h O hz ha
def qA{w:Z}{k:Nat}{x:D}{t:Af}(h:w.heap[k]?=some (.cells #[x] t)):w.cell? ⟨k,0,none⟩=some x:=by
 simp only[World.cell?,h]
 rfl
def Lay.boxes{A:Lay}{cap:Nat}(a:A.en = .slice A.bs A.n cap):nL A.meet A.b4 A.b8 A.b9 A.bs cap where
 c8 w h:=qA (Lay.Ks.r8 h)
 c9 w h:=qA (Lay.Ks.r9 h)
 c4 w h:=by have:=qA (Lay.Ks.r4 h);rw[a]at this;exact this
 r8:=⟨_,rfl,.inr (.inl rfl)⟩
 r9:=⟨_,rfl,.inr (.inr (.inl rfl))⟩
 r4:=⟨_,rfl,.inl rfl⟩
 wg w h:=Lay.Ks.wg h
def Lay.OT{A:Lay}(O:A.Ok){w:Z}(h:A.Ks w){a:Addr}(g:A.meet.Rd (.cell a))(m:Int):w.cell? ⟨a.block,a.off,none⟩≠some (.int .u8 m):=by
 obtain⟨y,e,g⟩:=g;cases e;rcases g with rfl|rfl|rfl|⟨ea,j,i,f,r,o,rfl⟩
 .rw[qA h.r4];simpa using O.Cb m
 .rw[qA h.r8];simp
 .rw[qA h.r9];simp
 .have:=h.ef ea f j r i o;intro hm;have l:((ea.add (j*4)).add i).spot=none:=by
   unfold World.cell? at this;split at this
   .split at this
    .cases this
    .rename_i B
     cases C:((ea.add (j*4)).add i).spot<;>simp_all
   .cases this
  have e:(⟨((ea.add (j*4)).add i).block,((ea.add (j*4)).add i).off,none⟩:Addr)=(ea.add (j*4)).add i:=by rw[<- l]
  rw[e,this]at hm;exact O.nb j r i o m (by simpa using hm)
def Lay.Fi{A:Lay}(O:A.Ok){cap:Nat}(hK:200<=K)(hn:A.n<2 ^ 40)(f:0<A.n->A.bs=some ea)(g:A.en = .slice A.bs A.n cap)(ht:A.tWg=294)(hV:∀j,j<A.n->(A.V j).size=4/\∀v∈A.V j,v.oneCell'=true)(w:Z)(h:A.Ks w) :
  Goes prog false (Rs A.meet) (Ds A.meet) (jW prog A.meet K A.n) K (born prog (jA A.meet A.b4 A.b8 A.b9)) w:=by
 have Y:=A.boxes g;refine(PD Y (n:=K-40) (λx3 x4 x5 x6 x7 y B C D N P Q R S U W w o=>?_) w h).mono (by omega);have l:∀w s r,ls A.meet w->ls A.meet (w.setChan A.cS 0 #[] true s r false):=by rintro w s r ⟨st,sm,hW⟩;refine⟨st,sm,?_⟩;show(w.setChan A.cS 0 #[] true s r false).heap[A.Wg]?=_;simp only[World.setChan];rw[aS (by have:=O.apart;omega)];exact hW
 have:=Fh (M:=A.meet) (bs:=A.bs) (cap:=cap) f (A.yv O f hV) hn K [oD f183 A.meet A.b4 A.b8 A.b9 A.bs cap,kZ prog] (λa k w ha o=>PE xn (by rw[show A.meet.tWg=A.tWg from rfl,ht];rfl) rfl Y l (by omega) a k w ha o) (by omega) A.n (aW _) x3 x4 x5 x6 x7 y B C D N P Q R S U W w o;rw[show A.meet.n-A.n=0 from Nat.sub_self _]at this;exact this
end
section
open Go.Conc
open Go.ConcN (sumTo upd sumTo_upd upd_ne upd_same)
structure eT (P:Ad)(gs:Array Ah)(t:Trace)(q:Nat->Nat)(z:Nat)(a c:Ah):Prop where
 g0:gs[0]?=some a
 gz:gs[z]?=some c
 pos:0<z
 old:∀(j:Nat) g,j≠0->j≠z->gs[j]?=some g->QuitsD P (q j) (Deaf t j) g
 above:∀j,gs.size<=j->Deaf t j=0
section
variable {P:Ad}{gs:Array Ah}{t u:Trace}{q:Nat->Nat}{z:Nat}{a a' c c':Ah}{w':Z}
def eT.lt (h:eT P gs t q z a c):z<gs.size:=(aO.1 h.gz).1
def eT.tO (h:eT P gs t q z a c)(D:∀op∈u,op.g=0)(x:Ah):eT P ((gs.map (woken P x a' w')).setIfInBounds 0 a') (t++u) q z a' (woken P x a' w' c):=by
 have C:=h.lt;have o:∀j,j≠0->Deaf (t++u) j=Deaf t j:=λj f=>Deaf_other t (g:=j) (g':=0) (λe=>f e.symm) _ D
 refine⟨aT (by simp;omega),?_,h.pos,λj g f l r=>?_,λj f=>?_⟩
 .rw[aS (by have:=h.pos;omega),Array.getElem?_map,h.gz];rfl
 .rw[aS (λe=>f e.symm),Array.getElem?_map]at r;obtain⟨y,M,rfl⟩:=aB.1 r;have B:=h.old j y f l M;rw[woken_quitsD B,o j f];exact B
 .simp only[Array.size_setIfInBounds,Array.size_map]at f;rw[o j (by omega)];exact h.above j f
def eT.tP (h:eT P gs t q z a c)(D:∀op∈u,op.g=z)(x:Ah):eT P ((gs.map (woken P x c' w')).setIfInBounds z c') (t++u) q z (woken P x c' w' a) c':=by
 have o:=h.lt;have r:∀j,j≠z->Deaf (t++u) j=Deaf t j:=λj l=>Deaf_other t (g:=j) (g':=z) (λe=>l e.symm) _ D
 refine⟨?_,?_,h.pos,λj g l f B=>?_,λj l=>?_⟩
 .rw[aS (by have:=h.pos;omega),Array.getElem?_map,h.g0];rfl
 .simp[o]
 .rw[aS (λe=>f e.symm),Array.getElem?_map]at B;obtain⟨y,M,rfl⟩:=aB.1 B;have C:=h.old j y l f M;rw[woken_quitsD C,r j f];exact C
 .simp only[Array.size_setIfInBounds,Array.size_map]at l;rw[r j (by omega)];exact h.above j l
def eT.Fj (h:eT P gs t q z a c)(hm:∀op∈u,op.act≠.mark .disable/\op.act≠.mark .enable):eT P ((gs.setIfInBounds z c').setIfInBounds 0 a') (t++u) q z a' c':=by
 have o:=h.lt;have hp:=h.pos;have r:∀j,Deaf (t++u) j=Deaf t j:=λj=>Go.ConcX.Deaf_keep t j u hm
 refine⟨aT (by simp;omega),?_,h.pos,λj g f l y=>?_,λj f=>?_⟩
 .rw[aS (by omega)];simp[o]
 .rw[aS (λe=>f e.symm),aS (λe=>l e.symm)]at y;rw[r];exact h.old j g f l y
 .simp only[Array.size_setIfInBounds]at f;rw[r];exact h.above j f
def su(h:e.mute=true):MemAct.ofEvent e = .mark .disable\/MemAct.ofEvent e = .mark .enable:=by
 obtain⟨l,x,y⟩:=e;cases l with
 |mark m=>cases m<;>simp[Event.mute]at h<;>simp[MemAct.ofEvent]
 |_=>simp[Event.mute]at h
def eT.step {w:Z}{sl:Option (Nat × Nat)}(h:eT P gs t q z a c)(a8:a.status = .running\/a.status = .blocked)(a9:c.status = .running\/c.status = .blocked\/c.status = .finished)(hr:a.status = .running\/c.status = .running) :
  ∃d o,(a.status = .running/\stepT P (crowd gs w sl)=runT P (crowd gs (w.at d) o) 0)\/(c.status = .running/\stepT P (crowd gs w sl)=runT P (crowd gs (w.at d) o) z)\/
   ∃N ops q' x x',stepT P (crowd gs w sl)=(.next (crowd N (w.at d) o),ops)/\eT P N (t++ops) q' z (woken P x x' (w.at d) a) (woken P x x' (w.at d) c)/\(∀op∈ops,op.act.touch?=none)/\(∀B,∀op∈ops,op.act.low B)/\(∀op∈ops,op.g≠0/\op.g≠z)/\(∀op∈ops,op.act = .mark .disable\/op.act = .mark .enable)/\N.size=gs.size/\sumTo gs.size q'<sumTo gs.size q:=by
 have a0:∀g∈gs,awake g:=by
  intro g M;obtain⟨i,r,rfl⟩:=Array.mem_iff_getElem.1 M
  by_cases D:i=0
  .subst D;have:gs[0]=a:=by simpa [aP r]using h.g0
   rw[this];exact awake_of (a8.imp id .inl)
  .by_cases U:i=z
   .subst U;have:gs[i]=c:=by simpa [aP r]using h.gz
    rw[this];exact awake_of a9
   .exact awake_of ((h.old i _ D U (aP r)).status.elim .inl λx=>.inr (.inr x))
 have a1:∃(i:Nat) (g:Ah),gs[i]?=some g/\g.status = .running:=hr.elim (λx=>⟨0,a,h.g0,x⟩) λx=>⟨z,c,h.gz,x⟩
 obtain⟨i,g,d,o,r,M,S⟩:=crowd_pick (P:=P) (w:=w) (sl:=sl) a0 a1;refine⟨d,o,?_⟩
 by_cases D:i=0
 .subst D;obtain rfl:g=a:=by rw[h.g0]at r;exact(aJ r).symm
  exact .inl ⟨M,S⟩
 by_cases U:i=z
 .subst U;obtain rfl:g=c:=by rw[h.gz]at r;exact(aJ r).symm
  exact .inr (.inl ⟨M,S⟩)
 refine .inr (.inr ?_);have hq:=h.old i g D U r;have a3:(i == 0)=false:=by simpa using D
 have Y:i<gs.size:=(aO.1 r).1;cases Q:q i with
 |zero=>rw[Q]at hq;rw[hq.1]at M;cases M
 |succ k=>
  rw[Q]at hq;rcases hq with⟨hf,_⟩|⟨_,g',es,hm,an,a7⟩
  .rw[hf]at M;cases M
  have R:=runT_crowd_go (P:=P) (sl:=o) (i:=i) r (by rw[a3];exact an (w.at d));have ba:sumTo gs.size (upd q i k)+(k+1)=sumTo gs.size q+k:=by have:=sumTo_upd q k id Y;simpa [Q]using this
  have l:∀op∈MemOp.ofEvents i g.frame.fn g.frame.place es,∃e∈es,op={ g:=i,fn:=g.frame.fn,pos:=g.frame.place,act:=.ofEvent e }:=λop f=>Go.Conc.mem_ofEvents f
  have ad:∀op∈MemOp.ofEvents i g.frame.fn g.frame.place es,op.g=i:=λop f=>by obtain⟨e,_,rfl⟩:=l op f;rfl
  refine⟨_,_,upd q i k,g,g',S.trans R,⟨?_,?_,h.pos,λj x hj a4 hx=>?_,λj hj=>?_⟩,λop f=>?_,λB op f=>?_,λop f=>?_,λop f=>?_,by simp,by omega⟩
  .rw[aS D,Array.getElem?_map,h.g0];rfl
  .rw[aS U,Array.getElem?_map,h.gz];rfl
  .by_cases C:i=j
   .subst C;rw[aT (by simpa using Y)]at hx;obtain rfl:=aJ hx;rw[upd_same,Deaf_own];exact a7
   .rw[aS C,Array.getElem?_map]at hx;obtain⟨y,hy,rfl⟩:=aB.1 hx;have am:=h.old j y hj a4 hy;rw[woken_quitsD am,upd_ne q k (Ne.symm C),Deaf_other t C _ ad];exact am
  .rw[Deaf_other t (g':=i) (by simp at hj;omega) _ ad];exact h.above j (by simpa using hj)
  .obtain⟨e,W,rfl⟩:=l op f;exact touch_mute (hm e W)
  .obtain⟨e,W,rfl⟩:=l op f;exact low_mute (hm e W) B
  .obtain⟨e,W,rfl⟩:=l op f;exact⟨D,U⟩
  .obtain⟨e,W,rfl⟩:=l op f;exact su (hm e W)
end
end
section
open Go.Conc
structure nK (A:Lay)(bW Zo:Loc->Prop):Prop where
 rd:∀l,bW l->¬A.meet.Rd l
 wg:∀l,bW l->¬iJ A.Wg l
 low:∀a:Addr,bW (.cell a)->a.block<A.lo
 zo:∀l,Zo l->∃a:Addr,l = .cell a/\A.lo<=a.block
section
variable {A:Lay}{bW Zo:Loc->Prop}{B:Nat}
def xb (a:Addr)(wr:Bool):(MemAct.ofEvent ⟨.cell a,wr,false⟩).touch?=some ⟨.cell a,wr,.plain⟩:=by cases wr<;>rfl
def tS(O:A.Ok){a:Addr}(h:A.meet.Rd (.cell a)):a.block<A.lo/\a.block≠A.Wg:=by
 obtain⟨a',e,h⟩:=h;cases e;have ap:=O.apart;rcases h with rfl|rfl|rfl|⟨ea,j,i,f,g,_,rfl⟩
 .exact⟨O.l4,by show A.b4≠A.Wg;omega⟩
 .exact⟨O.l8,by show A.b8≠A.Wg;omega⟩
 .exact⟨O.l9,by show A.b9≠A.Wg;omega⟩
 .rw[iq,iq];exact⟨O.le ea f (by omega),(O.old ea f (by omega)).2.2.2.2.2⟩
def DS (O:A.Ok)(f:nK A bW Zo)(M:A.lo<=B){e:Event}(h:rW A.meet e):Ok0 bW Zo A.meet.Rd A.Wg B (MemAct.ofEvent e):=by
 obtain⟨a,rfl,j⟩:=h;obtain⟨D,l⟩:=tS O j;refine⟨λb hb=>?_,?_⟩
 .rw[xb]at hb;cases hb;refine⟨λy=>bx j (f.rd _ y),λC=>?_,λ_=>rfl,λo=>?_,λr e=>by cases e⟩
  .obtain⟨a',e,g⟩:=f.zo _ C;cases e;omega
  .obtain⟨a',e,g⟩:=o;cases e;exact bx g l
 .show a.block<B;omega
def DU (O:A.Ok)(g:nK A bW Zo)(r:A.lo<=B){e:Event}(h:rW A.meet e):ku bW Zo A.meet.Rd A.Wg B (MemAct.ofEvent e):=by
 obtain⟨a,rfl,f⟩:=h;obtain⟨l,o⟩:=tS O f;refine⟨λb hb _=>?_,?_⟩
 .rw[xb]at hb;cases hb;exact⟨λj=>bx f (g.rd _ j),.inr (.inl ⟨f,rfl,by simp⟩)⟩
 .show a.block<B;omega
def M4(O:A.Ok)(f:nK A bW Zo){a:Addr}{wr:Bool}(j:A.lo<=a.block)(g:a.block<B)(y:¬Zo (.cell a)):Ok0 bW Zo A.meet.Rd A.Wg B (MemAct.ofEvent ⟨.cell a,wr,false⟩):=by
 refine⟨λb hb=>?_,g⟩;rw[xb]at hb;cases hb;refine⟨λo=>?_,y,λl=>?_,λh=>?_,λr e=>by cases e⟩
 .have:=f.low a o;omega
 .have:=(tS O l).1;omega
 .obtain⟨a',e,C⟩:=h;cases e;have:=O.lW;omega
def M7(f:nK A bW Zo){a:Addr}{wr:Bool}(h:A.lo<=a.block)(g:a.block<B)(l:Zo (.cell a)):ku bW Zo A.meet.Rd A.Wg B (MemAct.ofEvent ⟨.cell a,wr,false⟩):=by refine⟨λb hb _=>?_,g⟩;rw[xb]at hb;cases hb;exact⟨λj=>by have:=f.low a j;omega,.inl ⟨l,by simp⟩⟩
def M2 (O:A.Ok){S:Nat->Prop}(o:∀l,bW l->∃a:Addr,l = .cell a/\S a.block)(C:∀l,Zo l->∃a:Addr,l = .cell a/\S a.block)(hW:S A.Wg){w w':Z}{es:Array Event}(hk:A.Ks w)(hm:nN S w w' es)(hB:w'.heap.size<=B){e:Event}(U:e∈es):Ok0 bW Zo A.meet.Rd A.Wg B (MemAct.ofEvent e):=by
 have h:=hm.Cg e U;have R:=hm.wr e U;obtain⟨l,x,y⟩:=e;cases l with
 |cell a=>
  simp only[fX]at h;have g:(MemAct.ofEvent ⟨.cell a,x,y⟩).low B:=by
   have:a.block<B:=by omega
   cases y<;>exact this
  refine⟨λb hb=>?_,g⟩;have f:b.loc = .cell a/\b.write=x:=by cases y<;>(simp[MemAct.ofEvent,MemAct.touch?]at hb;subst hb;exact⟨rfl,rfl⟩)
  rw[f.1,f.2];have no:∀Q:Loc->Prop,(∀l,Q l->∃a:Addr,l = .cell a/\S a.block)->¬Q (.cell a):=λQ hQ hq=>by obtain⟨a',e,hS⟩:=hQ _ hq;cases e;exact h.1 hS
  refine⟨λP=>bx P (no _ o),no _ C,λN=>?_,λM=>?_,λr e=>by rw[f.1]at e;cases e⟩
  .cases x with
   |false=>rfl
   |true=>obtain⟨a',m,e,hb⟩:=R rfl;cases e;exact bx hb (A.OT O hk N m)
  .obtain⟨a',e,Y⟩:=M;cases e;rw[Y]at h;exact bx hW h.1
 |obj r=>
  simp only[fX]at h;have N:r<B:=by omega
  have g:(MemAct.ofEvent ⟨.obj r,x,y⟩).low B:=by cases x<;>cases y<;>exact N
  refine⟨λb hb=>?_,g⟩;have f:b.loc = .obj r:=by cases x<;>cases y<;>(simp[MemAct.ofEvent,MemAct.touch?]at hb<;>(subst hb;rfl))
  have D:b.write=x:=by cases x<;>cases y<;>(simp[MemAct.ofEvent,MemAct.touch?]at hb<;>(subst hb;rfl))
  have j:uF b:=λ_ _ W=>by rw[D]at W;subst W;obtain⟨a',m,e,_⟩:=R rfl;cases e
  rw[f];refine⟨λP=>?_,λhz=>?_,λhd=>?_,λM=>?_,j⟩
  .obtain⟨a',e,_⟩:=o _ P;cases e
  .obtain⟨a',e,_⟩:=C _ hz;cases e
  .obtain⟨a',e,_⟩:=hd;cases e
  .obtain⟨a',e,_⟩:=M;cases e
 |mark m=>simp only[fX]at h;subst h;exact⟨λb hb=>by simp[MemAct.ofEvent,MemAct.touch?]at hb,trivial⟩
 |output=>simp only[fX]at h
 |goroutines=>simp only[fX]at h
end
structure dh (F:Array Func)(X:Ag->Prop)(T:dq)(Fin:Ai->Z->Prop)(G0:Base)(A:Lay)(bW:Loc->Prop)(z:Nat)(gs:Array Ah)(w:Z)(t:Trace)(q:Nat->Nat)(a c:Ah)(xq:Ai × List Ai × Z)(S:Nat->Prop)(Zo:Loc->Prop):Prop where
 two:eT prog gs t q z a c
 pt:PT bW Zo A.meet.Rd A.Wg z w.heap.size t
 fV:cM G0 0 S w xq.2.2
 tr:Tr (imag prog F) X T Fin xq.1 xq.2.1 xq.2.2
 ks:A.Ks w
 ap:nK A bW Zo
 fN:∀l,bW l->∃a:Addr,l = .cell a/\S a.block
 zo:∀l,Zo l->∃a:Addr,l = .cell a/\S a.block
 sW:S A.Wg
 sS:S A.cS
 sD:S A.cD
 nW:G0.m<=A.Wg
 nS:G0.m<=A.cS
 nD:G0.m<=A.cD
section
variable {F:Array Func}{X:Ag->Prop}{T:dq}{Fin:Ai->Z->Prop}{G0:Base}{A:Lay}{bW Zo:Loc->Prop}{z:Nat}{gs:Array Ah}{w w':Z}{t:Trace}{q:Nat->Nat}{a a' c c':Ah}{xq:Ai × List Ai × Z}{S:Nat->Prop}{sl:Option (Nat × Nat)}{es:Array Event}
def Lay.Ks.at (h:A.Ks w)(d:Nat):A.Ks (w.at d):=⟨h.size,h.r4,h.r8,h.r9,h.ef,h.wg⟩
abbrev gC (a:Ah)(es:Array Event):Trace:=MemOp.ofEvents 0 a.frame.fn a.frame.place es
abbrev jC (z:Nat)(c:Ah)(es:Array Event):Trace:=MemOp.ofEvents z c.frame.fn c.frame.place es
def dh.EB (h:dh F X T Fin G0 A bW z gs w t q a c xq S Zo)(B:stepG prog true a w = .go a' w es)(y:∀e∈es,Ok0 bW Zo A.meet.Rd A.Wg w.heap.size (MemAct.ofEvent e)) :
  ∃l,runT prog (crowd gs w sl) 0=(.next (crowd l w sl),gC a es)/\l.size=gs.size/\dh F X T Fin G0 A bW z l w (t++gC a es) q a' (woken prog a a' w c) xq S Zo:=by
 have o:=runT_crowd_go (P:=prog) (sl:=sl) (i:=0) h.two.g0 (show stepG prog (0 == 0) a w=_ from B);have j:∀op∈MemOp.ofEvents 0 a.frame.fn a.frame.place es,∃e∈es,op={ g:=0,fn:=a.frame.fn,pos:=a.frame.place,act:=.ofEvent e }:=λop f=>Go.Conc.mem_ofEvents f
 refine⟨_,o,by simp,⟨h.two.tO (λop f=>?_) a,h.pt.app0 λop f=>?_,h.fV,h.tr,h.ks,h.ap,h.fN,h.zo,h.sW,h.sS,h.sD,h.nW,h.nS,h.nD⟩⟩
 .obtain⟨e,_,rfl⟩:=j op f;rfl
 .obtain⟨e,r,rfl⟩:=j op f;exact⟨rfl,y e r⟩
def dh.Oz (h:dh F X T Fin G0 A bW z gs w t q a c xq S Zo)(B:stepG prog false c w = .go c' w es)(y:∀e∈es,ku bW Zo A.meet.Rd A.Wg w.heap.size (MemAct.ofEvent e)) :
  ∃l,runT prog (crowd gs w sl) z=(.next (crowd l w sl),jC z c es)/\l.size=gs.size/\dh F X T Fin G0 A bW z l w (t++jC z c es) q (woken prog c c' w a) c' xq S Zo:=by
 have C:(z == 0)=false:=by have:=h.two.pos;simp;omega
 have o:=runT_crowd_go (P:=prog) (sl:=sl) (i:=z) h.two.gz (by rw[C];exact B);have j:∀op∈MemOp.ofEvents z c.frame.fn c.frame.place es,∃e∈es,op={ g:=z,fn:=c.frame.fn,pos:=c.frame.place,act:=.ofEvent e }:=λop f=>Go.Conc.mem_ofEvents f
 refine⟨_,o,by simp,⟨h.two.tP (λop f=>?_) c,h.pt.uS λop f=>?_,h.fV,h.tr,h.ks,h.ap,h.fN,h.zo,h.sW,h.sS,h.sD,h.nW,h.nS,h.nD⟩⟩
 .obtain⟨e,_,rfl⟩:=j op f;rfl
 .obtain⟨e,r,rfl⟩:=j op f;exact⟨rfl,y e r⟩
def dh.at (h:dh F X T Fin G0 A bW z gs w t q a c xq S Zo)(d:Nat):dh F X T Fin G0 A bW z gs (w.at d) t q a c xq S Zo:=
 ⟨h.two,h.pt,rI h.fV,h.tr,h.ks.at d,h.ap,h.fN,h.zo,h.sW,h.sS,h.sD,h.nW,h.nS,h.nD⟩
end
end
section
open Go.Conc
open Relation (TransGen)
section
variable {F:Array Func}{X:Ag->Prop}{T:dq}{Fin:Ai->Z->Prop}{G0:Base}{A:Lay}{bW Zo:Loc->Prop}{z:Nat}{gs:Array Ah}{w w':Z}{t:Trace}{q:Nat->Nat}{a a' c c':Ah}{xq xq':Ai × List Ai × Z}{S:Nat->Prop}{sl:Option (Nat × Nat)}{es:Array Event}
def dh.Dp (h:dh F X T Fin G0 A bW z gs w t q a c xq S Zo)(O:A.Ok)(C:stepG prog true a w = .go a' w' es)(hm:nN S w w' es)(r:cM G0 0 S w' xq'.2.2)(B:Tr (imag prog F) X T Fin xq'.1 xq'.2.1 xq'.2.2) :
  ∃l,runT prog (crowd gs w sl) 0=(.next (crowd l w' sl),gC a es)/\l.size=gs.size/\dh F X T Fin G0 A bW z l w' (t++gC a es) q a' (woken prog a a' w' c) xq' S Zo:=by
 have o:=runT_crowd_go (P:=prog) (sl:=sl) (i:=0) h.two.g0 (show stepG prog (0 == 0) a w=_ from C);have j:∀op∈MemOp.ofEvents 0 a.frame.fn a.frame.place es,∃e∈es,op={ g:=0,fn:=a.frame.fn,pos:=a.frame.place,act:=.ofEvent e }:=λop f=>Go.Conc.mem_ofEvents f
 refine⟨_,o,by simp,⟨h.two.tO (λop f=>?_) a,(h.pt.mono hm.oh.size).app0 λop f=>?_,r,B,h.ks.Mu O (λb hb=>hb.2) hm.oh,h.ap,h.fN,h.zo,h.sW,h.sS,h.sD,h.nW,h.nS,h.nD⟩⟩
 .obtain⟨e,_,rfl⟩:=j op f;rfl
 .obtain⟨e,y,rfl⟩:=j op f;exact⟨rfl,M2 O h.fN h.zo h.sW h.ks hm (aW _) y⟩
def cM.zJ{v:Z}(h:cM G0 0 S w v)(hG:G0.m<=w.heap.size)(D:(∀a l,o≠.number a l)/\∀a t,o≠.view a t)(τ:Nat->Question->Nat)(d:Nat):cM G0 0 (λk=>S k\/k=w.heap.size) (cy w o) (jJ (cy v lA) τ d):=by
 have g:∀(x:Array Obj) (y:Obj) (k:Nat),k≠x.size->(x.push y)[k]?=x[k]?:=λx y k f=>by rw[aq,if_neg f]
 have old:∀(x:Array Obj) (y:Obj) (k:Nat) z,x[k]?=some z->(x.push y)[k]?=some z:=λx y k z e=>by have:=(aO.1 e).1;rw[g x y k (by omega)];exact e
 have B:∀(x:Array Obj) (y:Obj),(x.push y)[x.size]?=some y:=λx y=>by rw[aq,if_pos rfl]
 refine⟨?_,λk f=>?_,λk f=>?_,λk f=>?_,λk f=>?_,λi M=>bx M (by omega),h.os,h.output,λk z P=>(h.fix k z P).imp (old _ _ _ _) λ⟨x,e1,e2⟩=>⟨x,old _ _ _ _ e1,e2⟩⟩
 .show(v.heap.push lA).size=(w.heap.push o).size;simp[h.size]
 .have C:¬S k:=λN=>f (.inl N)
  have r:k≠w.heap.size:=λe=>f (.inr e)
  show pn (v.heap.push lA)[k]? (w.heap.push o)[k]?;rw[g _ _ _ (by rw[h.size];exact r),g _ _ _ r];exact h.same k C
 .show ∃Q,(v.heap.push lA)[k]?=_
  by_cases j:k=w.heap.size
  .rw[j,<- h.size,B];exact⟨(0,0),rfl⟩
  .rw[g _ _ _ (by rw[h.size];exact j)];exact h.hole k (f.resolve_right j)
 .show(∀a l,(w.heap.push o)[k]?≠_)/\∀a t,(w.heap.push o)[k]?≠_
  by_cases j:k=w.heap.size
  .rw[j,B];exact⟨λa l e=>D.1 a l (aJ e),λa t e=>D.2 a t (aJ e)⟩
  .rw[g _ _ _ j];exact h.eH k (f.resolve_right j)
 .rcases f with f|rfl
  .exact h.high k f
  .exact⟨aX G0.nm hG,λh=>bx h (by omega)⟩
def dh.Oc(h:dh F X T Fin G0 A bW z gs w t q a c xq S Zo)(O:A.Ok)(hG:G0.m<=A.lo)(D:(∀a l,o≠.number a l)/\∀a t,o≠.view a t)(M:stepG prog true a w = .go a' (cy w o) #[]){τ:Nat->Question->Nat}{d:Nat}(N:xq'.2.2=jJ (cy xq.2.2 lA) τ d)(B:Tr (imag prog F) X T Fin xq'.1 xq'.2.1 xq'.2.2) :
  ∃f,runT prog (crowd gs w sl) 0=(.next (crowd f (cy w o) sl),gC a #[])/\f.size=gs.size/\dh F X T Fin G0 A bW z f (cy w o) (t++gC a #[]) q a' (woken prog a a' (cy w o) c) xq' (λk=>S k\/k=w.heap.size) Zo:=by
 have j:=runT_crowd_go (P:=prog) (sl:=sl) (i:=0) h.two.g0 (show stepG prog (0 == 0) a w=_ from M);have r:w.heap.size<=(cy w o).heap.size:=by simp[cy]
 refine⟨_,j,by simp,⟨h.two.tO (λop g=>?_) a,(h.pt.mono r).app0 λop g=>?_,?_,B,h.ks.up O (λk Q=>?_) r,h.ap,λl y=>?_,λl y=>?_,.inl h.sW,.inl h.sS,.inl h.sD,h.nW,h.nS,h.nD⟩⟩
 .obtain⟨e,C,rfl⟩:=Go.Conc.mem_ofEvents g;rfl
 .obtain⟨e,C,rfl⟩:=Go.Conc.mem_ofEvents g;simp at C
 .rw[N];exact h.fV.zJ (aX hG h.ks.size) D τ d
 .show(w.heap.push o)[k]?=_;rw[aq,if_neg (by omega)]
 .obtain⟨b,e,hb⟩:=h.fN l y;exact⟨b,e,.inl hb⟩
 .obtain⟨b,e,hb⟩:=h.zo l y;exact⟨b,e,.inl hb⟩
def dh.Oe(h:dh F X T Fin G0 A bW z gs w t q a c xq S Zo)(O:A.Ok)(hG:G0.m<=A.lo)(D:(∀a l,o≠.number a l)/\∀a t,o≠.view a t)(M:stepG prog false c w = .go c' (cy w o) #[]){τ:Nat->Question->Nat}{d:Nat}(N:xq'.2.2=jJ (cy xq.2.2 lA) τ d)(B:Tr (imag prog F) X T Fin xq'.1 xq'.2.1 xq'.2.2) :
  ∃g,runT prog (crowd gs w sl) z=(.next (crowd g (cy w o) sl),jC z c #[])/\g.size=gs.size/\dh F X T Fin G0 A bW z g (cy w o) (t++jC z c #[]) q (woken prog c c' (cy w o) a) c' xq' (λk=>S k\/k=w.heap.size) (λl=>Zo l\/iJ w.heap.size l):=by
 have Q:(z == 0)=false:=by have:=h.two.pos;simp;omega
 have r:=runT_crowd_go (P:=prog) (sl:=sl) (i:=z) h.two.gz (by rw[Q];exact M);have y:w.heap.size<=(cy w o).heap.size:=by simp[cy]
 refine⟨_,r,by simp,⟨h.two.tP (λop j=>?_) c,((h.pt.grow (aW _)).mono y).uS λop j=>?_,?_,B,h.ks.up O (λk R=>?_) y,⟨h.ap.rd,h.ap.wg,h.ap.low,λl f=>?_⟩,λl f=>?_,λl f=>?_,.inl h.sW,.inl h.sS,.inl h.sD,h.nW,h.nS,h.nD⟩⟩
 .obtain⟨e,C,rfl⟩:=Go.Conc.mem_ofEvents j;rfl
 .obtain⟨e,C,rfl⟩:=Go.Conc.mem_ofEvents j;simp at C
 .rw[N];exact h.fV.zJ (aX hG h.ks.size) D τ d
 .show(w.heap.push o)[k]?=_;rw[aq,if_neg (by omega)]
 .rcases f with f|⟨b,rfl,hb⟩
  .exact h.ap.zo l f
  .exact⟨b,rfl,by rw[hb];exact h.ks.size⟩
 .obtain⟨b,e,hb⟩:=h.fN l f;exact⟨b,e,.inl hb⟩
 .rcases f with f|⟨b,rfl,hb⟩
  .obtain⟨b,e,hb⟩:=h.zo l f;exact⟨b,e,.inl hb⟩
  .exact⟨b,rfl,.inr hb⟩
def cM.Kz {v:Z}(h:cM G0 0 S w v){r:Nat}(y:S r)(g:∀o,w.heap[r]?=some o->¬ju o)(a:∀k,k≠r->w'.heap[k]?=w.heap[k]?)(k:Nat)(o:Obj)(f:G0.eH k=some o):w'.heap[k]?=some o\/∃j,v.heap[k]?=some j/\¬blank j:=by
 by_cases e:k=r
 .subst e
  exfalso
  rcases h.fix k o f with e|⟨j,e,nb⟩
  .exact g o e (G0.kind k o f)
  .obtain⟨B,l⟩:=h.hole k y;rw[e]at l;cases l;exact nb ⟨rfl,rfl⟩
 .rw[a k e];exact h.fix k o f
def cM.kL {v:Z}(h:cM G0 0 S w v){r:Nat}(B:S r)(a:∃c t g,w.heap[r]?=some (.cells c t g))(f:jV r w w'):cM G0 0 S w' v:=by
 refine⟨h.size.trans f.size.symm,λk j=>?_,h.hole,λk j=>?_,h.high,λi C=>bx C (by omega),h.os.trans f.os.symm,h.output.trans f.output.symm,h.Kz B (λo e=>by obtain⟨c,t,g,l⟩:=a;rw[l]at e;cases e;exact id) f.rest⟩
 .rw[f.rest k λe=>j (e ▸ B)];exact h.same k j
 .by_cases e:k=r
  .subst e;obtain⟨c,t,g,l⟩:=a;obtain⟨c',y⟩:=f.row c t g l;rw[y];exact⟨λ_ _ e=>(by cases e),λ_ _ e=>(by cases e)⟩
  .rw[f.rest k e];exact h.eH k j
def dh.Hg (h:dh F X T Fin G0 A bW z gs w t q a c xq S Zo)(O:A.Ok){r:Nat}(R:S r)(B:A.lo<=r)(Q:r<w.heap.size)(C:∀b:Addr,b.block=r->¬Zo (.cell b))(l:∃c t N,w.heap[r]?=some (.cells c t N))(U:stepG prog true a w = .go a' w' es)(y:Dz A.meet r w w' es) :
  ∃f,runT prog (crowd gs w sl) 0=(.next (crowd f w' sl),gC a es)/\f.size=gs.size/\dh F X T Fin G0 A bW z f w' (t++gC a es) q a' (woken prog a a' w' c) xq S Zo:=by
 have j:=runT_crowd_go (P:=prog) (sl:=sl) (i:=0) h.two.g0 (show stepG prog (0 == 0) a w=_ from U);have o:=y.1.size;refine⟨_,j,by simp,⟨h.two.tO (λop g=>?_) a,(h.pt.mono (Nat.le_of_eq o.symm)).app0 λop g=>?_,h.fV.kL R l y.1,h.tr,h.ks.kL O B y.1,h.ap,h.fN,h.zo,h.sW,h.sS,h.sD,h.nW,h.nS,h.nD⟩⟩
 .obtain⟨e,M,rfl⟩:=Go.Conc.mem_ofEvents g;rfl
 .obtain⟨e,M,rfl⟩:=Go.Conc.mem_ofEvents g;refine⟨rfl,?_⟩;rcases y.2 e M with D | ⟨b,x,rfl,hb⟩
  .exact DS O h.ap (by rw[o];exact h.ks.size) D
  .exact M4 O h.ap (by omega) (by omega) (C b hb)
def dh.Hi (h:dh F X T Fin G0 A bW z gs w t q a c xq S Zo)(O:A.Ok){r:Nat}(R:S r)(B:A.lo<=r)(Q:r<w.heap.size)(W:∀b:Addr,b.block=r->Zo (.cell b))(l:∃c t N,w.heap[r]?=some (.cells c t N))(U:stepG prog false c w = .go c' w' es)(y:Dz A.meet r w w' es) :
  ∃f,runT prog (crowd gs w sl) z=(.next (crowd f w' sl),jC z c es)/\f.size=gs.size/\dh F X T Fin G0 A bW z f w' (t++jC z c es) q (woken prog c c' w' a) c' xq S Zo:=by
 have D:(z == 0)=false:=by have:=h.two.pos;simp;omega
 have j:=runT_crowd_go (P:=prog) (sl:=sl) (i:=z) h.two.gz (by rw[D];exact U);have o:=y.1.size;refine⟨_,j,by simp,⟨h.two.tP (λop g=>?_) c,(h.pt.mono (Nat.le_of_eq o.symm)).uS λop g=>?_,h.fV.kL R l y.1,h.tr,h.ks.kL O B y.1,h.ap,h.fN,h.zo,h.sW,h.sS,h.sD,h.nW,h.nS,h.nD⟩⟩
 .obtain⟨e,M,rfl⟩:=Go.Conc.mem_ofEvents g;rfl
 .obtain⟨e,M,rfl⟩:=Go.Conc.mem_ofEvents g;refine⟨rfl,?_⟩;rcases y.2 e M with C | ⟨b,x,rfl,hb⟩
  .exact DU O h.ap (by rw[o];exact h.ks.size) C
  .exact M7 h.ap (by omega) (by omega) (W b hb)
end
end
section
open Go.Conc
open Go.ConcX (WgAt KK stA smA rd wr mk)
def Told (W z:Nat)(t:Trace):Prop:=
 ∃r,t.act? r=some (.mark (.releaseMerge (stA W)))/\t.g? r=some z/\t.heard r/\(∀i,r<i->t.g? i=some z->¬t.counts i)/\∀k,r<k->t.act? k≠some (.mark (.release (stA W)))
section
variable {W z:Nat}{t u:Trace}
def uQ{i:Nat}{x:MemAct}(h:t.act? i=some x):i<t.size:=by obtain⟨y,a,_⟩:=aB.1 h;exact lt_size_of_getElem? a
def Be {i:Nat}(h:i<t.size):(t++u).act? i=t.act? i:=by simp[Trace.act?,getElem?_append_old h]
def Told.push (h:Told W z t)(op:MemOp)(hz:op.g=z->∀x,op.act.touch?=some x->x.kind = .atomic/\Deaf t z≠0)(hr:op.act≠.mark (.release (stA W))):Told W z (t++#[op]):=by
 obtain⟨r,M,Q,R,S,U⟩:=h;have f:=uQ M;have a:(t++#[op])[t.size]?=some op:=by simp
 refine⟨r,by rw[Be f];exact M,by rw[g?_old f];exact Q,(heard_old f).2 R,λi Y o N=>?_,λk Z e=>?_⟩
 .rcases Nat.lt_or_ge i t.size with l|l
  .exact S i Y (by rw[<- g?_old (u:=#[op]) l];exact o) ((counts_old l).1 N)
  .have C:i=t.size:=by unfold Trace.g? at o;obtain⟨y,hy,_⟩:=aB.1 o;have:=lt_size_of_getElem? hy;simp at this;omega
   subst C;obtain⟨x,hx,_,j⟩:=N;have e1:op.g=z:=by simpa [Trace.g?,a]using o
   have e2:op.act.touch?=some x:=by simpa [Trace.act?,a]using hx
   obtain⟨k1,k2⟩:=hz e1 x e2;rcases j with j|⟨g,B,P⟩
   .exact j k1
   .have:g=z:=by simpa [Trace.g?,a,e1]using B.symm
    subst this;rw[deaf_old (aW _)]at P;exact k2 P
 .rcases Nat.lt_or_ge k t.size with l|l
  .exact U k Z (by rw[<- Be (u:=#[op]) l];exact e)
  .have:=uQ e;simp at this;have D:k=t.size:=by omega
   subst D;exact hr (by simpa [Trace.act?,a]using e)
def Told.others (h:Told W z t)(j:∀op∈u,op.g≠z)(f:∀op∈u,op.act≠.mark (.release (stA W))):Told W z (t++u):=by
 obtain⟨l⟩:=u
 induction l generalizing t with
 |nil=>simpa using h
 |cons y l o=>
  have e:t++(y::l).toArray=(t++#[y])++l.toArray:=by simp
  rw[e];exact o (h.push y (λe=>bx e (j y (by simp))) (f y (by simp))) (λop a=>j op (by simp at a ⊢;exact .inr a)) λop a=>f op (by simp at a ⊢;exact .inr a)
def Told.said (f:Deaf t z=0)(fn:Ag)(pos:String):Told W z (t++#[{ g:=z,fn:=fn,pos:=pos,act:=.mark (.releaseMerge (stA W)) }]):=by
 refine⟨t.size,by simp[Trace.act?],by simp[Trace.g?],⟨z,by simp[Trace.g?],by rw[deaf_old (aW _)];exact f⟩,λi j a=>?_,λk l e=>?_⟩
 .exfalso
  unfold Trace.g? at a;obtain⟨y,h,_⟩:=aB.1 a;have:=lt_size_of_getElem? h;simp at this;omega
 .have:=uQ e;simp at this;omega
structure dN (W z d0 dz:Nat)(said:Bool)(t:Trace):Prop where
 d0:Deaf t 0=d0
 dz:Deaf t z=dz
 told:said=true->Told W z t
variable {d0 dz:Nat}{said:Bool}
def so (W:Nat)(e:Event):Prop:=e.loc = .mark .disable\/e.loc = .mark .enable\/e.loc = .mark (.release (stA W))
def tC{m:Mark}(h:MemAct.ofEvent e = .mark m):e.loc = .mark m:=by
 obtain⟨l,x,y⟩:=e;cases l with
 |mark f=>simp[MemAct.ofEvent]at h;simp[h]
 |obj r=>cases x<;>cases y<;>simp[MemAct.ofEvent]at h
 |cell a=>cases y<;>simp[MemAct.ofEvent]at h
 |_=>cases y<;>simp[MemAct.ofEvent]at h
def dN.zero(h:dN W z d0 dz said t)(y:0<z)(fn:Ag)(pos:String){es:Array Event}(o:∀e∈es,¬so W e):dN W z d0 dz said (t++MemOp.ofEvents 0 fn pos es):=by
 have f:∀op∈MemOp.ofEvents 0 fn pos es,∃e∈es,op={ g:=0,fn:=fn,pos:=pos,act:=.ofEvent e }:=λop a=>Go.Conc.mem_ofEvents a
 have l:∀op∈MemOp.ofEvents 0 fn pos es,op.act≠.mark .disable/\op.act≠.mark .enable/\op.act≠.mark (.release (stA W)):=λop a=>by obtain⟨e,j,rfl⟩:=f op a;exact⟨λx=>o e j (.inl (tC x)),λx=>o e j (.inr (.inl (tC x))),λx=>o e j (.inr (.inr (tC x)))⟩
 refine⟨?_,?_,λr=>(h.told r).others (λop a=>?_) λop a=>(l op a).2.2⟩
 .rw[Go.ConcX.Deaf_keep t 0 _ λop a=>⟨(l op a).1,(l op a).2.1⟩];exact h.d0
 .rw[Go.ConcX.Deaf_keep t z _ λop a=>⟨(l op a).1,(l op a).2.1⟩];exact h.dz
 .obtain⟨e,_,rfl⟩:=f op a;exactλe=>by simp at e;omega
def sN {g:Nat}(f:∀op∈u,op.g≠g):Deaf (t++u) g=Deaf t g:=by
 obtain⟨l⟩:=u
 induction l generalizing t with
 |nil=>simp
 |cons y l h=>
  have e:t++(y::l).toArray=(t++#[y])++l.toArray:=by simp
  rw[e,h λop a=>f op (by simp at a ⊢;exact .inr a),Deaf_push];have:=f y (by simp);unfold deafStep;split
  .rw[if_neg this]
  .rw[if_neg this]
  .rfl
def dN.rest (h:dN W z d0 dz said t){u:Trace}(f:∀op∈u,op.g≠0/\op.g≠z)(o:∀op∈u,op.act≠.mark (.release (stA W))):dN W z d0 dz said (t++u):=by
 have j:∀g,(∀op∈u,op.g≠g)->Deaf (t++u) g=Deaf t g:=λg l=>sN l
 exact⟨(j 0 λop a=>(f op a).1).trans h.d0,(j z λop a=>(f op a).2).trans h.dz,λr=>(h.told r).others (λop a=>(f op a).2) o⟩
def dN.one (h:dN W z d0 dz said t)(a:0<z)(op:MemOp)(f:op.g=z)(r:said=true->∀x,op.act.touch?=some x->x.kind = .atomic/\dz≠0)(l:op.act≠.mark (.release (stA W))):dN W z d0 (deafStep z dz op) said (t++#[op]):=by
 refine⟨?_,?_,λe=>(h.told e).push op (λ_ x y=>?_) l⟩
 .rw[sN λo j=>?_]
  .exact h.d0
  .have:o=op:=by simpa using j
   rw[this,f];omega
 .rw[Deaf_push,h.dz]
 .rw[h.dz];exact r e x y
def G9 (a b c d:MemOp):t++#[a,b,c,d]=(((t++#[a])++#[b])++#[c])++#[d]:=by
 rw[Array.append_assoc,Array.append_assoc,Array.append_assoc]
 rfl
def dN.before(h:dN W z d0 dz false t)(r:0<z)(fn:Ag)(pos:String){es:Array Event}(l:∀e∈es,¬so W e):dN W z d0 dz false (t++MemOp.ofEvents z fn pos es):=by
 have j:∀op∈MemOp.ofEvents z fn pos es,∃e∈es,op={ g:=z,fn:=fn,pos:=pos,act:=.ofEvent e }:=λop a=>Go.Conc.mem_ofEvents a
 have o:∀op∈MemOp.ofEvents z fn pos es,op.act≠.mark .disable/\op.act≠.mark .enable:=λop a=>by obtain⟨e,f,rfl⟩:=j op a;exact⟨λx=>l e f (.inl (tC x)),λx=>l e f (.inr (.inl (tC x)))⟩
 exact⟨by rw[Go.ConcX.Deaf_keep t 0 _ o];exact h.d0,by rw[Go.ConcX.Deaf_keep t z _ o];exact h.dz,λe=>by cases e⟩
def dN.leave(h:dN W z d0 dz said t)(D:0<z)(fn:Ag)(pos:String){es:Array Event}(r:∀e∈es,e.mute=true):dN W z d0 (deafBehind dz es) said (t++MemOp.ofEvents z fn pos es):=by
 have f:∀op∈MemOp.ofEvents z fn pos es,∃e∈es,op={ g:=z,fn:=fn,pos:=pos,act:=.ofEvent e }:=λop a=>Go.Conc.mem_ofEvents a
 refine⟨?_,by rw[Deaf_own,h.dz],λe=>?_⟩
 .rw[sN λop a=>?_]
  .exact h.d0
  .obtain⟨e,_,rfl⟩:=f op a;simp;omega
 .have ht:=h.told e;have j:∀op∈MemOp.ofEvents z fn pos es,op.act = .mark .disable\/op.act = .mark .enable:=λop a=>by obtain⟨e,o,rfl⟩:=f op a;exact su (r e o)
  clear f h e
  revert j
  generalize MemOp.ofEvents z fn pos es=u;obtain⟨l⟩:=u;clear r;intro j
  induction l generalizing t with
  |nil=>simpa using ht
  |cons y l C=>
   have e:t++(y::l).toArray=(t++#[y])++l.toArray:=by simp
   rw[e];refine C (ht.push y (λ_ x B=>?_) ?_) λop a=>j op (by simp at a ⊢;exact .inr a)
   .rcases j y (by simp)with e|e<;>(rw[e]at B;simp[MemAct.touch?]at B)
   .rcases j y (by simp)with e|e<;>rw[e]<;>simp
def dN.release (h:dN W z d0 0 false t)(a:0<z)(fn:Ag)(pos:String):dN W z d0 0 true (t++MemOp.ofEvents z fn pos #[Go.ConcX.mk (.releaseMerge (stA W))]):=by
 have e:MemOp.ofEvents z fn pos #[Go.ConcX.mk (.releaseMerge (stA W))]=#[{ g:=z,fn:=fn,pos:=pos,act:=.mark (.releaseMerge (stA W)) }]:=by simp[ofEvents_eq,Go.ConcX.mk,MemAct.ofEvent]
 rw[e];have:=h.one a { g:=z,fn:=fn,pos:=pos,act:=.mark (.releaseMerge (stA W)) } rfl (λe=>by cases e) (by simp);exact⟨this.d0,this.dz,λ_=>Told.said h.dz fn pos⟩
def dN.atom(h:dN W z d0 dz said t)(M:0<z)(D:dz≠0)(fn:Ag)(pos:String){es:Array Event}(B:∀e∈es,∃a x,e=⟨.cell a,x,true⟩):dN W z d0 dz said (t++MemOp.ofEvents z fn pos es):=by
 have j:∀op∈MemOp.ofEvents z fn pos es,op.g=z/\∃a x,op.act = .access ⟨.cell a,x,true⟩:=λop f=>by obtain⟨e,r,rfl⟩:=Go.Conc.mem_ofEvents f;obtain⟨a,x,rfl⟩:=B e r;exact⟨rfl,a,x,by cases x<;>rfl⟩
 revert j
 generalize MemOp.ofEvents z fn pos es=u;obtain⟨l⟩:=u;clear B;intro j
 induction l generalizing t with
 |nil=>simpa using h
 |cons y l N=>
  have e:t++(y::l).toArray=(t++#[y])++l.toArray:=by simp
  rw[e];obtain⟨C,a,x,o⟩:=j y (by simp);have:=h.one M y C (λ_ b hb=>by rw[o]at hb;simp[MemAct.touch?]at hb;exact⟨by rw[<- hb],D⟩) (by rw[o];simp);rw[show deafStep z dz y=dz by simp[deafStep,o]]at this;exact N this λop f=>j op (by simp at f ⊢;exact .inr f)
def dN.Pw (h:dN W z d0 dz said t)(f:0<z)(fn:Ag)(pos:String)(ad:Addr):dN W z d0 dz said (t++MemOp.ofEvents z fn pos (semEvents ad)):=by
 have e:MemOp.ofEvents z fn pos (semEvents ad)=#[{ g:=z,fn:=fn,pos:=pos,act:=.mark .disable },{ g:=z,fn:=fn,pos:=pos,act:=.access ⟨.cell ad,false,true⟩ },{ g:=z,fn:=fn,pos:=pos,act:=.access ⟨.cell ad,true,true⟩ },{ g:=z,fn:=fn,pos:=pos,act:=.mark .enable }]:=by simp[ofEvents_eq,semEvents,MemAct.ofEvent]
 rw[e,G9];have j:=h.one f { g:=z,fn:=fn,pos:=pos,act:=.mark .disable } rfl (λ_ x a=>by simp[MemAct.touch?]at a) (by simp);have l:=j.one f { g:=z,fn:=fn,pos:=pos,act:=.access ⟨.cell ad,false,true⟩ } rfl (λ_ x a=>by simp[MemAct.touch?]at a;exact⟨by rw[<- a],by simp[deafStep]⟩) (by simp);have o:=l.one f { g:=z,fn:=fn,pos:=pos,act:=.access ⟨.cell ad,true,true⟩ } rfl (λ_ x a=>by simp[MemAct.touch?]at a;exact⟨by rw[<- a],by simp[deafStep]⟩) (by simp);have r:=o.one f { g:=z,fn:=fn,pos:=pos,act:=.mark .enable } rfl (λ_ x a=>by simp[MemAct.touch?]at a) (by simp);simpa [deafStep]using r
def dN.word(h:dN W z d0 dz said t)(o:0<z)(fn:Ag)(pos:String){es:Array Event}(l:∀e∈es,e.mute=true):dN W z (deafBehind d0 es) dz said (t++MemOp.ofEvents 0 fn pos es):=by
 have f:∀op∈MemOp.ofEvents 0 fn pos es,∃e∈es,op={ g:=0,fn:=fn,pos:=pos,act:=.ofEvent e }:=λop a=>Go.Conc.mem_ofEvents a
 refine⟨by rw[Deaf_own,h.d0],?_,λe=>(h.told e).others (λop a=>?_) λop a=>?_⟩
 .rw[sN λop a=>?_]
  .exact h.dz
  .obtain⟨e,_,rfl⟩:=f op a;simp;omega
 .obtain⟨e,_,rfl⟩:=f op a;simp;omega
 .obtain⟨e,j,rfl⟩:=f op a;rcases su (l e j)with e|e<;>rw[e]<;>simp
def dN.Px (h:dN W z d0 dz said t)(l:0<z)(fn:Ag)(pos:String)(ad:Addr):dN W z d0 dz said (t++MemOp.ofEvents 0 fn pos (semEvents ad)):=by
 have f:∀op∈MemOp.ofEvents 0 fn pos (semEvents ad),∃e∈semEvents ad,op={ g:=0,fn:=fn,pos:=pos,act:=.ofEvent e }:=λop a=>Go.Conc.mem_ofEvents a
 refine⟨by rw[Deaf_own,h.d0];rfl,?_,λe=>(h.told e).others (λop a=>?_) λop a=>?_⟩
 .rw[sN λop a=>?_]
  .exact h.dz
  .obtain⟨e,_,rfl⟩:=f op a;simp;omega
 .obtain⟨e,_,rfl⟩:=f op a;simp;omega
 .obtain⟨e,j,rfl⟩:=f op a;simp[semEvents]at j;rcases j with rfl|rfl|rfl|rfl<;>simp[MemAct.ofEvent]
def dN.met (h:dN W z d0 dz said t)(j:said=true->∀op∈u,op.g≠z)(f:∀op∈u,∀m,op.act≠.mark m):dN W z d0 dz said (t++u):=
 ⟨by rw[Go.ConcX.Deaf_keep t 0 _ λop a=>⟨f op a _,f op a _⟩];exact h.d0,by rw[Go.ConcX.Deaf_keep t z _ λop a=>⟨f op a _,f op a _⟩];exact h.dz,λe=>(h.told e).others (j e) λop a=>f op a _⟩
end
end
section
open Go.Conc
open Go.ConcX (WgAt KK stA smA rd wr mk)
def tk{w:Z}{k:Nat}(h:w.heap[k]?=some o):k<w.heap.size:=(aO.1 h).1
structure jy (r:Nat)(w w':Z):Prop where
 size:w'.heap.size=w.heap.size
 rest:∀k,k≠r->w'.heap[k]?=w.heap[k]?
 eH:(∀a l,w'.heap[r]?≠some (.number a l))/\∀a t,w'.heap[r]?≠some (.view a t)
 os:w'.os=w.os
 output:w'.output=w.output
def rK (w:Z)(c cap:Nat)(buf:Ak)(cl:Bool)(s r:Nat)(tm:Bool):jy c w (w.setChan c cap buf cl s r tm):=by
 refine⟨by simp[World.setChan],λk a=>?_,?_,rfl,rfl⟩
 .simp only[World.setChan];exact aS (Ne.symm a)
 .simp only[World.setChan]
  by_cases h:c<w.heap.size
  .rw[aT h];exact⟨λ_ _ e=>(by cases e),λ_ _ e=>(by cases e)⟩
  .rw[Array.getElem?_eq_none (by simp;omega)];exact⟨λ_ _ e=>(by cases e),λ_ _ e=>(by cases e)⟩
def oS{g:Af}{W:Nat}{w w':Z}{st l f a:Int}{off:Nat}(o:WgAt g W w st l)(e:w'=w.setCell ⟨W,off,none⟩ v)(h:WgAt g W w' f a):jy W w w':=by
 subst e;refine⟨by simp[World.setCell],λk j=>?_,?_,rfl,rfl⟩
 .simp only[World.setCell];rw[aV,if_neg (λe=>j e.symm)]
 .have:(w.setCell ⟨W,off,none⟩ v).heap[W]?=_:=h;rw[this];exact⟨λ_ _ e=>(by cases e),λ_ _ e=>(by cases e)⟩
section
variable {F:Array Func}{X:Ag->Prop}{T:dq}{Fin:Ai->Z->Prop}{G0:Base}{A:Lay}{bW Zo:Loc->Prop}{z:Nat}{gs:Array Ah}{w w':Z}{t:Trace}{q:Nat->Nat}{a a' c c':Ah}{xq xq':Ai × List Ai × Z}{S:Nat->Prop}{sl:Option (Nat × Nat)}{es:Array Event}
def cM.nF {v:Z}(h:cM G0 0 S w v){r:Nat}(g:S r)(hm:G0.m<=r)(ht:jy r w w'):cM G0 0 S w' v:=by
 refine⟨h.size.trans ht.size.symm,λk a=>?_,h.hole,λk a=>?_,h.high,λi f=>bx f (by omega),h.os.trans ht.os.symm,h.output.trans ht.output.symm,λk o a=>by rw[ht.rest k λe=>bx (G0.low k o a) (by omega)];exact h.fix k o a⟩
 .rw[ht.rest k λe=>a (e ▸ g)];exact h.same k a
 .by_cases e:k=r
  .subst e;exact ht.eH
  .rw[ht.rest k e];exact h.eH k a
def dh.QF (h:dh F X T Fin G0 A bW z gs w t q a c xq S Zo){r:Nat}(D:S r)(hm:G0.m<=r)(ht:jy r w w')(C:A.Ks w')(M:stepG prog true a w = .go a' w' es)(B:∀e∈es,Ok0 bW Zo A.meet.Rd A.Wg w.heap.size (MemAct.ofEvent e)) :
  ∃l,runT prog (crowd gs w sl) 0=(.next (crowd l w' sl),gC a es)/\l.size=gs.size/\dh F X T Fin G0 A bW z l w' (t++gC a es) q a' (woken prog a a' w' c) xq S Zo:=by
 have o:=runT_crowd_go (P:=prog) (sl:=sl) (i:=0) h.two.g0 (show stepG prog (0 == 0) a w=_ from M);have j:∀op∈gC a es,∃e∈es,op={ g:=0,fn:=a.frame.fn,pos:=a.frame.place,act:=.ofEvent e }:=λop f=>Go.Conc.mem_ofEvents f
 refine⟨_,o,by simp,⟨h.two.tO (λop f=>?_) a,?_,h.fV.nF D hm ht,h.tr,C,h.ap,h.fN,h.zo,h.sW,h.sS,h.sD,h.nW,h.nS,h.nD⟩⟩
 .obtain⟨e,_,rfl⟩:=j op f;rfl
 .rw[ht.size];exact h.pt.app0 λop f=>by obtain⟨e,y,rfl⟩:=j op f;exact⟨rfl,B e y⟩
def dh.QG (h:dh F X T Fin G0 A bW z gs w t q a c xq S Zo){r:Nat}(D:S r)(hm:G0.m<=r)(ht:jy r w w')(C:A.Ks w')(M:stepG prog false c w = .go c' w' es)(B:∀e∈es,ku bW Zo A.meet.Rd A.Wg w.heap.size (MemAct.ofEvent e)) :
  ∃l,runT prog (crowd gs w sl) z=(.next (crowd l w' sl),jC z c es)/\l.size=gs.size/\dh F X T Fin G0 A bW z l w' (t++jC z c es) q (woken prog c c' w' a) c' xq S Zo:=by
 have N:(z == 0)=false:=by have:=h.two.pos;simp;omega
 have o:=runT_crowd_go (P:=prog) (sl:=sl) (i:=z) h.two.gz (by rw[N];exact M);have j:∀op∈jC z c es,∃e∈es,op={ g:=z,fn:=c.frame.fn,pos:=c.frame.place,act:=.ofEvent e }:=λop f=>Go.Conc.mem_ofEvents f
 refine⟨_,o,by simp,⟨h.two.tP (λop f=>?_) c,?_,h.fV.nF D hm ht,h.tr,C,h.ap,h.fN,h.zo,h.sW,h.sS,h.sD,h.nW,h.nS,h.nD⟩⟩
 .obtain⟨e,_,rfl⟩:=j op f;rfl
 .rw[ht.size];exact h.pt.uS λop f=>by obtain⟨e,y,rfl⟩:=j op f;exact⟨rfl,B e y⟩
def PT.DO {A:Lay}{bW Zo Rd:Loc->Prop}{B z:Nat}{k:Nat}(hS:∀l,bW l->∃a:Addr,l = .cell a)(C:k<B)(fn:Ag)(pos:String):∀(l:List Event) (t:Trace),PT bW Zo Rd A.Wg z B t->Deaf t z=0->(∀e∈l,e.loc = .obj k/\e.sync=true)->PT bW Zo Rd A.Wg z B (t++MemOp.ofEvents z fn pos l.toArray)
 |[],t,h,_,_=>by simpa [ofEvents_eq]using h
 |e::l,t,h,D,r=>by
  have e1:t++MemOp.ofEvents z fn pos (e::l).toArray=(t++#[{ g:=z,fn:=fn,pos:=pos,act:=.ofEvent e }])++MemOp.ofEvents z fn pos l.toArray:=by simp[ofEvents_eq]
  rw[e1];obtain⟨j,o⟩:=r e (by simp);obtain⟨lo,x,y⟩:=e;dsimp only at j o;subst j o;obtain⟨M,N⟩:=h.MV D hS (op:={ g:=z,fn:=fn,pos:=pos,act:=.ofEvent ⟨.obj k,x,true⟩ }) rfl rfl C;exact PT.DO hS C fn pos l _ M N λe f=>r e (by simp[f])
def dh.IK (h:dh F X T Fin G0 A bW z gs w t q a c xq S Zo)(O:A.Ok){s r:Nat}(y:Deaf t z=0)(D:stepG prog false c w = .go c' (w.setChan A.cS 0 #[] true s r false) es)(B:∀e∈es,e.loc = .obj A.cS/\e.sync=true) :
  ∃f,runT prog (crowd gs w sl) z=(.next (crowd f (w.setChan A.cS 0 #[] true s r false) sl),jC z c es)/\f.size=gs.size/\dh F X T Fin G0 A bW z f (w.setChan A.cS 0 #[] true s r false) (t++jC z c es) q (woken prog c c' (w.setChan A.cS 0 #[] true s r false) a) c' xq S Zo:=by
 have M:(z == 0)=false:=by have:=h.two.pos;simp;omega
 have g:=runT_crowd_go (P:=prog) (sl:=sl) (i:=z) h.two.gz (by rw[M];exact D);have ht:=rK w A.cS 0 #[] true s r false;refine⟨_,g,by simp,⟨h.two.tP (λop o=>?_) c,?_,h.fV.nF h.sS h.nS ht,h.tr,h.ks.chan O (.inl rfl),h.ap,h.fN,h.zo,h.sW,h.sS,h.sD,h.nW,h.nS,h.nD⟩⟩
 .obtain⟨e,_,rfl⟩:=Go.Conc.mem_ofEvents o;rfl
 .rw[ht.size];obtain⟨l⟩:=es;exact PT.DO (λl C=>(h.fN l C).imp λ_ x=>x.1) (aR O.lS h.ks.size) _ _ l t h.pt y λe j=>B e (by simpa using j)
/-! ### who is parked where -/
def eT.offers {P:Ad}(h:eT P gs t q z a c){j:Nat}{g:Ah}(h0:j≠0)(l:j≠z)(f:gs[j]?=some g)(r:Nat)(b:Bool):offersAt g r b=[]:=by refine offersAt_of_not_blocked ?_ r b;rcases(h.old j g h0 l f).status with e|e<;>(rw[e];simp)
def eT.zI {P:Ad}(h:eT P gs t q z a c)(r:Nat)(b:Bool):partners (gs.setIfInBounds 0 ph) r b=(offersAt c r b).map λk=>(z,k):=by
 have hp:=h.pos;refine partners_one (j:=z) (by rw[aS (by omega)];exact h.gz) λk x l f=>?_
 by_cases g:k=0
 .subst g;rw[aT (by have:=h.lt;omega)]at f;cases f;exact offersAt_ph r b
 .rw[aS (λe=>g e.symm)]at f;exact h.offers g l f r b
def eT.rn {P:Ad}(h:eT P gs t q z a c)(r:Nat)(b:Bool):partners (gs.setIfInBounds z ph) r b=(offersAt a r b).map λk=>(0,k):=by
 have hp:=h.pos;refine partners_one (j:=0) (by rw[aS (by omega)];exact h.g0) λk x l f=>?_
 by_cases g:k=z
 .subst g;rw[aT h.lt]at f;cases f;exact offersAt_ph r b
 .rw[aS (λe=>g e.symm)]at f;exact h.offers l g f r b
def eT.Fe {P:Ad}{u:Trace}(h:eT P gs t q z a c)(hm:∀op∈u,∀m,op.act≠.mark m):eT P (gs.setIfInBounds 0 a') (t++u) q z a' c:=by
 have r:∀j,Deaf (t++u) j=Deaf t j:=λj=>Go.ConcX.Deaf_keep t j u λop f=>⟨hm op f _,hm op f _⟩
 have hp:=h.pos;refine⟨aT (by have:=h.lt;omega),by rw[aS (by omega)];exact h.gz,hp,λj g l o y=>?_,λj l=>?_⟩
 .rw[aS (λe=>l e.symm)]at y;rw[r];exact h.old j g l o y
 .rw[r];exact h.above j (by simpa using l)
def eT.Ff {P:Ad}{u:Trace}(h:eT P gs t q z a c)(hm:∀op∈u,∀m,op.act≠.mark m):eT P (gs.setIfInBounds z c') (t++u) q z a c':=by
 have r:∀j,Deaf (t++u) j=Deaf t j:=λj=>Go.ConcX.Deaf_keep t j u λop l=>⟨hm op l _,hm op l _⟩
 have hp:=h.pos;refine⟨by rw[aS (by omega)];exact h.g0,aT h.lt,hp,λj g o f y=>?_,λj o=>?_⟩
 .rw[aS (λe=>f e.symm)]at y;rw[r];exact h.old j g o f y
 .rw[r];exact h.above j (by simpa using o)
structure nM (B:Nat)(u:Trace):Prop where
 mark:∀op∈u,∀m,op.act≠.mark m
 touch:∀op∈u,op.act.touch?=none
 low:∀op∈u,op.act.low B
def dh.qN {u:Trace}(h:dh F X T Fin G0 A bW z gs w t q a c xq S Zo)(H:nM w.heap.size u){f:Array Ah}(ht:eT prog f (t++u) q z a' c'):dh F X T Fin G0 A bW z f w (t++u) q a' c' xq S Zo:=
 ⟨ht,h.pt.mute H.touch H.low,h.fV,h.tr,h.ks,h.ap,h.fN,h.zo,h.sW,h.sS,h.sD,h.nW,h.nS,h.nD⟩
def dh.chan (h:dh F X T Fin G0 A bW z gs w t q a c xq S Zo)(O:A.Ok){k:Nat}(f:k=A.cS\/k=A.cD)(cap:Nat)(buf:Ak)(cl:Bool)(s r:Nat)(tm:Bool):dh F X T Fin G0 A bW z gs (w.setChan k cap buf cl s r tm) t q a c xq S Zo:=by have ht:=rK w k cap buf cl s r tm;refine⟨h.two,?_,h.fV.nF (by rcases f with rfl|rfl;exact h.sS;exact h.sD) (by rcases f with rfl|rfl;exact h.nS;exact h.nD) ht,h.tr,h.ks.chan O f,h.ap,h.fN,h.zo,h.sW,h.sS,h.sD,h.nW,h.nS,h.nD⟩;rw[ht.size];exact h.pt
def vG {B:Nat}:nM B #[]:=⟨by simp,by simp,by simp⟩
def CV {B k:Nat}(a:k<B)(g:Nat)(fn:Ag)(pos:String):nM B #[{ g:=g,fn:=fn,pos:=pos,act:=.recvClosed k }]:=
 ⟨by simp,by simp[MemAct.touch?],by simp[MemAct.low,a]⟩
def CW (i j:Nat)(f1 f2:Ag)(p1 p2:String){B k:Nat}(a:k<B)(s r cap:Nat):nM B #[{ g:=j,fn:=f1,pos:=p1,act:=.send k s },{ g:=i,fn:=f2,pos:=p2,act:=.recv k r cap },{ g:=j,fn:=f1,pos:=p1,act:=.sendDone k s },{ g:=i,fn:=f2,pos:=p2,act:=.recvDone k r }]:=
 ⟨by simp,by simp[MemAct.touch?],by simp[MemAct.low,a]⟩
def dh.NT(h:dh F X T Fin G0 A bW z gs w t q a c xq S Zo){g:Ah}{k s r:Nat}(C:stepG prog true a w = .comm g #[rcase k zv] true sh w #[])(l:w.heap[k]?=some (.chan 0 #[] false s r false))(o:offersAt c k true=[]) :
  ∃f,runT prog (crowd gs w sl) 0=(.next (crowd f w sl),#[])/\f.size=gs.size/\dh F X T Fin G0 A bW z f w (t++#[]) q (parked g #[rcase k zv] sh) c xq S Zo:=by
 have y:=crowd_waits (P:=prog) (sl:=sl) (i:=0) h.two.g0 (show stepG prog (0 == 0) a w=_ from C) λD j=>by simp only[aL,au]at j;subst j;exact ways_recv_none l (by rw[h.two.zI,o];rfl)
 exact⟨_,y,by simp,h.qN vG (h.two.Fe (vG (B:=0)).mark)⟩
def dh.NU(h:dh F X T Fin G0 A bW z gs w t q a c xq S Zo){g:Ah}{k l s r U R:Nat}(N:stepG prog false c w = .comm g (sr k l v zv zd) true sh w #[])(y:w.heap[k]?=some (.chan 0 #[] false s r false))(C:w.heap[l]?=some (.chan 0 #[] false U R false))(D:offersAt a k false=[])(o:offersAt a l true=[]) :
  ∃f,runT prog (crowd gs w sl) z=(.next (crowd f w sl),#[])/\f.size=gs.size/\dh F X T Fin G0 A bW z f w (t++#[]) q a (parked g (sr k l v zv zd) sh) xq S Zo:=by
 have Q:(z == 0)=false:=by have:=h.two.pos;simp;omega
 have M:=crowd_waits (P:=prog) (sl:=sl) (i:=z) h.two.gz (by rw[Q];exact N) λW j=>by
  simp only[aL,bE,List.not_mem_nil,or_false]at j;rcases j with rfl|rfl
  .exact ways_send_none y (by simp) (by rw[h.two.rn,D];rfl)
  .exact ways_recv_none C (by rw[h.two.rn,o];rfl)
 exact⟨_,M,by simp,h.qN vG (h.two.Ff (vG (B:=0)).mark)⟩
def dh.IL(h:dh F X T Fin G0 A bW z gs w t q a c xq S Zo){g:Ah}{k s r:Nat}(D:stepG prog true a w = .comm g #[rcase k zv] true sh w #[])(y:w.heap[k]?=some (.chan 0 #[] true s r false))(B:offersAt c k true=[]) :
  ∃j u,runT prog (crowd gs w sl) 0=(.next (crowd j w sl),u)/\nM w.heap.size u/\(∀op∈u,op.g=0)/\j.size=gs.size/\dh F X T Fin G0 A bW z j w (t++u) q (g.finishComm prog #[rcase k zv] sh 0 zv false) c xq S Zo:=by
 have C:=crowd_recv_closed (P:=prog) (sl:=sl) (i:=0) h.two.g0 (show stepG prog (0 == 0) a w=_ from D) y (by rw[h.two.zI,B];rfl);have l:=CV (tk y) 0 g.frame.fn g.frame.place;refine⟨_,_,C,?_,?_,by simp,?_⟩
 .exact l
 .intro op o;have f:op∈#[({ g:=0,fn:=g.frame.fn,pos:=g.frame.place,act:=.recvClosed k }:MemOp)]:=o;simp only[aL,au]at f;rw[f]
 .exact h.qN l (h.two.Fe l.mark)
def dh.IM(h:dh F X T Fin G0 A bW z gs w t q a c xq S Zo){g:Ah}{k l s r U R:Nat}(N:stepG prog false c w = .comm g (sr k l v zv zd) true sh w #[])(C:w.heap[k]?=some (.chan 0 #[] false s r false))(B:w.heap[l]?=some (.chan 0 #[] true U R false))(D:offersAt a k false=[])(y:offersAt a l true=[]) :
  ∃f u,runT prog (crowd gs w sl) z=(.next (crowd f w sl),u)/\nM w.heap.size u/\f.size=gs.size/\dh F X T Fin G0 A bW z f w (t++u) q a (g.finishComm prog (sr k l v zv zd) sh 1 zd false) xq S Zo:=by
 have Q:(z == 0)=false:=by have:=h.two.pos;simp;omega
 have M:=crowd_sel_recv_closed (P:=prog) (sl:=sl) (i:=z) (k:=1) h.two.gz (by rw[Q];exact N) rfl (λm c' hm j=>by
  match m,hm with
  |0,_=>
   have:scase k v zv=c':=by simpa [sr]using j
   subst this;exact ways_send_none C (by simp) (by rw[h.two.rn,D];rfl)
  |m+2,_=>simp[sr]at j) B (by rw[h.two.rn,y];rfl)
 have o:=CV (tk B) z g.frame.fn g.frame.place;exact⟨_,_,M,o,by simp,h.qN o (h.two.Ff o.mark)⟩
def dh.Mw(h:dh F X T Fin G0 A bW z gs w t q a c xq S Zo)(O:A.Ok){g gz:Ah}{l s r:Nat}(D:A.cS≠l)(N:stepG prog true a w = .comm g #[rcase A.cS zv] true sh w #[])(B:w.heap[A.cS]?=some (.chan 0 #[] false s r false))(hp:c=parked gz (sr A.cS l v zj zd) b) :
  ∃f u,runT prog (crowd gs w sl) 0=(.next (crowd f (w.setChan A.cS 0 #[] false (s+1) (r+1) false) sl),u)/\nM w.heap.size u/\f.size=gs.size/\
   dh F X T Fin G0 A bW z f (w.setChan A.cS 0 #[] false (s+1) (r+1) false) (t++u) q (g.finishComm prog #[rcase A.cS zv] sh 0 v true) (gz.finishComm prog (sr A.cS l v zj zd) b 0 undef false) xq S Zo:=by
 have C:=h.two.pos;have M:=Pb (P:=prog) (sl:=sl) (i:=0) (j:=z) (k:=0) h.two.g0 (show stepG prog (0 == 0) a w=_ from N) B (by omega) (by rw[h.two.gz,hp]) (show(sr A.cS l v zj zd)[0]?=some (scase A.cS v zj)from rfl) (by rw[h.two.zI,hp,MZ D];rfl);have y:=CW 0 z gz.frame.fn g.frame.fn gz.frame.place g.frame.place (tk B) s r 0;refine⟨_,_,M,y,by simp,?_⟩;refine(h.qN y (h.two.Fj λop o=>⟨y.mark op o _,y.mark op o _⟩)).chan O (.inl rfl) 0 #[] false (s+1) (r+1) false
def dh.Mx(h:dh F X T Fin G0 A bW z gs w t q a c xq S Zo)(O:A.Ok){g g0:Ah}{l s r Y W:Nat}(R:stepG prog false c w = .comm g (sr A.cS l v zv zd) true sh w #[])(D:w.heap[A.cS]?=some (.chan 0 #[] false s r false))(N:w.heap[l]?=some (.chan 0 #[] false Y W false))(hp:a=parked g0 #[rcase A.cS zj] b) :
  ∃f u,runT prog (crowd gs w sl) z=(.next (crowd f (w.setChan A.cS 0 #[] false (s+1) (r+1) false) sl),u)/\nM w.heap.size u/\f.size=gs.size/\
   dh F X T Fin G0 A bW z f (w.setChan A.cS 0 #[] false (s+1) (r+1) false) (t++u) q (g0.finishComm prog #[rcase A.cS zj] b 0 v true) (g.finishComm prog (sr A.cS l v zv zd) sh 0 undef false) xq S Zo:=by
 have M:=h.two.pos;have U:(z == 0)=false:=by simp;omega
 have Q:=Pv (P:=prog) (sl:=sl) (i:=z) (j:=0) (k:=0) h.two.gz (by rw[U];exact R) (show(sr A.cS l v zv zd)[0]?=some (scase A.cS v zv)from rfl) (λm c' hm o=>by
  match m,hm with
  |1,_=>
   have:rcase l zd=c':=by simpa [sr]using o
   subst this;exact ways_recv_none N (by rw[h.two.rn,hp,offersAt_parked_recv'];rfl)
  |m+2,_=>simp[sr]at o) D (by omega) (by rw[h.two.g0,hp]) (by rw[h.two.rn,hp,offersAt_parked_recv,if_pos rfl];rfl)
 have C:=CW 0 z g.frame.fn g0.frame.fn g.frame.place g0.frame.place (tk D) s r 0;refine⟨_,_,Q,C,by simp,?_⟩;have y:(gs.setIfInBounds 0 (g0.finishComm prog #[rcase A.cS zj] b 0 v true)).setIfInBounds z (g.finishComm prog (sr A.cS l v zv zd) sh 0 undef false)=(gs.setIfInBounds z (g.finishComm prog (sr A.cS l v zv zd) sh 0 undef false)).setIfInBounds 0 (g0.finishComm prog #[rcase A.cS zj] b 0 v true):=Array.setIfInBounds_comm _ _ (by omega);have key:=(h.qN C (h.two.Fj (a':=g0.finishComm prog #[rcase A.cS zj] b 0 v true) (c':=g.finishComm prog (sr A.cS l v zv zd) sh 0 undef false) λop B=>⟨C.mark op B _,C.mark op B _⟩)).chan O (.inl rfl) 0 #[] false (s+1) (r+1) false;rw[<- y]at key;exact key
end
end
end Go.Proofs.YthbdpfccfcceiaaGreatDoor
