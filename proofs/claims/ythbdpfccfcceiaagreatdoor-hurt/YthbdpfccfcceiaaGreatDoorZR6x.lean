/-
  Of hurt_card.
-/
import Derived.Test.YthbdpfccfcceiaaGreatDoorZR2x
set_option linter.all false
namespace Go.Proofs.YthbdpfccfcceiaaGreatDoor
open Go.Conc Go.Lib Go.RowKit Go.Maps
open Go.Proofs.Tryz
variable {c cf g gd gf i k m sz:Nat}{h v:D}{s' s0:XS}{fn:Func}{α:Type}{j:List D}
section
variable {w:Z}{gq cq si up fl:Nat}{u:D}
def Cz (P:iL w gq [Y si,Y up,Y fl,u]):Calls prog 52 #[.agg #[ag gq 1 cq,ae]] w λe w'=>e = .returned (Y fl)/\An w w':=by refine cW func52 rfl ntmps52 λS s0=>?_;refine sR ?_;refine wS s0 (jl (v:=.agg #[ag gq 1 cq,ae]) rfl s0.e) λQ=>?_;obtain⟨Z,M,l,j⟩:=fQ w #[ag gq 1 cq,ae] 116;rw[M];have a:=P.kp j id;have f:=(Kp.refl (λ_=>False) w).tt j;refine wX 1 Q rfl λo=>?_;refine nR ?_;refine wS o (cR (i:=0) (g:=w.heap.size) (k:=0) underlying116 rfl sizeOf113 (by decide) rfl o.e) λr=>?_;refine wS r (cU (v:=ag gq 1 cq) rfl isAgg113 r.e (cK l rfl)) λy=>?_;refine wS y (kY (i:=0) (g:=gq) (off:=0) underlying113 sizeOf162 rfl y.e rfl (by decide)) λB=>?_;refine wS B (cR (i:=2) (g:=gq) (k:=0) underlying162 rfl sizeOf3 (by decide) rfl B.e) λC=>?_;refine jU C rfl rfl (cU (v:=Y fl) rfl isAgg3 C.e (a.at (k:=2) rfl)) λU R h=>?_;refine ja R h rfl rfl (by decide) (di (v:=Y fl) rfl h) λW D N=>?_;refine bG ?_;refine wp_ret ⟨D.d,Y fl,?_,rfl,f⟩;rw[fo rfl];exact congrArg (λx=>Result.ok x _) (D.v 2 (by decide))
def QP (hs:iL w gq [Y si,Y up,Y fl,u]):Calls prog 88 #[.agg #[ag gq 1 cq,ae]] w λe w'=>e = .returned (Y up)/\An w w':=by refine cW func88 rfl ntmps88 λa0 s0=>?_;refine sR ?_;refine wS s0 (jl (v:=.agg #[ag gq 1 cq,ae]) rfl s0.e) λs1=>?_;obtain⟨w1,ez,l,o⟩:=fQ w #[ag gq 1 cq,ae] 116;rw[ez];have f:=hs.kp o id;have h:=(Kp.refl (λ_=>False) w).tt o;refine wX 1 s1 rfl λM=>?_;refine nR ?_;refine wS M (cR (i:=0) (g:=w.heap.size) (k:=0) underlying116 rfl sizeOf113 (by decide) rfl M.e) λN=>?_;refine wS N (cU (v:=ag gq 1 cq) rfl isAgg113 N.e (cK l rfl)) λP=>?_;refine wS P (cR (i:=0) (g:=w.heap.size) (k:=0) underlying116 rfl sizeOf113 (by decide) rfl P.e) λQ=>?_;refine wS Q (cU (v:=ag gq 1 cq) rfl isAgg113 Q.e (cK l rfl)) λR=>?_;refine wS R (fK underlying113 rfl R.e) λS=>?_;refine wS S (rm (i:=1) (j:=1) rfl S.e rfl (by omega) (by omega)) λC=>?_;refine wS C (kY (i:=0) (g:=gq) (off:=0) underlying113 sizeOf162 rfl C.e C.e (by decide)) λU=>?_;refine wS U (cR (i:=1) (g:=gq) (k:=0) underlying162 rfl sizeOf3 (by decide) rfl U.e) λr=>?_;refine jU r rfl rfl (cU (v:=Y up) rfl isAgg3 r.e (f.at (k:=1) rfl)) λW B a=>?_;refine ja B a rfl rfl (by decide) (di (v:=Y up) rfl a) λZ y D=>?_;refine bG ?_;refine wp_ret ⟨y.d,Y up,?_,rfl,h⟩;rw[fo rfl];exact congrArg (λx=>Result.ok x _) (y.v 2 (by decide))
def JU (U:iL w gq [Y si,Y up,Y fl,u]):Calls prog 53 #[.agg #[ag gq 1 cq,ae]] w λe w'=>e = .returned (Y up)/\An w w':=by refine cW func53 rfl ntmps53 λa0 s0=>?_;refine sR ?_;refine wS s0 (jl (v:=.agg #[ag gq 1 cq,ae]) rfl s0.e) λW=>?_;obtain⟨w1,R,o,r⟩:=fQ w #[ag gq 1 cq,ae] 116;rw[R];have h:=U.kp r id;have l:=(Kp.refl (λ_=>False) w).tt r;refine wX 1 W rfl λC=>?_;refine bG ?_;refine bO (bO (bF ?_));refine wS C (cR (i:=1) (g:=w.heap.size) (k:=0) underlying116 rfl sizeOf114 (by decide) rfl C.e) λD=>?_;refine wS D (cU (v:=ae) rfl isAgg114 D.e (cK o rfl)) λM=>?_;refine wS M (fK underlying114 rfl M.e) λN=>?_;refine wS N (iF (i:=0) (j:=0) rfl N.e rfl) λB=>?_;refine bG ?_;refine bM B.e ?_;refine sR ?_;refine wS B (iV (cs:=[ag gq 1 cq,ae]) (a:=⟨w.heap.size,0,none⟩) isAgg116 sizeOf116 rfl B.e (j2 o rfl)) λP=>?_;refine wC P rfl func88 (vs:=#[.agg #[ag gq 1 cq,ae]]) (by simp[P.eval];rfl) ((QP h).mono λx' ad S=>?_);obtain⟨rfl,y⟩:=S;have f:=l.tt y;refine⟨_,rfl,λa8 Z=>?_⟩;refine wX 1 Z rfl λQ=>?_;refine bG ?_;refine wp_ret ⟨Q.d,Y up,?_,rfl,f⟩;rw[fo rfl];exact congrArg (λx=>Result.ok x _) (Q.v 2 (by decide))
def LD (hs:iL w gq [Y si,Y up,Y fl,u])(b7:si=0)(C:∃p n c,u = .slice p n c):Calls prog 51 #[.agg #[ag gq 1 cq,ae]] w λe w'=>e = .returned (.bool true)/\An w w':=by
 obtain⟨pu,nu,cu,C⟩:=C;refine cW func51 rfl ntmps51 λa0 s0=>?_;have ca:=hs.lt;refine sR ?_;refine wS s0 (jl (v:=.agg #[ag gq 1 cq,ae]) rfl s0.e) λs1=>?_;obtain⟨w1,ez,h,am⟩:=fQ w #[ag gq 1 cq,ae] 116;rw[ez];have l:=hs.kp am id;have D:=(Kp.refl (λ_=>False) w).tt am;have cb:=bX h;refine wX 1 s1 rfl λs2=>?_;refine bG ?_;refine bO (bO (bF ?_));refine wS s2 (cR (i:=0) (g:=w.heap.size) (k:=0) underlying116 rfl sizeOf113 (by decide) rfl s2.e) λs3=>?_;refine wS s3 (cU (v:=ag gq 1 cq) rfl isAgg113 s3.e (cK h rfl)) λs4=>?_;refine wS s4 (fK underlying113 rfl s4.e) λs5=>?_;refine wS s5 (iF (i:=1) (j:=0) rfl s5.e rfl) λs6=>?_;refine bG ?_;refine bL s6.e (bQ ?_);refine sR ?_;refine wX 1 s6 rfl λs7=>?_;refine bG ?_;refine bO (bO (bF ?_));refine wS s7 (cR (i:=0) (g:=w.heap.size) (k:=0) underlying116 rfl sizeOf113 (by decide) rfl s7.e) λs8=>?_;refine wS s8 (cU (v:=ag gq 1 cq) rfl isAgg113 s8.e (cK h rfl)) λs9=>?_;refine wS s9 (fK underlying113 rfl s9.e) λbm=>?_;refine wX 1 bm rfl λQ=>?_;refine bG ?_;refine wp_block (wp_loop_rounds 2 ?_);rw[rounds_succ];refine sR ?_;refine wS Q (fT (i:=0) (j:=1) rfl Q.e Q.e) λr=>?_;refine bG ?_;refine bO (bM r.e (bQ ?_));refine bO (wp_block ?_);refine sR ?_;refine wS r (kY (i:=0) (g:=gq) (off:=0) underlying113 sizeOf162 rfl r.e r.e (by decide)) λa1=>?_;refine wS a1 (iV (cs:=[Y si,Y up,Y fl,u]) (a:=⟨gq,0,none⟩) isAgg162 sizeOf162 rfl a1.e l.cells) λbp=>?_;refine wS bp (iC (v:=.agg #[Y 0,Y 0,Y 0,ae]) zeroValue162 rfl) λy=>?_;obtain⟨w2,ez,bf,P⟩:=fQ w1 #[Y 0,Y 0,Y 0,ae] 162;rw[ez];have bl:=l.kp P id;have f:=(P.block _ (bX h) id).trans h;have M:=D.tt P;refine jb rfl rfl (cs:=[Y si,Y up,Y fl,u]) (g:=w1.heap.size) (k:=0) sizeOf162 rfl y.e y.e bf (by simp) (by simp[Value.oneCell',C]) λw3 ad an b3=>?_;have Z:w3.heap[w1.heap.size]?=some (.cells #[Y si,Y up,Y fl,u] 162 (0,0)):=ad;have o:=(an.block _ (bX f) (by omega)).trans f;have N:=M.tt an;refine bG ?_;refine bO (bO (bF ?_));refine wS y (cR (i:=0) (g:=w1.heap.size) (k:=0) underlying162 rfl sizeOf3 (by decide) rfl y.e) λa3=>?_;refine wS a3 (cU (v:=Y si) rfl isAgg3 a3.e (cK Z rfl)) λbq=>?_;refine wX 1 bq rfl λR=>?_;refine wS R (iD (rh (i:=(si:Nat)) (j:=0) rfl R.e R.e) (aY (by omega))) λS=>?_;refine bG ?_;refine bL S.e (bQ ?_);refine bF ?_;refine wS S (cR (i:=1) (g:=w1.heap.size) (k:=0) underlying162 rfl sizeOf3 (by decide) rfl S.e) λa4=>?_;refine wS a4 (cU (v:=Y up) rfl isAgg3 a4.e (cK Z rfl)) λbv=>?_;refine wX 1 bv rfl λa7=>?_;refine bG ?_;refine bF ?_;refine wS a7 (ni (i:=0) (j:=1) rfl a7.e rfl (by omega) (by omega)) λbw=>?_;refine wX 1 bw rfl λU=>?_;refine bG ?_;show Code.rounds _ _ _ 1 _ _;rw[rounds_succ];refine sR ?_;refine wS U (fT (i:=1) (j:=1) rfl U.e U.e) λW=>?_;refine bG ?_;refine bO (bL W.e (wp_exit (oz ?_)));refine sR ?_;refine wS W (cR (i:=1) (g:=w.heap.size) (k:=0) underlying116 rfl sizeOf114 (by decide) rfl W.e) λa8=>?_;refine wS a8 (cU (v:=ae) rfl isAgg114 a8.e (cK o rfl)) λa9=>?_;refine wS a9 (fK underlying114 rfl a9.e) λba=>?_
 refine wS ba (iF (i:=0) (j:=0) rfl ba.e rfl) λbA=>?_;refine wX 9 bA rfl λbb=>?_;refine jU bb rfl rfl (oL (v:=.bool true) rfl bb.e rfl) λb5 bB B=>?_;refine ja bB B rfl rfl (by decide) (di (v:=.bool true) rfl B) λb6 be bS=>?_;refine bG ?_;refine wp_ret ⟨be.d,.bool true,?_,rfl,N⟩;rw[fo rfl];exact congrArg (λx=>Result.ok x _) (be.v 2 (by decide))
end
structure HI (X:Nat->Prop)(w:Z)(ph mv mm n nv:Nat)(bU:Ac->List Int)(cE:Ac->Int->Option (Ac × Bool))(sl:Ac->D):Prop where
 dJ:w.heap[ph]?=some (.cells #[.map (some mv),.map (some mm)] 209 (0,0))
 e9:cH w prog 9 mm n (encS λk=>if bU k=[]then none else some (sl k))
 gn:cH w prog 225 mv nv (iu λk m=>(cE k m).map fg)
 row:∀k,bU k≠[]->w.ownsRow 0 3 1 (sl k) (bU k).length ((bU k).map (Value.int .i64))
 pM:¬X ph/\¬X mv/\¬X mm/\ph≠mv/\ph≠mm/\mv≠mm
 own:∀k,bU k≠[]->∀b,(sl k).ownBlock=some b->¬X b/\b≠ph/\b≠mv/\b≠mm
 apart:∀k k',bU k≠[]->bU k'≠[]->k≠k'->∀b,(sl k).ownBlock=some b->(sl k').ownBlock≠some b
section
variable {X:Nat->Prop}{w w':Z}{ph mv mm n nv:Nat}{bU:Ac->List Int}{cE:Ac->Int->Option (Ac × Bool)}{sl:Ac->D}
def HI.kept (h:HI X w ph mv mm n nv bU cE sl)(a:An w w'):HI X w' ph mv mm n nv bU cE sl:=
 ⟨(a.block ph (bX h.dJ) id).trans h.dJ,a.cH h.e9 id,a.cH h.gn id,λk hm=>dR (h.row k hm) a λ_ _ e=>e,h.pM,h.own,h.apart⟩
def HI.more {f:Nat->Prop}(h:HI X w ph mv mm n nv bU cE sl)(a:∀b,b<w.heap.size->f b->X b):HI f w ph mv mm n nv bU cE sl:=
 ⟨h.dJ,h.e9,h.gn,h.row,⟨λe=>h.pM.1 (a _ (bX h.dJ) e),λe=>h.pM.2.1 (a _ h.gn.lt e),λe=>h.pM.2.2.1 (a _ h.e9.lt e),h.pM.2.2.2⟩,λk hm b hb=>⟨λe=>(h.own k hm b hb).1 (a b ((h.row k hm).lt b hb).2 e),(h.own k hm b hb).2⟩,h.apart⟩
def KZ (h:HI X w ph mv mm n nv bU cE sl)(key val:Ac)(g:Bool)(t:Int)(Q:key.size<=8)(a0:(Lit.int .i64 t).wf=true)(hl:(bU key).length<1000000)(am:n<1000000)(an:nv<1000000)(hX:∀b,X b->b<w.heap.size) :
  Calls prog 79 #[ab ph,.string key,Y t,.agg #[.string val,.bool g]] w λe w'=>∃a1 n' nv',e = .returned (.tuple #[])/\HI X w' ph mv mm n' nv' (cV bU key (bU key++[t])) (jv cE key t (some (val,g))) a1/\n'<=n+1/\nv'<=nv+1/\Kp (λb=>¬X b/\b≠ph) w w':=by
 obtain⟨l1,l2,l3,l4,l5,l6⟩:=h.pM;obtain⟨v,hv,U,l⟩:∃v,((encS λk=>if bU k=[]then none else some (sl k)) (.string key)).getD (ae)=v/\w.ownsRow 0 3 1 v (bU key).length ((bU key).map (Value.int .i64))/\∀b,v.ownBlock=some b->bU key≠[]/\(sl key).ownBlock=some b:=by
  by_cases hm:bU key=[]
  .exact⟨ae,by rw[iv,if_pos hm];rfl,by rw[hm];exact World.ownsRow_nil w 0 3 1,λb hb=>by simp[Value.ownBlock]at hb⟩
  .exact⟨sl key,by rw[iv,if_neg hm];rfl,h.row key hm,λb hb=>⟨hm,hb⟩⟩
 have j:∀b,v.ownBlock=some b->¬X b/\b≠ph/\b≠mv/\b≠mm:=λb hb=>h.own key (l b hb).1 b (l b hb).2
 have hp:jc (iu λk m=>(cE k m).map fg) (.agg #[.string key,Y t]) (.agg #[.string val,.bool g]) (iu λk m=>((jv cE key t (some (val,g))) k m).map fg):=by rw[Dx];exact Et _ _ _ _
 refine Bf ph mv mm n nv _ _ key val g t w (cK h.dJ rfl) (cK h.dJ rfl) h.e9 h.gn l6 am an Q a0 v (bU key) hv U hl (λe=>(j ph e).2.1 rfl) hp (λw' Z hk P M N y=>?_);have o:=M _ (Ev bU sl key t Z);have S:∀b,Z.ownBlock=some b->¬X b/\b≠ph/\b≠mv/\b≠mm:=λb hb=>by
  rcases y with e|⟨b',C,ad⟩
  .exact j b (e ▸ hb)
  .rw[C]at hb;cases hb;have:=bX h.dJ;have:=h.e9.lt;have:=h.gn.lt;exact⟨λe=>by have:=hX _ e;omega,by omega,by omega,by omega⟩
 have B:∀k,bU k≠[]->k≠key->∀b,(sl k).ownBlock=some b->Z.ownBlock≠some b:=λk hm r b hb e=>by
  rcases y with e2|⟨b',C,ad⟩
  .obtain⟨m2,s2⟩:=l b (e2 ▸ e);exact h.apart k key hm m2 r b hb s2
  .rw[C]at e;cases e;have:=((h.row k hm).lt _ hb).2;omega
 refine⟨cV sl key Z,_,_,rfl,⟨(hk.block ph (bX h.dJ) λe=>?_).trans h.dJ,o,P,λk hm=>?_,h.pM,λk hm b hb=>?_,λk W hm R r b hb=>?_⟩,?_,?_,hk.mono λb _ e=>?_⟩
 .rcases e with e|e|e
  .exact l4 e
  .exact l5 e
  .exact(j ph e).2.1 rfl
 .by_cases f:k=key
  .subst f;simp only[kj,aj,ai,ax,ao,bj,List.map_cons,List.map_nil];exact N
  .have D:bU k≠[]:=by simpa [cV,f]using hm
   simp only[jI _ f];refine dR (h.row k D) hk λb hb e=>?_;have q:=h.own k D b hb;rcases e with e|e|e
   .exact q.2.2.1 e
   .exact q.2.2.2 e
   .exact h.apart k key D (l b e).1 f b hb (l b e).2
 .by_cases f:k=key
  .subst f;rw[kj]at hb;exact S b hb
  .rw[jI _ f]at hb;exact h.own k (by simpa [cV,f]using hm) b hb
 .by_cases f:k=key
  .by_cases a:W=key
   .exact bx (f.trans a.symm) r
   .rw[f,kj]at hb;rw[jI _ a];exactλe=>B W (by simpa [cV,a]using R) a b e hb
  .rw[jI _ f]at hb
   by_cases a:W=key
   .rw[a,kj];exact B k (by simpa [cV,f]using hm) f b hb
   .rw[jI _ a];exact h.apart k W (by simpa [cV,f]using hm) (by simpa [cV,a]using R) r b hb
 .split<;>omega
 .split<;>omega
 .rcases e with e|e|e
  .exact⟨by rw[e];exact l2,λe2=>l4 (e2.symm.trans e)⟩
  .exact⟨by rw[e];exact l3,λe2=>l5 (e2.symm.trans e)⟩
  .exact⟨(j b e).1,(j b e).2.1⟩
end
def JQ:(encS λ_=>none)=λ_=>none:=by
 funext v
 cases v<;>rfl
def JO:(iu λ_ _=>none)=λ_=>none:=by
 funext v
 unfold iu;split
 .split<;>rfl
 .rfl
def Ef{P:Ad}{ρ:Ae->D}{o:Oper}{w:Z}{t:Af}(a:o.op = .makeMap t none):(execOp ρ o).run P w = .ok (.value (.map (some w.heap.size))) (w.alloc (.map #[] 0)):=by simp[execOp,a,Instr.makeMap]
def Hs{ρ:Ae->D}{o:Oper}{x y:Ae}{w:Z}{a b:Option Nat}(f:o.op = .build 209 #[(0,x),(1,y)])(g:ρ x = .map a)(h:ρ y = .map b):(execOp ρ o).run prog w = .ok (.value (.agg #[.map a,.map b])) w:=by simp[execOp,f,g,h,Instr.build,zeroValue209,bK underlying209,aF,sizeOf206,sizeOf207,Instr.fill,Value.cells]
def K4 {w:Z}:Calls prog 66 #[] w λe w'=>∃ph mv mm,e = .returned (ab ph)/\HI (λb=>b<w.heap.size) w' ph mv mm 0 0 (λ_=>[]) (λ_ _=>none) (λ_=>ae)/\An w w':=by
 refine cW func66 rfl ntmps66 λa0 s0=>?_;refine bO (bF (du s0 rfl rfl (by decide) (di (v:=.pointer none) rfl rfl) λa1 S=>bG ?_));refine sR ?_;refine wS S (Ef rfl) λC=>?_;have f1:=vu w prog 225;have B:An w (w.alloc (.map #[] 0)):=Kp.al _ _ _;have W:(w.alloc (.map #[] 0)).heap.size=w.heap.size+1:=by simp
 generalize w.alloc (.map #[] 0)=f at f1 B W C ⊢;refine wS C (Ef rfl) λj=>?_;have f2:=vu f prog 9;have r:An f (f.alloc (.map #[] 0)):=Kp.al _ _ _;have Y:(f.alloc (.map #[] 0)).heap.size=f.heap.size+1:=by simp
 have g:=r.cH f1 id;generalize f.alloc (.map #[] 0)=l at f2 r Y g j ⊢;refine wS j (Hs (a:=some w.heap.size) (b:=some f.heap.size) rfl j.e j.e) λM=>?_;refine jU M rfl rfl (jl (v:=.agg #[.map (some w.heap.size),.map (some f.heap.size)]) rfl M.e) λa5 U o=>?_;obtain⟨P,R,Q,y⟩:=fQ l #[.map (some w.heap.size),.map (some f.heap.size)] 209;rw[R];refine wS U (di (v:=ab l.heap.size) rfl o) λN=>bG ?_;have g1:cH P prog 225 w.heap.size 0 (iu λ_ _=>none):=by
  have:=y.cH g id
  rwa [show(λ_=>none:D->Option D)=iu λ_ _=>none from(JO).symm]at this
 have g2:cH P prog 9 f.heap.size 0 (encS λ_=>none):=by
  have:=y.cH f2 id
  rwa [show(λ_=>none:D->Option D)=encS λ_=>none from(JQ).symm]at this
 refine wp_ret ⟨N.d,ab l.heap.size,?_,l.heap.size,w.heap.size,f.heap.size,rfl,⟨Q,g2,g1,λk h=>bx rfl h,by omega,λk h=>bx rfl h,λk _ h=>bx rfl h⟩,B.t (r.t y)⟩;rw[fo rfl];exact congrArg (λx=>Result.ok x _) (N.v 0 (by decide))
def results_none{P:Ad}{tmps:Ak}{w:Z}(a:fn.results=#[]):(Go.results fn tmps).run P w = .ok (.tuple #[]) w:=by simp[Go.results,a]
def JD{P : Ad}{ops : Am}{Q : Exit -> Act -> Z -> Prop}{S : Z -> Prop}{N i fuel : Nat}{o : Oper}{listed : Array Bool}{a : Act}{w : Z}{e : Nat -> D}{f : Ag}{args : Array Ae}{ats : Array Af}{vs : Ak}(h : bY N a e)(hr : Region.ready .any ops listed = [i])(Y : ops[i]? = some o)(U : o.guard = none)(g : o.dst = some N)(r : o.op = .call { callee := .value (.func f),args,argTypes := ats })(R : P.funcs[f]? = some fn)(l : (fn.name == "runtime.NumGoroutine") = false)(hb : fn.body.isNone = false)(B : args.map a.eval = vs)
  (M:Calls P f vs w λx w'=>∃y,x = .returned y/\S w'/\∀a',bY N a' e->a'.eval (.tmp N)=y->wpAnyH P .any ops Q S fuel (listed.setIfInBounds i true) a' w'):wpAnyH P .any ops Q S (fuel+1) listed a w:=by
 refine wpAnyH_all hr (by simp) λj C=>?_;simp only[au]at C;subst C;refine qg Y U ?_;unfold Oper.wp;rw[run_call_body r R l hb,Oper.upon_enter,B];refine M.mono λx w' W=>?_;obtain⟨y,rfl,hS,hn⟩:=W;exact⟨hS,hn _ (by rw[g];exact h.bit y) (by rw[g];exact h.last y)⟩
def Hx{ρ:Ae->D}{o:Oper}{x y z:Ae}{w:Z}{p:Option Addr}{i j:Int}(a:o.op = .build 96 #[(0,x),(1,y),(2,z)])(f:ρ x = .pointer p)(g:ρ y = Y i)(h:ρ z = Y j):(execOp ρ o).run prog w = .ok (.value (.agg #[.pointer p,Y i,Y j])) w:=by simp[execOp,a,f,g,h,Instr.build,zeroValue96,bK underlying96,aF,sizeOf94,sizeOf3,Instr.fill,Value.cells]
def Ho{ρ:Ae->D}{o:Oper}{x:Ae}{w:Z}{a b c:D}(f:o.op = .build 121 #[(0,x)])(g:ρ x = .agg #[a,b,c]):(execOp ρ o).run prog w = .ok (.value (.agg #[a,b,c])) w:=by simp[execOp,f,g,Instr.build,zeroValue121,bK underlying121,aF,sizeOf96,Instr.fill,Value.cells]
def mJ (t:Int)(bU:Ac->List Int)(x:cO):Ac->List Int:=if(x.bU:Int)<=t then cV bU x.key (bU x.key++[(x.bU:Int)])else bU
def sw (t:Int)(cE:Ac->Int->Option (Ac × Bool))(x:cO):Ac->Int->Option (Ac × Bool):=if(x.bU:Int)<=t then jv cE x.key x.bU (some (x.val,x.del))else cE
section
variable {X:Nat->Prop}{w:Z}{ph mv mm n nv pc:Nat}{bU:Ac->List Int}{cE:Ac->Int->Option (Ac × Bool)}{sl:Ac->D}{cJ t:Int}{x:cO}
def Ip (h:HI X w ph mv mm n nv bU cE sl)(hX:∀b,X b->b<w.heap.size)(am:w.heap[pc]?=some (.cells #[ab ph,Y cJ,Y t] 121 (0,0)))(bb:X pc)(ad:x.key.size<=8)(hm:x.bU<4294967296)(hl:(bU x.key).length<1000000)(a9:n<1000000)(ba:nv<1000000) :
  Calls prog 89 #[ab pc,.string x.key,Y x.bU,.agg #[.string x.val,.bool x.del]] w λe w'=>∃W n' nv',e = .returned (.tuple #[])/\HI X w' ph mv mm n' nv' (mJ t bU x) (sw t cE x) W/\n'<=n+1/\nv'<=nv+1/\Kp (λb=>¬X b/\b≠ph) w w':=by
 refine cW func89 rfl ntmps89 λa0 s0=>?_;have h1:HI (λb=>X b\/b=w.heap.size) w ph mv mm n nv bU cE sl:=h.more λb hb e=>e.elim id λe=>by omega
 refine sR ?_;refine wS s0 (jl (v:=.agg #[.string x.val,.bool x.del]) rfl s0.e) λs1=>?_;obtain⟨w1,ez,P,N⟩:=fQ w #[Value.string x.val,.bool x.del] 138;rw[ez];have l:=(N.block _ (bX am) id).trans am;have bl:=bX P;refine bG ?_;have h2:=h1.kept N;have a8:∀b,X b\/b=w.heap.size->b<w1.heap.size:=λb e=>e.elim (λe=>by have:=hX b e;omega) (λe=>by omega)
 by_cases y:(x.bU:Int)<=t
 .refine sR ?_;refine wX 3 s1 rfl λs2=>?_;refine wS s2 (cR (i:=0) (g:=pc) (k:=0) underlying121 rfl sizeOf96 (by decide) rfl s2.e) λs3=>?_;refine wS s3 (cR (i:=2) (g:=pc) (k:=0) underlying96 rfl sizeOf3 (by decide) rfl s3.e) λs4=>?_;refine wS s4 (cU (v:=Y t) rfl isAgg3 s4.e (cK l rfl)) λU=>?_;refine wS U (iD (zE (i:=(x.bU:Nat)) (j:=t) rfl U.e U.e) (decide_eq_true y)) λs6=>?_;refine bG ?_;refine bM s6.e ?_;have B:An w1 { w1 with drawn:=w1.drawn+1 }:=⟨rfl,rfl,rfl,aW _,λ_ _ _=>rfl⟩;refine(wp_region_held (S:=λw'=>w'.heap[pc]?=some (.cells #[ab ph,Y cJ,Y t] 121 (0,0))/\w'.heap[w.heap.size]?=some (.cells #[.string x.val,.bool x.del] 138 (0,0))) oF ?_);generalize ({ w1 with drawn:=w1.drawn+1 }:Z)=w2 at B ⊢;have r:=(B.block _ (bX l) id).trans l;have o:=(B.block _ (bX P) id).trans P;have bp:=B.size;have f:(λw'=>w'.heap[pc]?=some (.cells #[ab ph,Y cJ,Y t] 121 (0,0))/\w'.heap[w.heap.size]?=some (.cells #[.string x.val,.bool x.del] 138 (0,0))) w2:=⟨r,o⟩;refine dT (i:=0) (fuel:=8) s6 rfl (λw' M=>cL (v:=ab pc) rfl s6.e) f λs7=>?_;refine dT (i:=1) (fuel:=7) s7 rfl (λw' M=>fc (p:=⟨pc,0,none⟩) rfl s7.e) f λs8=>?_;refine dT (i:=2) (fuel:=6) s8 rfl (λw' M=>cR (i:=0) (g:=pc) (k:=0) underlying121 rfl sizeOf96 (by decide) rfl s8.e) f λs9=>?_;refine dT (i:=3) (fuel:=5) s9 rfl (λw' M=>cR (i:=0) (g:=pc) (k:=0) underlying96 rfl sizeOf94 (by decide) rfl s9.e) f λan=>?_;refine dT (i:=4) (fuel:=4) an rfl (λw' M=>cU (v:=ab ph) rfl isAgg94 an.e (cK M.1 rfl)) f λa1=>?_;refine dT (i:=5) (fuel:=3) a1 rfl (λw' M=>cL (v:=.string x.key) rfl a1.e) f λa3=>?_;refine dT (i:=6) (fuel:=2) a3 rfl (λw' M=>cL (v:=Y x.bU) rfl a3.e) f λa4=>?_;refine dT (i:=7) (fuel:=1) a4 rfl (λw' M=>iV (cs:=[.string x.val,.bool x.del]) (a:=⟨w.heap.size,0,none⟩) isAgg138 sizeOf138 rfl a4.e (j2 M.2 rfl)) f λa7=>?_;have h3:=h2.kept B;refine JD (i:=8) (fuel:=0) a7 (by kernel_rfl) rfl rfl rfl rfl func79 (by kernel_rfl) (by kernel_rfl) (vs:=#[ab ph,.string x.key,Y x.bU,.agg #[.string x.val,.bool x.del]]) (by simp[a7.eval];exact⟨rfl,rfl,rfl,rfl⟩) ((KZ h3 x.key x.val x.del (x.bU:Nat) ad (rL ⟨by omega,by omega⟩) hl a9 ba (λb e=>by have:=a8 b e;omega)).mono λx' bm hh=>?_);obtain⟨W,n',nv',rfl,h4,q1,q2,R⟩:=hh;have D:=(R.block _ (bX r) (λe=>e.1 (.inl bb))).trans r;have C:=(R.block _ (bX o) (λe=>e.1 (.inr rfl))).trans o;refine⟨_,rfl,⟨D,C⟩,λbf be _=>?_⟩;refine wpAnyH_done (by kernel_rfl) ?_ 0;refine⟨be.d,_,results_none rfl,W,n',nv',rfl,?_,q1,q2,?_⟩
  .unfold mJ sw;rw[if_pos y,if_pos y];exact h4.more λb _ e=>.inl e
  .exact((N.t B).mono λ_ _ e=>e.elim).trans R λb hb e=>⟨λex=>e.1 (.inl ex),e.2⟩
 .refine sR ?_;refine wX 3 s1 rfl λs2=>?_;refine wS s2 (cR (i:=0) (g:=pc) (k:=0) underlying121 rfl sizeOf96 (by decide) rfl s2.e) λs3=>?_;refine wS s3 (cR (i:=2) (g:=pc) (k:=0) underlying96 rfl sizeOf3 (by decide) rfl s3.e) λs4=>?_;refine wS s4 (cU (v:=Y t) rfl isAgg3 s4.e (cK l rfl)) λU=>?_;refine wS U (iD (zE (i:=(x.bU:Nat)) (j:=t) rfl U.e U.e) (aY y)) λs6=>?_;refine bG ?_;refine bL s6.e (bQ ?_);refine⟨s6.d,_,results_none rfl,sl,n,nv,rfl,?_,by omega,by omega,N.mono λ_ _ e=>e.elim⟩;unfold mJ sw;rw[if_neg y,if_neg y];exact h2.more λb _ e=>.inl e
end
def GX {t:Int}{bU:Ac->List Int}{x:cO}(k:Ac):(mJ t bU x k).length<=(bU k).length+1:=by
 unfold mJ;split
 .by_cases e:k=x.key
  .rw[e];simp[cV]
  .simp[cV,e]
 .omega
def oH (t:Int)(l:List cO):Ac->List Int:=l.foldl (mJ t) λ_=>[]
def qd (t:Int)(l:List cO):Ac->Int->Option (Ac × Bool):=l.foldl (sw t) λ_ _=>none
def ME {t:Int}{l:List cO}{x:cO}:oH t (l++[x])=mJ t (oH t l) x:=by simp[oH]
def QX {t:Int}{l:List cO}{x:cO}:qd t (l++[x])=sw t (qd t l) x:=by simp[qd]
def MD {t:Int}(k:Ac)(l:List cO)(i:Nat):(oH t (l.take i) k).length<=i:=by
 have key:∀(l:List cO) (m:Ac->List Int),(l.foldl (mJ t) m k).length<=(m k).length+l.length:=by
  intro l
  induction l with
  |nil=>intro m;simp
  |cons x r a=>intro m;have f:=a (mJ t m x);have g:=GX (t:=t) (bU:=m) (x:=x) k;simp only[List.foldl_cons,ai];omega
 have:=key (l.take i) λ_=>[]
 simp only[ax,ao]at this;exact aX this (by rw[aw];omega)
def I4 {w:Z}{y cq si up fl g:Nat}{u:D}{es:List cO}{t:Int}(hs:iL w y [Y si,Y up,Y fl,u])(hR:fP w u es g)(hf:g<w.heap.size)(he:es.length<=100000)(ec:∀x∈es,x.key.size<=8/\x.bU<4294967296) :
  Calls prog 54 #[.agg #[ag y 1 cq,ae],Y t] w λe w'=>∃pc ph mv mm n nv sl,e = .returned (ab pc)/\w'.heap[pc]?=some (.cells #[ab ph,Y fl,Y t] 121 (0,0))/\HI (λb=>b<w.heap.size\/b=pc) w' ph mv mm n nv (oH t es) (qd t es) sl/\w.heap.size<=pc/\An w w':=by
 obtain⟨pu,cu,e7,_⟩:=id hR;refine cW func54 rfl ntmps54 λa0 s0=>?_;have hj:=hs.lt;refine sR ?_;refine wS s0 (jl (v:=.agg #[ag y 1 cq,ae]) rfl s0.e) λs1=>?_;obtain⟨w1,ez,d1,ew⟩:=fQ w #[ag y 1 cq,ae] 116;rw[ez];have eg:=hs.kp ew id;have d4:=hR.kp ew (by first|exact id|omega);have er:=(Kp.refl (λ_=>False) w).tt ew;have hl:=bX d1;refine wX 1 s1 rfl λs2=>?_;refine bG ?_;have bp:An w1 { w1 with drawn:=w1.drawn+1 }:=⟨rfl,rfl,rfl,aW _,λ_ _ _=>rfl⟩;refine bO (wp_region_held (S:=λw'=>w'.heap[w.heap.size]?=some (.cells #[ag y 1 cq,ae] 116 (0,0))/\iL w' y [Y si,Y up,Y fl,u]) oF ?_);generalize ({ w1 with drawn:=w1.drawn+1 }:Z)=w2 at bp ⊢;have ca:=eg.kp bp id;have B:=(bp.block _ (bX d1) id).trans d1;have hy:=bp.size;have d5:=d4.kp bp (by first|exact id|omega);have et:=er.tt bp;have dl:(λw'=>w'.heap[w.heap.size]?=some (.cells #[ag y 1 cq,ae] 116 (0,0))/\iL w' y [Y si,Y up,Y fl,u]) w2:=⟨B,ca⟩;refine dT (i:=1) (fuel:=7) s2 rfl (λw' hw=>iV (cs:=[ag y 1 cq,ae]) (a:=⟨w.heap.size,0,none⟩) isAgg116 sizeOf116 rfl s2.e (j2 hw.1 rfl)) dl λs3=>?_;refine dT (i:=3) (fuel:=6) s3 rfl (λw' hw=>cL (v:=Y t) rfl s3.e) dl λs4=>?_;refine mM (i:=0) (fuel:=5) s4 (by kernel_rfl) rfl rfl rfl (by decide) rfl func66 (by kernel_rfl) (by kernel_rfl) (vs:=#[]) (by simp) (K4.mono λx' gr hh=>?_);obtain⟨ph,mv,mm,rfl,f6,cb⟩:=hh;have M:=ca.kp cb id;have o:=(cb.block _ (bX B) id).trans B;have g8:=cb.size;have ch:=d5.kp cb (by first|exact id|omega);have cr:=et.tt cb;have d9:(λw'=>w'.heap[w.heap.size]?=some (.cells #[ag y 1 cq,ae] 116 (0,0))/\iL w' y [Y si,Y up,Y fl,u]) gr:=⟨o,M⟩;refine⟨_,rfl,d9,λa5 s5=>?_⟩;refine mM (i:=2) (fuel:=4) s5 (by kernel_rfl) rfl rfl rfl (by decide) rfl func52 (by kernel_rfl) (by kernel_rfl) (vs:=#[.agg #[ag y 1 cq,ae]]) (by simp[s5.eval];rfl) ((Cz M).mono λx' a1 hh=>?_);obtain⟨rfl,bm⟩:=hh;have N:=M.kp bm id;have f:=(bm.block _ (bX o) id).trans o;have g9:=bm.size;have ci:=ch.kp bm (by first|exact id|omega);have b7:=f6.kept bm;have cv:=cr.tt bm;have a3:(λw'=>w'.heap[w.heap.size]?=some (.cells #[ag y 1 cq,ae] 116 (0,0))/\iL w' y [Y si,Y up,Y fl,u]) a1:=⟨f,N⟩;refine⟨_,rfl,a3,λa6 s6=>?_⟩;refine ir (i:=4) (fuel:=3) s6 (by kernel_rfl) rfl rfl rfl (by decide) (Hx (p:=some ⟨ph,0,none⟩) (i:=(fl:Nat)) (j:=t) rfl s6.e s6.e s6.e) a3 λa7 s7=>?_;refine ir (i:=5) (fuel:=2) s7 (by kernel_rfl) rfl rfl rfl (by decide) (Ho (a:=ab ph) (b:=Y fl) (c:=Y t) rfl s7.e) a3 λa8 s8=>?_;have bB:(a1.alloc (.cells (Value.agg #[ab ph,Y fl,Y t]).cells 121)).heap[a1.heap.size]?=some (.cells #[ab ph,Y fl,Y t] 121 (0,0)):=bI _ _;have U:An a1 (a1.alloc (.cells (Value.agg #[ab ph,Y fl,Y t]).cells 121)):=Kp.al _ _ _;have b6:(λw'=>w'.heap[w.heap.size]?=some (.cells #[ag y 1 cq,ae] 116 (0,0))/\iL w' y [Y si,Y up,Y fl,u]) (a1.alloc (.cells (Value.agg #[ab ph,Y fl,Y t]).cells 121)):=⟨(U.block _ (bX f) id).trans f,N.kp U id⟩;refine ir (i:=6) (fuel:=1) s8 (by kernel_rfl) rfl rfl rfl (by decide) (jl (v:=.agg #[ab ph,Y fl,Y t]) rfl s8.e) b6 λa9 s9=>?_
 generalize a1.alloc (.cells (Value.agg #[ab ph,Y fl,Y t]).cells 121)=bA at bB U b6 s9 ⊢;generalize gv:a1.heap.size=pc at bB s9 ⊢;have bl:=N.kp U id;have r:=(U.block _ (bX f) id).trans f;have ck:=ci.kp U (by first|exact id|omega);have cw:=cv.tt U;refine ir (i:=7) (fuel:=0) s9 (by kernel_rfl) rfl rfl rfl (by decide) (di (v:=ab pc) rfl s9.e) b6 λhc fb=>?_;refine wpAnyH_done (by kernel_rfl) ?_ 0;have hk:=bX bB;have f7:HI (λb=>b<=w.heap.size\/b=pc) bA ph mv mm 0 0 (oH t (es.take 0)) (qd t (es.take 0)) _:=(b7.more λb hb e=>e.elim (λe=>by omega) (λe=>by omega)).kept U;refine bO (bO (bF ?_));refine wS fb (cR (i:=0) (g:=w.heap.size) (k:=0) underlying116 rfl sizeOf113 (by decide) rfl fb.e) λfd=>?_;refine wS fd (cU (v:=ag y 1 cq) rfl isAgg113 fd.e (cK r rfl)) λfj=>?_;refine wS fj (fK underlying113 rfl fj.e) λge=>?_;refine wX 1 ge rfl λex=>?_;refine bG ?_;refine wp_block (wp_loop_rounds 2 ?_);rw[rounds_succ];refine sR ?_;refine wS ex (fT (i:=0) (j:=1) rfl ex.e ex.e) λcT=>?_;refine bG ?_;refine bO (bM cT.e (bQ ?_));refine bO (wp_block ?_);refine sR ?_;refine wS cT (kY (i:=0) (g:=y) (off:=0) underlying113 sizeOf162 rfl cT.e cT.e (by decide)) λfk=>?_;refine wS fk (iV (cs:=[Y si,Y up,Y fl,u]) (a:=⟨y,0,none⟩) isAgg162 sizeOf162 rfl fk.e bl.cells) λgf=>?_;refine wS gf (iC (v:=.agg #[Y 0,Y 0,Y 0,ae]) zeroValue162 rfl) λc3=>?_;obtain⟨w3,ez,fs,bq⟩:=fQ bA #[Y 0,Y 0,Y 0,ae] 162;rw[ez];have ga:=bl.kp bq id;have bf:=(bq.block _ (bX r) id).trans r;have bb:=(bq.block _ (bX bB) id).trans bB;have d6:=ck.kp bq (by first|exact id|omega);have eu:=cw.tt bq;have gb:=bq;refine jb rfl rfl (cs:=[Y si,Y up,Y fl,u]) (g:=bA.heap.size) (k:=0) sizeOf162 rfl c3.e c3.e fs (by simp) (by simp[Value.oneCell',e7]) λw4 ey cc ha=>?_;have fv:w4.heap[bA.heap.size]?=some (.cells #[Y si,Y up,Y fl,u] 162 (0,0)):=ey;have cf:=(cc.block _ (bX bf) (by omega)).trans bf;have be:=(cc.block _ (bX bb) (by omega)).trans bb;have d7:=d6.kp cc (by first|exact id|omega);have ev:=eu.tt cc;refine bG ?_;have kc:An bA w4:=gb.trans cc λb hb e=>by omega
 have f8:=f7.kept kc;refine sR ?_;refine wS c3 (cR (i:=3) (g:=bA.heap.size) (k:=0) underlying162 rfl sizeOf159 (by decide) rfl c3.e) λfm=>?_;refine wS fm (cU (v:=u) rfl isAgg159 fm.e (cK fv rfl)) λfp=>?_;refine wS fp (fK underlying159 rfl (fp.e.trans e7)) λgj=>?_;refine wX 1 gj rfl λgk=>?_;refine bG ?_
 let I:Nat->(Nat->D)->Z->Prop:=λi e w'=>e 5 = ab pc/\e 29=u/\e 2 = ab w.heap.size/\e 22 = ag y 1 cq/\e 23 = Y 1/\e 24 = Y 0/\w'.heap[pc]?=some (.cells #[ab ph,Y fl,Y t] 121 (0,0))/\w'.heap[w.heap.size]?=some (.cells #[ag y 1 cq,ae] 116 (0,0))/\fP w' u es g/\(∃n nv sl,HI (λb=>b<=w.heap.size\/b=pc) w' ph mv mm n nv (oH t (es.take i)) (qd t (es.take i)) sl/\n<=i/\nv<=i)/\An w w'/\pc<w'.heap.size
 refine xp (n:=es.length) (si:=31) (sn:=30) (c:=32) (d:=43) I rfl rfl rfl rfl rfl rfl rfl rfl rfl (by decide) (by decide) (by omega) (λ_ _ _ _ h=>h) (λ_ _ _ _ _ h=>h) gk rfl rfl ⟨rfl,rfl,rfl,rfl,rfl,rfl,be,cf,d7,⟨0,0,_,f8,aW _,aW _⟩,ev,bX be⟩ ?_ ?_
 .rintro i q0 e0 wB K hi am ⟨i5,eo,i2,eh,ek,el,cm,cl,d8,⟨n,nv,sl,cg,hn,f9⟩,kt,fa⟩ eD f0 next
  have hx:=aQ hi;generalize hg:es[i]=x at hx;have e8:=ec x (aI hx);have fz:es.take (i+1)=es.take i++[x]:=by rw[List.take_add_one,hx];rfl
  obtain⟨ho,hd,e5,eW⟩:=id d8;obtain⟨off,rfl,C⟩:=eW (by intro e;rw[e]at hi;simp at hi);have zB:=kt.size;have am:=am.nm 5 i5;refine sR ?_;refine wS am (kY (i:=i) (g:=g) (off:=off) underlying159 sizeOf171 rfl (am.e.trans (eo.trans e5)) (am.e.trans eD) hi) λc7=>?_;refine wS c7 (tJ AK (a:=.string x.key) (b:=Y x.bU) (c:=.string x.val) (d:=.bool x.del) rfl c7.e (C i x hx 0 (by decide)) (C i x hx 1 (by decide)) (C i x hx 2 (by decide)) (C i x hx 3 (by decide))) λa4=>?_;refine wS a4 (iC (v:=.agg #[.string ⟨#[]⟩,Y 0,.string ⟨#[]⟩,.bool false]) zeroValue171 rfl) λba=>?_;obtain⟨hr,ez,dk,W⟩:=fQ wB #[Value.string ⟨#[]⟩,Y 0,.string ⟨#[]⟩,.bool false] 171;rw[ez];have R:=(W.block _ (bX cm) id).trans cm;have P:=(W.block _ (bX cl) id).trans cl;have b3:=d8.kp W (by first|exact id|omega);have cz:=kt.tt W;have gE:=bX dk;refine jb rfl rfl (cs:=[.string x.key,Y x.bU,.string x.val,.bool x.del]) (g:=wB.heap.size) (k:=0) sizeOf171 rfl ba.e ba.e dk (by simp) (by simp[Value.oneCell']) λgs d2 ad gt=>?_;have bS:gs.heap[wB.heap.size]?=some (.cells #[Value.string x.key,Y x.bU,.string x.val,.bool x.del] 171 (0,0)):=d2;have l:=(ad.block _ (bX R) (by omega)).trans R;have Q:=(ad.block _ (bX P) (by omega)).trans P;have b5:=b3.kp ad (by first|exact id|omega);have cA:=cz.tt ad;refine bG ?_;have eP:=cg.kept (W.trans ad λb hb e=>by omega);refine bF ?_;refine wX 1 ba rfl λcd=>?_;refine wS cd (cR (i:=0) (g:=wB.heap.size) (k:=0) underlying171 rfl sizeOf9 (by decide) rfl cd.e) λce=>?_;refine wS ce (cU (v:=.string x.key) rfl isAgg9 ce.e (cK bS rfl)) λdd=>?_;refine wS dd (cR (i:=1) (g:=wB.heap.size) (k:=0) underlying171 rfl sizeOf3 (by decide) rfl dd.e) λbv=>?_;refine wS bv (cU (v:=Y x.bU) rfl isAgg3 bv.e (cK bS rfl)) λbw=>?_;refine wS bw (cR (i:=2) (g:=wB.heap.size) (k:=0) underlying171 rfl sizeOf138 (by decide) rfl bw.e) λde=>?_;refine wS de (iV (cs:=[.string x.val,.bool x.del]) (a:=⟨wB.heap.size,2,none⟩) isAgg138 sizeOf138 rfl de.e (j2 bS rfl)) λan=>?_;refine wC an rfl func89 (vs:=#[ab pc,.string x.key,Y x.bU,.agg #[.string x.val,.bool x.del]]) (by simp[an.eval];exact⟨rfl,rfl,rfl,rfl⟩) ((Ip eP (λb e=>by have:=bX l;omega) l (.inr rfl) e8.1 e8.2 (by have:=MD (t:=t) x.key es i;omega) (by omega) (by omega)).mono λx' hu hh=>?_);obtain⟨gm,n',gd,rfl,eQ,q1,q2,co⟩:=hh;have ds:=(co.block _ (bX l) (λe=>e.1 (.inr rfl))).trans l;have eV:=(co.block _ (bX Q) (λe=>e.1 (.inl (aW _)))).trans Q;have f5:=b5.kp co (λe=>e.1 (.inl (by omega)));have gc:=cA.trans co λb hb e=>e.1 (.inl (by omega))
  refine⟨_,rfl,λg7 fq=>bG ?_⟩;refine next _ _ _ fq ⟨rfl,eo,i2,eh,ek,el,ds,eV,f5,⟨n',gd,gm,?_,by omega,by omega⟩,gc,bX ds⟩ eD f0
  rw[fz,ME,QX];exact eQ
 .rintro q1 e1 wE am ⟨i5,eo,i2,eh,ek,el,cm,cl,d8,⟨n,nv,sl,cg,hn,f9⟩,kt,fa⟩;refine bF ?_;refine wS am (ni (i:=0) (j:=1) rfl (am.e.trans el) rfl (by omega) (by omega)) λc7=>?_;refine wX 1 c7 rfl λa4=>?_;refine bG ?_;show Code.rounds _ _ _ 1 _ _;rw[rounds_succ];have a4:=(((a4.nm 5 i5).nm 2 i2).nm 22 eh).nm 23 ek;refine sR ?_;refine wS a4 (fT (i:=1) (j:=1) rfl a4.e a4.e) λba=>?_;refine bG ?_;refine bO (bL ba.e (wp_exit (oz ?_)));refine bO (bO (bF ?_));refine wS ba (cR (i:=1) (g:=w.heap.size) (k:=0) underlying116 rfl sizeOf114 (by decide) rfl ba.e) λcd=>?_;refine wS cd (cU (v:=ae) rfl isAgg114 cd.e (cK cl rfl)) λce=>?_;refine wS ce (fK underlying114 rfl ce.e) λdd=>?_;refine wX 1 dd rfl λbv=>?_;refine bG ?_;refine wp_block (wp_loop_once ?_);refine sR ?_;refine wS bv (fT (i:=0) (j:=0) rfl bv.e bv.e) λbw=>?_;refine bG ?_;refine bO (bL bw.e (wp_exit (oz ?_)));refine sR ?_;refine jU bw rfl rfl (cL (v:=ab pc) rfl bw.e) λhq de e6=>?_;refine ja de e6 rfl rfl (by decide) (di (v:=ab pc) rfl e6) λg6 an gu=>?_;refine bG ?_;rw[List.take_length]at cg;refine wp_ret ⟨an.d,ab pc,?_,pc,ph,mv,mm,n,nv,sl,rfl,cm,cg.more (λb hb e=>e.elim (λe=>.inl (by omega)) .inr),by omega,kt⟩;rw[fo rfl];exact congrArg (λx=>Result.ok x _) (an.v 4 (by decide))
structure xJ (c:Aj)(es:List cO)(t:Int):Prop extends xI c es where
 from_:((cF c).f2.four.1:Int)<=t
 upto:t<=((cF c).f1.four.1:Int)
 keys:∀x∈es,x.key.size<=8
def OkW.len {bs c:Aj}{es:List cO}{s':RS}(h:OkW bs c es s'):es.length<=bs.length:=by
 have o:=RS.vj h.gP;have a:(cF c).f1.bs.length<=(cF c).bs.length:=RS.fy _;have f:(cF c).f2.bs.length<=(cF c).f1.bs.length:=RS.fy _;have g:(cF c).f3.bs.length<=(cF c).f2.bs.length:=RS.fy _;have j:(cF c).f4.bs.length<=(cF c).f3.bs.length:=RS.fy _;have l4:(cF c).bs.length<=c.length:=by show(c.drop 3).length<=_;rw[aG];omega
 have l:c.length<=bs.length:=by
  have e:=h.un;unfold gl fe at e;split at e
  .cases e
  .split at e
   .cases e
   .simp only[Option.map_some,aH]at e;rw[<- e,aw];omega
 omega
def Gh{P : Ad}{Post : Exit -> Act -> Z -> Prop}{ops : Am}{a : Act}{w : Z}{o : Oper}{r : List Oper}{N : Nat}{e : Nat -> D}{f : Ag}{args : Array Ae}{ats : Array Af}{vs : Ak}(h : bY N a e)(Q : o.guard = none)(g : o.dst = some N)(l : o.op = .call { callee := .value (.func f),args,argTypes := ats })(M : P.funcs[f]? = some fn)(j : (fn.name == "runtime.NumGoroutine") = false)(hb : fn.body.isNone = false)(B : args.map a.eval = vs)
  (C:Calls P f vs w λx w'=>∃y,x = .returned y/\∀a',bY N a' e->a'.eval (.tmp N)=y->wpList P ops Post r a' w'):wpList P ops Post (o::r) a w:=
 xo Q l M j hb B (C.mono λx w' R=>by obtain⟨y,rfl,S⟩:=R;exact⟨y,rfl,S _ (by rw[g];exact h.bit y) (by rw[g];exact h.last y)⟩)
def ET{bs:Aj}{w:Z}{t:Int}(cr:w.heap[gd]?=some (.cells #[v] 48 (0,0)))(h:eS w v bs g)(hT:db w)(hl:bs.length<=100000)(cb:∀c es s',OkW bs c es s'->xJ c es t) :
  Calls prog 24 #[ag gd 1 1,ae,Y t] w λe w'=>((∀c es s',¬OkW bs c es s')/\e = .returned (.tuple #[.pointer none,Y 9])\/∃c es s' pc ph mv mm n nv sl,OkW bs c es s'/\e = .returned (.tuple #[ab pc,Y 0])/\w'.heap[pc]?=some (.cells #[ab ph,Y ((cF c).f2.four.1:Nat),Y t] 121 (0,0))/\HI (λb=>b<w.heap.size\/b=pc) w' ph mv mm n nv (oH t es) (qd t es) sl/\w.heap.size<=pc)/\An w w':=by
 refine cW func24 rfl ntmps24 λa0 s0=>?_;refine sR ?_;refine wX 2 s0 rfl λs1=>?_;refine nR ?_;refine wX 2 s1 rfl λs2=>?_;refine wC s2 rfl func50 (vs:=#[ag gd 1 1,ae]) (by simp[s2.eval];exact⟨rfl,rfl⟩) ((Pn cr h hT hl λc es s' o=>(cb c es s' o).toxI).mono λx' f R=>?_);obtain⟨R,cc⟩:=R;have bp:=cc.size;have Q:=(Kp.refl (λ_=>False) w).tt cc;rcases R with⟨cw,rfl⟩|⟨c,es,s',u,gq,cq,bw,rfl,hs,hE⟩
 .refine⟨_,rfl,λa3 s3=>?_⟩;refine wX 3 s3 rfl λs4=>?_;refine wS s4 (iC (v:=.agg #[ae,ae]) zeroValue116 rfl) λs5=>?_;obtain⟨w1,ez,S,an⟩:=fQ f #[ae,ae] 116;rw[ez];have D:=Q.tt an;have dd:=bX S;refine jb rfl rfl (cs:=[ae,ae]) (g:=f.heap.size) (k:=0) sizeOf116 rfl s5.e s5.e S (by simp) (by simp[Value.oneCell']) λw2 U a1 bp=>?_;have a4:w2.heap[f.heap.size]?=some (.cells #[ae,ae] 116 (0,0)):=U;have M:=D.tt a1;refine wX 1 s5 rfl λs6=>?_;refine bG ?_;refine bO (bO (bF ?_));refine wX 1 s6 rfl λs7=>?_;refine wS s7 (ic (b:=false) rfl s7.e) λs8=>?_;refine bG ?_;refine bM s8.e ?_;refine sR ?_;refine wX 2 s8 rfl λs9=>?_;refine bG ?_;refine wp_ret ⟨s9.d,.tuple #[.pointer none,Y 9],?_,.inl ⟨cw,rfl⟩,M⟩;rw[results_tmp2 (t:=6) (u:=7) rfl];simp only[s9.v 6 (by decide),s9.v 7 (by decide)]
  rfl
 .have ad:=cb c es s' bw;have c7:=hs.lt;obtain⟨pu,cu,cA⟩:=eM hE;have eg:=bw.len;have cv:∃g',fP f u es g'/\g'<f.heap.size:=by
   obtain⟨g0,co,b6⟩:=hE.rd
   by_cases ca:es=[]
   .obtain⟨p0,c0,h1,_⟩:=b6;exact⟨gq,⟨p0,c0,h1,λR=>bx ca R⟩,c7⟩
   .exact⟨g0,b6,(hE.lt g0 (co ca)).2⟩
  obtain⟨gE,hR,eh⟩:=cv;refine⟨_,rfl,λa3 s3=>?_⟩;refine wX 3 s3 rfl λs4=>?_;refine wS s4 (iC (v:=.agg #[ae,ae]) zeroValue116 rfl) λs5=>?_;obtain⟨w1,ez,S,an⟩:=fQ f #[ae,ae] 116;rw[ez];have bA:=hs.kp an id;have bq:=hR.kp an (by first|exact id|omega);have D:=Q.tt an;have dd:=bX S;refine jb rfl rfl (cs:=[ag gq 1 cq,ae]) (g:=f.heap.size) (k:=0) sizeOf116 rfl s5.e s5.e S (by simp) (by simp[Value.oneCell']) λw2 U a1 bp=>?_;have a4:w2.heap[f.heap.size]?=some (.cells #[ag gq 1 cq,ae] 116 (0,0)):=U;have am:=bA.kp a1 (by omega);have bv:=bq.kp a1 (by first|exact id|omega);have M:=D.tt a1;refine wX 1 s5 rfl λs6=>?_;refine bG ?_;refine bO (bO (bF ?_));refine wX 1 s6 rfl λs7=>?_;refine wS s7 (ic (b:=true) rfl s7.e) λs8=>?_;refine bG ?_;refine bL s8.e (bQ ?_);refine bO (bO (bF ?_));refine wS s8 (iV (cs:=[ag gq 1 cq,ae]) (a:=⟨f.heap.size,0,none⟩) isAgg116 sizeOf116 rfl s8.e (j2 a4 rfl)) λs9=>?_;refine wC s9 rfl func51 (vs:=#[.agg #[ag gq 1 cq,ae]]) (by simp[s9.eval];rfl) ((LD am ad.si ⟨_,_,_,cA⟩).mono λx' el R=>?_);obtain⟨rfl,y⟩:=R;have N:=am.kp y id;have l:=(y.block _ (bX a4) id).trans a4;have d2:=y.size;have a7:=bv.kp y (by first|exact id|omega);have bb:=M.tt y;refine⟨_,rfl,λd5 cd=>?_⟩;refine wS cd (ic (b:=true) rfl cd.e) λce=>?_;refine bG ?_;refine bL ce.e (bQ ?_);refine bO (bO (bF ?_));refine wX 1 ce rfl λcf=>?_;refine wS cf (iV (cs:=[ag gq 1 cq,ae]) (a:=⟨f.heap.size,0,none⟩) isAgg116 sizeOf116 rfl cf.e (j2 l rfl)) λcg=>?_;refine wC cg rfl func52 (vs:=#[.agg #[ag gq 1 cq,ae]]) (by simp[cg.eval];rfl) ((Cz N).mono λx' eo R=>?_);obtain⟨rfl,B⟩:=R;have P:=N.kp B id;have r:=(B.block _ (bX l) id).trans l;have d3:=B.size;have a8:=a7.kp B (by first|exact id|omega);have be:=bb.tt B;refine⟨_,rfl,λd6 bB=>?_⟩;refine wS bB (iD (fT (i:=t) (j:=((cF c).f2.four.1:Nat)) rfl bB.e bB.e) (aY (by have:=ad.from_;omega))) λch=>?_;refine bG ?_;refine bL ch.e (bQ ?_);refine bO (bO (bF ?_));refine wX 1 ch rfl λci=>?_;refine wS ci (iV (cs:=[ag gq 1 cq,ae]) (a:=⟨f.heap.size,0,none⟩) isAgg116 sizeOf116 rfl ci.e (j2 r rfl)) λck=>?_;refine wC ck rfl func53 (vs:=#[.agg #[ag gq 1 cq,ae]]) (by simp[ck.eval];rfl) ((JU P).mono λx' ds R=>?_);obtain⟨rfl,C⟩:=R;have ba:=P.kp C id;have W:=(C.block _ (bX r) id).trans r;have d4:=C.size;have a9:=a8.kp C (by first|exact id|omega);have bf:=be.tt C;refine⟨_,rfl,λd7 bS=>?_⟩;refine wS bS (iD (oK (i:=t) (j:=((cF c).f1.four.1:Nat)) rfl bS.e bS.e) (aY (by have:=ad.upto;omega))) λb3=>?_;refine bG ?_;refine bL b3.e (bQ ?_);refine sR ?_;refine wS b3 (iV (cs:=[ag gq 1 cq,ae]) (a:=⟨f.heap.size,0,none⟩) isAgg116 sizeOf116 rfl b3.e (j2 W rfl)) λde=>?_;refine wX 1 de rfl λcl=>?_;have c3:gE<ds.heap.size:=by omega
  refine Gh cl rfl rfl rfl func54 (by kernel_rfl) (by kernel_rfl) (vs:=#[.agg #[ag gq 1 cq,ae],Y t]) (by simp[cl.eval];exact⟨rfl,rfl⟩) ((I4 ba a9 c3 (by omega) λx hx=>⟨ad.keys x hx,by have:=(ad.bU x hx).2;have:=(cF c).f1.ox;omega⟩).mono λx' er R=>?_);obtain⟨pc,ph,mv,mm,n,nv,sl,rfl,cz,cm,ek,cT⟩:=R;have bl:=bf.tt cT;refine⟨_,rfl,λd8 dk bm=>?_⟩;refine ja dk bm rfl rfl (by decide) (di (v:=ab pc) rfl bm) λd9 dl b7=>?_;refine ja dl b7 rfl rfl (by decide) (di (v:=Y 0) rfl rfl) λec b5 d1=>?_;refine bG ?_;refine wp_ret ⟨b5.d,.tuple #[ab pc,Y 0],?_,.inr ⟨c,es,s',pc,ph,mv,mm,n,nv,sl,bw,rfl,cz,cm.more (λb _ e=>e.imp (λe=>by omega) id),by omega⟩,bl⟩;rw[results_tmp2 (t:=6) (u:=7) rfl];simp only[b5.v 6 (by decide),b5.v 7 (by decide)]
  rfl
def KH {l:Aj}(f:l.length=4):cP (iT l)=l:=by
 obtain⟨a,b,c,d,rfl⟩:∃a b c d,l=[a,b,c,d]:=by
  match l,f with
  |[a,b,c,d],_=>exact⟨a,b,c,d,rfl⟩
 have g:=a.toNat_lt;have hb:=b.toNat_lt;have j:=c.toNat_lt;have o:=d.toNat_lt;unfold cP iT;simp only[List.getD_cons_zero,List.getD_cons_succ];have e1:(a.toNat+256*b.toNat+65536*c.toNat+16777216*d.toNat) % 256=a.toNat:=by omega
 have e2:(a.toNat+256*b.toNat+65536*c.toNat+16777216*d.toNat) / 256 % 256=b.toNat:=by omega
 have e3:(a.toNat+256*b.toNat+65536*c.toNat+16777216*d.toNat) / 65536 % 256=c.toNat:=by omega
 have e4:(a.toNat+256*b.toNat+65536*c.toNat+16777216*d.toNat) / 16777216 % 256=d.toNat:=by omega
 have u:∀n (x:UInt8),n % 256=x.toNat->u8 n=x:=λn x h=>by apply UInt8.toNat_inj.1;rw[lj,h]
 rw[u _ a e1,u _ b e2,u _ c e3,u _ d e4]
def Qo{p q:Aj}{b c:UInt8}(h:dO (p++b::q)=dO (p++c::q)):b=c:=by
 unfold dO at h;have lt:∀l:Aj,∀x∈l.map UInt8.toNat,x<256:=λl x a=>by obtain⟨y,_,rfl⟩:=aK.1 a;exact y.toNat_lt
 have f:=u7 (lt (p++b::q));have g:=u7 (lt (p++c::q));have e:gg ((p++b::q).map UInt8.toNat)=gg ((p++c::q).map UInt8.toNat):=by omega
 simp only[bj,List.map_cons]at e;exact UInt8.toNat_inj.1 (Jb (lt p) (lt q) b.toNat_lt c.toNat_lt e)
def F2{c r:Aj}{p q:Aj}{x y:UInt8}(f:cQ c=p++x::q)(M:x≠y):fe (p++y::q++r) c.length=none:=by
 have U:p.length+1+q.length=c.length+4:=by have:=congrArg List.length f;rw[ld]at this;simp at this;omega
 unfold fe;rw[if_pos];refine .inr λN=>?_;unfold cQ at f;rcases Nat.lt_or_ge p.length c.length with o|Y
 .
  obtain⟨j,g⟩:∃j,c=p++x::j:=by
   have Q:p++x::q=c++cP (dO c):=f.symm;rcases List.append_eq_append_iff.1 Q with⟨C,a,hb⟩|⟨C,a,hb⟩
   .cases C with
    |nil=>rw[bo]at a;rw[a]at o;omega
    |cons z P=>rw[List.cons_append]at hb;cases hb;exact⟨P,a⟩
   .rw[a]at o;simp at o;omega
  have W:q=j++cP (dO c):=by rw[g]at f;simp only[bn,List.cons_append]at f;have:=List.append_cancel_left f;cases this;rw[g]
  have D:c.length=(p++y::j).length:=by rw[g];simp
  have e1:(p++y::q++r).take c.length=p++y::j:=by
   rw[W,D];have:p++y::(j++cP (dO c))++r=(p++y::j)++(cP (dO c)++r):=by simp
   rw[this,List.take_left]
  have e2:((p++y::q++r).drop c.length).take 4=cP (dO c):=by
   rw[W,D];have:p++y::(j++cP (dO c))++r=(p++y::j)++(cP (dO c)++r):=by simp
   rw[this,List.drop_left,bc (by simp[eG])];exact aN (by simp[eG])
  rw[e1,e2,vS _ (uf c)]at N;rw[g]at N;exact M (Qo N)
 .
  obtain⟨h,B⟩:∃h,p=c++h:=by
   have Q:p++x::q=c++cP (dO c):=f.symm;rcases List.append_eq_append_iff.1 Q with⟨C,a,hb⟩|⟨C,a,hb⟩
   .refine⟨[],?_⟩;have:C.length=0:=by have:=congrArg List.length a;simp at this;omega
    rw[aA this]at a;simpa using a.symm
   .exact⟨C,a⟩
  have l:cP (dO c)=h++x::q:=by rw[B,bn]at f;exact List.append_cancel_left f
  have R:(h++y::q).length=4:=by have:=congrArg List.length l;rw[eG]at this;simp at this ⊢;omega
  have e1:(p++y::q++r).take c.length=c:=by
   rw[B];have:c++h++y::q++r=c++(h++y::q++r):=by simp
   rw[this,List.take_left]
  have e2:((p++y::q++r).drop c.length).take 4=h++y::q:=by
   rw[B];have:c++h++y::q++r=c++(h++y::q++r):=by simp
   rw[this,List.drop_left,bc (by omega)];exact aN (by omega)
  rw[e1,e2]at N;have S:=KH R;rw[N,l]at S;have:=List.append_cancel_left S;cases this;exact M rfl
def QK{c p q:Aj}{x y:UInt8}(f:cQ c=p++x::q)(a:x≠y):gl (p++y::q)=none:=by
 have g:(p++y::q).length=c.length+4:=by have:=congrArg List.length f;rw[ld]at this;simp at this ⊢;omega
 unfold gl;rw[if_neg (by omega)];have h:=F2 (r:=[]) f a;rw[bo]at h;rw[show(p++y::q).length-4=c.length by omega,h]
 rfl
def Hk{c p q:Aj}{x y:UInt8}(f:cQ c=p++x::q)(a:x≠y):∀c' es s',¬OkW (p++y::q) c' es s':=λc' es s' h=>by have:=h.un;rw[QK f a]at this;cases this
def RS.ext (s:RS)(q:Aj):RS:=⟨s.bs++q,s.wr⟩
def RS.nE{s:RS}{n:Nat}(h:(s.take n).2.wr=false):s.wr=false/\n<=s.bs.length/\s.take n=(some (s.bs.take n),⟨s.bs.drop n,false⟩):=by
 unfold RS.take at h ⊢
 by_cases a:s.wr=true\/s.bs.length<n
 .rw[if_pos a]at h;cases h
 .rw[if_neg a];have f:s.wr=false:=by simpa usingλe=>a (.inl e)
  exact⟨f,by omega,rfl⟩
def RS.AG{s:RS}{n:Nat}(q:Aj)(h:(s.take n).2.wr=false):(s.ext q).take n=((s.take n).1,(s.take n).2.ext q):=by obtain⟨f,a,g⟩:=RS.nE h;rw[g];unfold RS.take RS.ext;rw[if_neg (by simp[f];omega)];simp only[bc a,List.drop_append_of_le_length a]
def RS.zu {s:RS}(q:Aj)(h:s.one.2.wr=false):(s.ext q).one=(s.one.1,s.one.2.ext q):=by have a:(s.take 1).2.wr=false:=h;simp only[RS.one,RS.AG q a]
def RS.KF {s:RS}(q:Aj)(h:s.four.2.wr=false):(s.ext q).four=(s.four.1,s.four.2.ext q):=by have a:(s.take 4).2.wr=false:=h;simp only[RS.four,RS.AG q a]
def RS.FQ {s:RS}(q:Aj)(h:s.text.2.wr=false):(s.ext q).text=(s.text.1,s.text.2.ext q):=by have a:(s.one.2.take s.one.1).2.wr=false:=h;have f:=(RS.nE a).1;have g:s.one.2.wr=false:=f;have e:=RS.zu q g;simp only[RS.text,e,RS.AG q a]
def RS.LP {s:RS}(q:Aj)(h:s.key.2.wr=false):(s.ext q).key=(s.key.1,s.key.2.ext q):=by
 unfold RS.key at h ⊢
 by_cases a:dy (fE s.text.1)=true
 .simp only[a,if_true]at h;have e:=RS.FQ q h;simp only[e,a,if_true]
 .simp only[a,RS.bad]at h;simp at h
def RS.QY {s:RS}(q:Aj)(h:s.cE.2.wr=false):(s.ext q).cE=(s.cE.1,s.cE.2.ext q):=by
 unfold RS.cE at h ⊢
 by_cases f:s.one.1=0
 .simp only[f,if_true]at h
  by_cases g:(fE s.one.2.text.1).size<=20
  .rw[if_pos g]at h;have a:(s.one.2.one.2.take s.one.2.one.1).2.wr=false:=h;have l:s.one.2.one.2.wr=false:=(RS.nE a).1;have o:(s.one.2.take 1).2.wr=false:=l;have r:s.one.2.wr=false:=(RS.nE o).1;have e1:=RS.zu q r;have e2:=RS.FQ q h;simp only[e1,f,if_true,e2,g]
  .rw[if_neg g]at h;cases h
 .by_cases a:s.one.1=1
  .simp only[a,if_true]at h;have j:s.one.2.wr=false:=by simpa using h
   have e1:=RS.zu q j;simp[e1,a]
  .simp only[f,a,if_false,RS.bad]at h;cases h
def RS.KI {s:RS}(h:s.four.2.wr=false):s.wr=false:=(RS.nE (n:=4) h).1
def RS.Q3 {s:RS}(h:s.cE.2.wr=false):s.wr=false:=by
 have a:s.one.2.wr=false:=by
  unfold RS.cE at h
  by_cases f:s.one.1=0
  .simp only[f,if_true]at h
   by_cases g:(fE s.one.2.text.1).size<=20
   .rw[if_pos g]at h;have a:(s.one.2.one.2.take s.one.2.one.1).2.wr=false:=h;have j:s.one.2.one.2.wr=false:=(RS.nE a).1;have l:(s.one.2.take 1).2.wr=false:=j;exact(RS.nE l).1
   .rw[if_neg g]at h;cases h
  .by_cases a:s.one.1=1
   .simpa [f,a]using h
   .simp only[f,a,if_false,RS.bad]at h;cases h
 exact(RS.nE (n:=1) a).1
def RS.JZ {s:RS}(q:Aj)(h:s.entry.2.wr=false):(s.ext q).entry=(s.entry.1,s.entry.2.ext q):=by have a:s.key.2.four.2.cE.2.wr=false:=h;have f:=RS.Q3 a;have g:=RS.KI f;simp only[RS.entry,RS.LP q g,RS.KF q f,RS.QY q a]
structure qp (x:cO):Prop where
 key:dy x.key=true
 bU:x.bU<4294967296
 val:x.val.size<=20
 del:x.del=true->x.val=eb
def RS.yu {x:cO}(a:qp x)(r:Aj):(⟨x.bytes++r,false⟩:RS).entry=(x,⟨r,false⟩):=by
 have e:x.bytes++r=fF x.key++(cP x.bU++(ko (x.val,x.del)++r)):=by simp[cO.bytes,qG]
 rw[e];simp only[RS.entry,RS.Da x.key a.key,RS.mf x.bU a.bU,RS.F9 (x.val,x.del) a.val a.del]
def cO.Ik (x:cO):x.bytes≠[]:=by simp[cO.bytes,qG,fF]
def B8:∀(es:List cO),(∀x∈es,qp x)->(⟨dp es,false⟩:RS).gP es ⟨[],false⟩
 |[],_=>rfl
 |x::r,h=>by
  have e:dp (x::r)=x.bytes++dp r:=by simp[dp]
  have a:=RS.yu (h x (by simp)) (dp r);rw[<- e]at a;refine⟨?_,by rw[a],?_⟩
  .have:dp (x::r)≠[]:=by rw[e];simp[cO.Ik x]
   simp[RS.more,this]
  .rw[a];exact B8 r λy f=>h y (aD _ f)
def B9:∀(es:List cO) (j:Nat) (es':List cO) (s':RS),(∀x∈es,qp x)->j<(dp es).length->(⟨(dp es).take j,false⟩:RS).gP es' s'->s'.more=false->s'.done=true->es'.length<es.length
 |[],j,es',s',_,g,_,_,_=>by simp[dp]at g
 |x::r,j,es',s',h,g,f,hm,o=>by
  have e:dp (x::r)=x.bytes++dp r:=by simp[dp]
  have C:=h x (by simp);rw[e]at f g;cases es' with
  |nil=>simp
  |cons y l=>
   obtain⟨m1,_,a⟩:=f;rcases Nat.lt_or_ge j x.bytes.length with M|D
   .exfalso
    rw[bc (by omega)]at a m1;cases B:(⟨x.bytes.take j,false⟩:RS).entry.2.wr with
    |true=>
     cases l with
     |nil=>have e1:s'=_:=a;rw[e1]at o;simp[RS.done,B]at o
     |cons z P=>have e1:=a.1;simp[RS.more,B]at e1
    |false=>
     have e1:=RS.JZ (x.bytes.drop j) B;have e2:(⟨x.bytes.take j,false⟩:RS).ext (x.bytes.drop j)=⟨x.bytes++[],false⟩:=by simp[RS.ext]
     rw[e2,RS.yu C []]at e1;have e3:=congrArg (λp=>p.2.bs) e1;simp only[RS.ext]at e3;have e4:x.bytes.drop j=[]:=(List.append_eq_nil_iff.1 e3.symm).2;have:=congrArg List.length e4;simp at this;omega
   .obtain⟨i,rfl⟩:∃i,j=x.bytes.length+i:=⟨j-x.bytes.length,by omega⟩;rw[List.take_length_add_append]at a;rw[RS.yu C]at a;have:=B9 r i l s' (λz N=>h z (aD _ N)) (by simp at g;omega) a hm o;simp only[ai];omega
def E8 (a b f n:Nat)(r:Aj):cF (eC a b f n++r)=⟨cP a++(cP b++(cP f++(cP n++r))),false⟩:=by simp[cF,eC]
section
variable {a b f n:Nat}{r:Aj}
def Pm (g:a<4294967296):(cF (eC a b f n++r)).four.1=a:=by rw[E8,RS.mf a g]
def E4 (g:a<4294967296):(cF (eC a b f n++r)).f1=⟨cP b++(cP f++(cP n++r)),false⟩:=by rw[RS.f1,E8,RS.mf a g]
def Ap (g:a<4294967296)(hb:b<4294967296):(cF (eC a b f n++r)).f1.four.1=b:=by rw[E4 g,RS.mf b hb]
def E5 (g:a<4294967296)(hb:b<4294967296):(cF (eC a b f n++r)).f2=⟨cP f++(cP n++r),false⟩:=by rw[RS.f2,E4 g,RS.mf b hb]
def E0 (g:a<4294967296)(hb:b<4294967296)(h:f<4294967296):(cF (eC a b f n++r)).f2.four.1=f:=by rw[E5 g hb,RS.mf f h]
def E6 (g:a<4294967296)(hb:b<4294967296)(h:f<4294967296):(cF (eC a b f n++r)).f3=⟨cP n++r,false⟩:=by rw[RS.f3,E5 g hb,RS.mf f h]
def E3 (g:a<4294967296)(hb:b<4294967296)(h:f<4294967296)(j:n<4294967296):(cF (eC a b f n++r)).f3.four.1=n:=by rw[E6 g hb h,RS.mf n j]
def E7 (g:a<4294967296)(hb:b<4294967296)(h:f<4294967296)(j:n<4294967296):(cF (eC a b f n++r)).f4=⟨r,false⟩:=by rw[RS.f4,E6 g hb h,RS.mf n j]
end
def QL (c:Aj):gl (cQ c)=some c:=by
 unfold gl;rw[if_neg (by rw[ld];omega)];have h:=xj c [];rw[bo]at h;rw[ld,Nat.add_sub_cancel,h]
 rfl
def Na {a b f:Nat}{es:List cO}(g:a<4294967296)(hb:b<4294967296)(h:f<4294967296)(j:es.length<4294967296)(l:∀x∈es,qp x):OkW (cQ (eC a b f es.length++dp es)) (eC a b f es.length++dp es) es ⟨[],false⟩:=by
 refine⟨QL _,?_,?_,rfl,?_⟩
 .simp[eC,List.isPrefixOf]
 .rw[E7 g hb h j];exact B8 es l
 .rw[E3 g hb h j];simp[RS.done]
def OkW.one {bs c c':Aj}{es es':List cO}{s s':RS}(h:OkW bs c es s)(a:OkW bs c' es' s'):c=c'/\es=es':=by
 have e:c=c':=by
  have:=h.un;rw[a.un]at this;cases this
  rfl
 subst e;exact⟨rfl,(RS.yt h.gP h.more a.gP a.more).1⟩
def vB {s:RS}(h:s.four.2.wr=false):s.wr=false/\s.four.2.bs.length+4<=s.bs.length:=by obtain⟨a,g,f⟩:=RS.nE (s:=s) (n:=4) h;refine⟨a,?_⟩;show(s.take 4).2.bs.length+4<=_;rw[f];simp only[aG];omega
def Hl {a b f:Nat}{es:List cO}(C:a<4294967296)(hb:b<4294967296)(N:f<4294967296)(Q:es.length<4294967296)(Y:∀x∈es,qp x){k:Nat}(P:k<(cQ (eC a b f es.length++dp es)).length):∀c' es' s',¬OkW ((cQ (eC a b f es.length++dp es)).take k) c' es' s':=λc' es' s' h=>by
 generalize D:eC a b f es.length++dp es=c at P h;rw[ld]at P;have hl:((cQ c).take k).length=k:=by rw[aw,ld];omega
 have e1:c'=c.take (k-4)/\4<=k:=by
  have:=h.un;unfold gl at this;rw[hl]at this;split at this
  .cases this
  .rename_i U
   refine⟨?_,by omega⟩;unfold fe at this;split at this
   .cases this
   .simp only[Option.map_some,aH]at this;rw[<- this,List.take_take,Nat.min_eq_left (by omega)];unfold cQ;rw[bc (by omega)]
 obtain⟨e1,U⟩:=e1;have g:s'.done=true:=by have:=h.ok;simp only[av]at this;exact this.1
 have o:es'.length=(cF c').f3.four.1:=by have:=h.ok;simp only[av,bC]at this;exact this.2
 have W:c.length=19+(dp es).length:=by rw[<- D,aj,tj]
 rcases Nat.lt_or_ge (k-4) 19 with ad|Z
 .
  have r:(cF c').f4.wr=true:=by
   cases r:(cF c').f4.wr with
   |true=>rfl
   |false=>
    obtain⟨g1,g2⟩:=vB (s:=(cF c').f3) r;obtain⟨g3,g4⟩:=vB (s:=(cF c').f2) g1;obtain⟨g5,R⟩:=vB (s:=(cF c').f1) g3;obtain⟨g7,S⟩:=vB (s:=cF c') g5;have i2:(cF c').f3.bs.length+4<=(cF c').f2.bs.length:=g4;have i3:(cF c').f2.bs.length+4<=(cF c').f1.bs.length:=R;have i4:(cF c').f1.bs.length+4<=(cF c').bs.length:=S;have M:(cF c').bs.length=c'.length-3:=by simp[cF]
    have:c'.length<=k-4:=by rw[e1,aw];omega
    omega
  cases es' with
  |nil=>have e2:s'=_:=h.gP;rw[e2]at g;simp[RS.done,r]at g
  |cons y l=>have e2:=h.gP.1;simp[RS.more,r]at e2
 .
  obtain⟨j,hj⟩:∃j,k-4=19+j:=⟨k-4-19,by omega⟩;have e2:c'=eC a b f es.length++(dp es).take j:=by rw[e1,<- D,hj,<- tj a b f es.length,List.take_length_add_append]
  rw[e2]at o;have B:=h.gP;rw[e2,E7 C hb N Q]at B;rw[E3 C hb N Q]at o;have:=B9 es j es' s' Y (by omega) B h.more g;omega
def G3{s:XS}(ok:dj s){ks:List Ac}(hp:ks.Pairwise blt):(dw s 0 ks).Pairwise uR:=by
 unfold dw;rw[List.pairwise_flatMap];refine⟨λk _=>?_,hp.imp λ{k r} hb x h y j=>?_⟩
 .unfold nY;rw[List.pairwise_map];refine(List.Pairwise.drop (ok.up k)).imp_of_mem λ{m f} hm a g=>.inr ⟨rfl,?_⟩
  have l:=ok.bU k m (List.mem_of_mem_drop hm);have o:=ok.bU k f (List.mem_of_mem_drop a);show m.toNat<f.toNat;omega
 .obtain⟨m,_,rfl⟩:=aK.1 h;obtain⟨f,_,rfl⟩:=aK.1 j;exact .inl hb
def NQ{R:α->α->Prop}{l:List α}(h:l.Pairwise R)(i:Nat)(x y:α)(g:l[i]?=some x)(j:l[i+1]?=some y):R x y:=by obtain⟨a,e1⟩:=ak.1 g;obtain⟨f,e2⟩:=ak.1 j;rw[<- e1,<- e2];exact List.pairwise_iff_getElem.1 h i (i+1) a f (by omega)
def Mt{s:XS}(ok:dj s){ks:List Ac}(hp:ks.Pairwise blt)(r:∀k,k∈ks↔s.bU k≠[]){t:Int}(h1:s.cJ<=t)(C:t<=s.now):xJ (eC 0 s.now.toNat s.cJ.toNat (dw s 0 ks).length++dp (dw s 0 ks)) (dw s 0 ks) t:=by
 have l:=ok.now;have j:=ok.cJ;have a:(0:Nat)<4294967296:=by omega
 have g:s.now.toNat<4294967296:=by omega
 have o:s.cJ.toNat<4294967296:=by omega
 refine⟨⟨Pm a,?_,λx f=>?_,λi x y f B=>NQ (G3 ok hp) i x y f B⟩,?_,?_,λx f=>?_⟩
 .rw[E0 a g o,Ap a g];omega
 .rw[Ap a g];obtain⟨k,_,h1⟩:=List.mem_flatMap.1 f;obtain⟨m,hm,rfl⟩:=aK.1 h1;have:=ok.bU k m (List.mem_of_mem_drop hm);show 1<=m.toNat/\m.toNat<=s.now.toNat;omega
 .rw[E0 a g o];omega
 .rw[Ap a g];omega
 .obtain⟨k,h,h1⟩:=List.mem_flatMap.1 f;obtain⟨m,hm,rfl⟩:=aK.1 h1;exact jB _ (ok.key k ((r k).1 h))
def kC.at:∀{l:List (Aj)} {n:Nat} {s s':XS},kC l n s s'->∀{i:Nat} {f:Aj},l[i]?=some f->∃g y,kE f (n+i) g y true
 |[],_,_,_,_,i,f,h=>by simp at h
 |a::l,n,s,s',⟨g,j,o⟩,i,f,h=>by
  cases i with
  |zero=>simp at h;subst h;exact⟨s,g,j⟩
  |succ i=>obtain⟨t1,t2,r⟩:=kC.at o (i:=i) (f:=f) (by simpa using h);exact⟨t1,t2,by rw[show n+(i+1)=n+1+i by omega];exact r⟩
def kE.num{bs:Aj}{n:Nat}{s:XS}(h:kE bs n s s' true):gO bs=some n:=by
 rcases h with⟨_,_,e⟩|⟨l,rest,a,_⟩
 .cases e
 .exact a.num
def kE.stay{bs:Aj}{n:Nat}{s:XS}{b:Bool}(h:kE bs n s s' b)(a:gO bs≠some n):s'=s:=by
 rcases h with⟨_,e,_⟩|⟨l,rest,f,_⟩
 .exact e
 .exact bx f.num a
def DK{fs:List (Aj)}{f:Aj}{s:XS}(hm:m+1<fs.length)(a:fs[m]?=some f)(j:gO f≠some m):¬qq fs s s':=by
 rintro(⟨e,_⟩|⟨l,o,r,b,e,g,_⟩)
 .rw[e]at hm;simp at hm
 .rw[e]at hm a;rw[aj]at hm;simp only[ai,ax]at hm;rw[az (by omega)]at a;obtain⟨t1,t2,h⟩:=g.at a;rw[ao]at h;exact j h.num
def Co(es:List (List W3))(a:i<4294967296):gO (cY (bZ 1 es) i)=some i:=by
 have h:=Cm es (m:=(cY (bZ 1 es) i).length) a (by unfold cY;rw[aj,qZ];omega)
 rwa [List.take_length]at h
def Ko{lg:List (Aj)}{p q r:Aj}{x y:UInt8}(j:cY lg i=p++x::q++r)(l:p.length+1+q.length=11)(f:x≠y):gO (p++y::q++r)=none:=by
 have h:cQ ([80,76,49]++cP i)=p++x::q:=by
  have:fJ i++((lg.drop (4*i)).take 4).flatMap dv=(p++x::q)++r:=j;have a:(fJ i).length=(p++x::q).length:=by rw[qZ];simp;omega
  exact(List.append_inj this a).1
 have g:=F2 (r:=r) h f;unfold gO;rw[show([80,76,49]++cP i:Aj).length=7 from rfl]at g;rw[g]
section
variable {es:List (List W3)}
def yD (es:List (List W3)):(cG (bZ 1 es)).length=(es.length+3) / 4:=by rw[oq,mV]
def sT(a:4*i<es.length):(cG (bZ 1 es))[i]?=some (cY (bZ 1 es) i):=vt (bZ 1 es) i (by rw[mV];exact a)
def Gd(h:∀ws∈es,ik ws)(l:es.length<=2000)(h0:eO es 0 s0):¬rT (cG (bZ 1 es)) s0:=by
 have:=I7 (n:=bytesOf (cG (bZ 1 es))) h l h0
 rwa [yE _ (λf j=>?_) _ (aW _)]at this
 obtain⟨i,a⟩:=List.getElem?_of_mem j;have g:=(ak.1 a).1;rw[yD]at g;rw[sT (by omega)]at a;cases a;unfold cY fJ cQ;simp
def Km(o:∀ws∈es,ik ws)(r:es.length<=2000)(h0:eO es 0 s0)(hm:m+2=(cG (bZ 1 es)).length):¬rT ((cG (bZ 1 es)).take m++(cG (bZ 1 es)).drop (m+1)) s0:=by
 rintro⟨i,f,y,B,l,j,a,g⟩;rw[aj,aw,aG]at j;have h:i<m:=by omega
 rw[az (by rw[aw];omega),bu,if_pos h]at l;refine Gd o r h0 ⟨i,f,y,B,l,by omega,?_,g⟩;rw[bc (by rw[aw];omega),List.take_take,Nat.min_eq_left (by omega)]at a;exact a
def Kl(D:∀ws∈es,ik ws)(P:es.length<=2000)(h0:eO es 0 s0)(hm:m+2=(cG (bZ 1 es)).length)(B:qq ((cG (bZ 1 es)).take m++(cG (bZ 1 es)).drop (m+1)) s0 s'):eO es (4*m) s':=by
 have N:=yD es;have a:(cG (bZ 1 es))[m+1]?=some (cY (bZ 1 es) (m+1)):=sT (by omega);have M:(cG (bZ 1 es)).drop (m+1)=[cY (bZ 1 es) (m+1)]:=by obtain⟨r,C⟩:=ak.1 a;rw[List.drop_eq_getElem_cons r,C,List.drop_eq_nil_of_le (by omega)]
 rw[M]at B;rcases B with⟨e,_⟩|⟨l,f,Q,b,e,y,o⟩
 .simp at e
 .obtain⟨e1,e2⟩:=List.append_inj' e rfl;cases e2;have h:l.length=m:=by rw[<- e1,aw];omega
  have r:=zZ D P l 0 s0 Q (by omega) h0 (λj f g=>by
   rw[<- e1,bu]at g;split at g
   .rw[sT (by omega)]at g;cases g;refine⟨(cY (bZ 1 es) j).length,?_⟩;rw[ao,List.take_length]
   .cases g) y
  rw[ao,h]at r;rw[o.stay (by rw[h,Co es (by omega)];simp)];exact r
end
def Kt{p:Nat}{fs:List (Aj)}{w:Z}(hp:w.cell? ⟨p,3,none⟩=some h)(N:JR w h fs j)(y:∀f∈fs,f≠[])(R:bytesOf fs<=1000000000)(r:fs.length<=1100000) :
  Calls prog 20 #[ab p] w λe w'=>∃v,e = .returned v/\∃a,FR w.heap.size w' v fs a/\An w w':=by
 have Q:Calls prog 43 #[.pointer (some ⟨p,3,none⟩)] w λe w'=>∃v,e = .returned v/\∃a,FR w.heap.size w' v fs a/\An w w':=LA p 3 h fs j w hp N y R r λv a Y o B=>⟨v,rfl,a,o,B⟩
 refine cW func20 rfl ntmps20 λa0 s0=>?_;refine sR ?_;refine wX 1 s0 rfl λU=>?_;refine nR ?_;refine wX 2 U rfl λC=>?_;refine wS C (cR (i:=1) (g:=p) (k:=0) underlying102 rfl sizeOf98 (by decide) rfl C.e) λD=>?_;refine Gh D rfl rfl rfl func43 (by kernel_rfl) (by kernel_rfl) (vs:=#[.pointer (some ⟨p,3,none⟩)]) (by simp[D.eval];rfl) (Q.mono λx' Y P=>?_);obtain⟨v,rfl,a,o,B⟩:=P;refine⟨_,rfl,λa4 W l=>?_⟩;refine ja W l rfl rfl (by decide) (di (v:=v) rfl l) λa5 M S=>?_;refine bG ?_;refine wp_ret ⟨M.d,v,?_,v,rfl,a,o,B⟩;rw[fo rfl];exact congrArg (λx=>Result.ok x _) (M.v 2 (by decide))
def OO{l:List A3}{s:XS}(h:fY l s):∃es:List (List W3),es.length=l.length+1/\eO es es.length s/\(∀ws∈es,ik ws)/\sk s:=by
 refine fY.ind (P:=λl s=>∃es:List (List W3),es.length=l.length+1/\eO es es.length s/\(∀ws∈es,ik ws)/\sk s) (λs hF=>?_) (λl s a nv nm g N C D=>?_) h
 .obtain⟨ws,g1,g2,g3,g4⟩:=hF.Dm;have e:=Gm g1;refine⟨[ws],rfl,⟨hF.now,hF.cJ,λk=>?_,λk m=>?_,by rw[g3];rfl,aW _⟩,λx f=>?_,λk o=>?_⟩
  .rw[hF.bU];simp only[ai,ax,oG,List.getD_cons_zero,e]
   by_cases j:k=ka
   .subst j;simp[cV]
   .simp[cV,j]
  .rw[hF.cE];simp only[ai,ax,nG,List.getD_cons_zero,e]
   by_cases j:k=ka
   .subst j
    by_cases em:m=1
    .subst em;simp[cV]
    .simp[cV,em]
   .simp[cV,j]
  .rw[au]at f;subst f;refine yj g1 g2 ⟨ka,by rw[kj];rfl⟩ (λk v h=>?_)
   by_cases j:k=ka
   .subst j;rw[kj]at h;injection h with h
    subst h;exact⟨vM,by decide,λe=>by cases e⟩
   .rw[jI _ j]at h;cases h
  .rw[hF.bU]at o
   by_cases e:k=ka
   .rw[e];exact vQ 0
   .rw[if_neg e]at o;exact bx rfl o
 .obtain⟨es,M,r,y,B⟩:=D;obtain⟨ws,g1,g2,g3,g4⟩:=C;refine⟨es++[ws],by simp;omega,?_,λx f=>?_,Fv B (λk=>rfl) (Ba _ _ _)⟩
  .have:=r.iM rfl g1 g3 nv nm;rw[show es.length+1=(es++[ws]).length by simp]at this;exact this
  .rcases aM.1 f with f|f
   .exact y x f
   .rw[au]at f;subst f;exact yj g1 g2 (Bc _ _ _) (Bb _ _ _)
structure pj (w:Z)(p:Nat)(s:XS)(es:List (List W3))(w':Z):Prop extends Full w p s es w' where
 qV:∀n,s.bk.un n=none
def Ku{w:Z}(o:db w){n:Nat}{f:Nat->A3}(hv:mE w v n f) :
  Calls prog 11 #[v] w λe w'=>∃x,e = .returned x/\∃p s es,x = ab p/\pj w p s es w'/\1<=es.length/\es.length<=201:=by
 refine JK w o v n f hv (λw' p s a ok S k=>⟨_,rfl,p,s,?_⟩);obtain⟨es,g,h,j,l⟩:=OO a;have r:es.length<=201:=by rw[g];simp;omega
 obtain⟨f1,f2,f3,f4,f5⟩:=a.facts;exact⟨es,rfl,⟨⟨S,ok,l,h,j,f3,f4,by omega,k⟩,a.qV⟩,by omega,r⟩
def IT{w w':Z}{p:Nat}{s:XS}{es:List (List W3)}(h:pj w p s es w')(B:es.length<=1000){a1 a2 a3:Int}(h1:dY a1)(r:dY a2)(y:dY a3) :
  Calls prog 12 #[ab p,nV a1 a2 a3] w' λe f=>∃x,e = .returned x/\∃s' ws,x = .bool true/\pj w p s' (es++[ws]) f:=by
 have C:=h.dJ.now;have hb:=h.od;refine B6 h.st h.ok (by omega) (by rw[h.dm];omega) (by omega) a1 a2 a3 h1 r y (λf nv nm l g o j k=>?_);obtain⟨ws,g1,g2,g3,g4⟩:=g;refine⟨_,rfl,_,ws,rfl,⟨o,j,Fv h.Fu (λk=>rfl) (Ba _ _ _),?_,λx a=>?_,h.cx,h.dm,?_,h.kp.trans k (λb hb e=>e hb)⟩,h.qV⟩
 .have:=h.dJ.iM rfl g1 g3 nv nm;rw[show es.length+1=(es++[ws]).length by simp]at this;exact this
 .rcases aM.1 a with a|a
  .exact h.gY x a
  .rw[au]at a;subst a;exact yj g1 g2 (Bc _ _ _) (Bb _ _ _)
 .show s.begun+1<=_;simp;omega
def EJ{w:Z}(g:db w){fs:List (Aj)}(hv:pg w v fs (λb=>b<w.heap.size))(a:∀s s',¬qq fs s s') :
  Calls prog 16 #[v] w λe w'=>∃x,e = .returned x/\x = .tuple #[.pointer none,Y 9]/\An w w':=
 Gw (own:=λ_=>⟨0,9,0,eb⟩) (c:=2) g (λ_ _=>by simp) v fs hv (λ_ w' k=>⟨_,rfl,rfl,k⟩) (λw' f s' k o j r ok ht hb l h=>bx h (a _ _))
def EK{w:Z}(g:db w){fs:List (Aj)}(hv:pg w v fs (λb=>b<w.heap.size))(f:∀mu,¬rT fs (dn mu)) :
  Calls prog 16 #[v] w λe w'=>∃x,e = .returned x/\∃q s' N mu,x = .tuple #[ab q,Y 0]/\St N w' q s'/\(∃h,qq fs (dn mu) h/\s'.now=h.now)/\An w w':=by
 refine Gw (own:=λ_=>⟨0,9,0,eb⟩) (c:=2) g (λ_ _=>by simp) v fs hv (λl=>bx l (f _)) (λw' a s' k o j y ok ht hb B r=>?_);exact⟨_,rfl,_,p8 s',_,_,rfl,⟨a,y,λb hb=>⟨aR hb k.size,by rw[o b hb];simp⟩,g.kept k,j⟩,⟨s',r,rfl⟩,k⟩
def BR.set{base n cap:Nat}{w:Z}{bs:Aj}{y:UInt8}(h:BR base w (ag g n cap) bs):BR base (w.setCell ⟨g,k,none⟩ (b8 y)) (ag g n cap) (bs.set k y):=by
 have C:n=bs.length:=by
  obtain⟨p,c,e⟩:=eM h;cases e
  rfl
 subst C;refine⟨by simp,?_⟩;rcases h.2 with⟨e,_⟩|⟨D,f,a,e,hb,B,j,l,o,r⟩
 .cases e
 .cases e;refine .inr ⟨g,cap,a.setIfInBounds k (b8 y),by simp,hb,kg (i:=k) (b8 y) B,by simpa using j,l,by simpa using o,?_⟩;simp only[List.length_set];rw[Array.toList_setIfInBounds,List.take_set,r,List.map_set]
def eS.cell{w:Z}{bs:Aj}{o n:Nat}(h:eS w (.slice (some ⟨g,o,none⟩) n c) bs g)(a:k<bs.length):w.cell? ⟨g,o+k,none⟩=some (b8 (bs.getD k 0)):=by obtain⟨p,cap,e,_,j⟩:=h;cases e;obtain⟨_,l,e2,f⟩:=j (by intro e;rw[e]at a;simp at a);cases e2;exact f k a
def eS.upto{w:Z}{bs:Aj}{n:Nat}{p:Option Addr}(h:eS w (.slice p n c) bs g)(D:k<=bs.length):eS w (.slice p k c) (bs.take k) g:=by
 obtain⟨N,cap,e,M,B⟩:=h;cases e;have a:(bs.take k).length=k:=by rw[aw];omega
 refine⟨p,c,by rw[a],by rw[a];omega,λf=>?_⟩;have l:bs≠[]:=λe=>by rw[e]at f;simp at f
 obtain⟨C,o,rfl,y⟩:=B l;refine⟨C,o,rfl,λj r=>?_⟩;rw[a]at r;rw[y j (by omega)]
 congr 2
 simp[List.getD,r]
section
variable {P:Ad}{ρ:Ae->D}{o:Oper}{x y z:Ae}{w:Z}
def NP{t e:Af}{p:Option Addr}{n:Nat}(r:P.underlying t=some (.slice e))(g:∀w,(sizeOf e).run P w = .ok sz w)(f:o.op = .slice t x none (some z) none)(y:ρ x = .slice p n c)(B:ρ z = Y i)(M:i<=n)(D:n<=c):∃j,(j=p\/c=0)/\(execOp ρ o).run P w = .ok (.value (.slice j i c)) w:=by
 have C:(0:Int)<=i/\(i:Int)<=c:=by omega
 have l:i<=c:=by omega
 refine⟨if c=0 then p else p.map (·.add (0*sz)),?_,?_⟩
 .by_cases h:c=0
  .exact .inr h
  .refine .inl ?_;rw[if_neg h];cases p with
   |none=>rfl
   |some a=>simp[Addr.add]
 .simp[execOp,f,y,B,bK r,Instr.sliceAt,Instr.slice,Instr.sliceBounds,Instr.sliceBound,asIntOf,g,l]
def wI{t u:Af}{a c:UInt8}(f:o.op = .binOp .xor t x y u)(h:ρ x=b8 a)(j:ρ y=b8 c):(execOp ρ o).run P w = .ok (.value (b8 (a ^^^ c))) w:=by
 have e:(Op.intBits .xor .u8 (a.toNat:Int) (c.toNat:Int)).run P w = .ok (b8 (a ^^^ c)) w:=by
  show Result.ok (Value.int .u8 (IntKind.u8.wrap (((BitVec.ofInt 8 (a.toNat:Int)) ^^^ (BitVec.ofInt 8 (c.toNat:Int))).toNat:Int))) w=_;have g:((BitVec.ofInt 8 (a.toNat:Int)) ^^^ (BitVec.ofInt 8 (c.toNat:Int))).toNat=(a ^^^ c).toNat:=by
   have l:=a.toNat_lt;have r:=c.toNat_lt;simp only[BitVec.toNat_xor,UInt8.toNat_xor,BitVec.toNat_ofInt]
   congr 1<;>omega
  rw[g];unfold b8
  congr 2
  rw[IntKind.wrap_u8];omega
 simp[execOp,f,h,j,b8,binOp,eqGuard];unfold b8 at e;rw[e];simp
def D9{t u e:Af}{p:Addr}(ht:P.underlying t=some (.pointer e))(a:o.op = .binOp .eql t x y u)(g:ρ x = .pointer (some p))(h:ρ y = .pointer none):(execOp ρ o).run P w = .ok (.value (.bool false)) w:=by
 have f:P.underlying t=some (.pointer (P.pointee t)):=by simp[Program.pointee,ht]
 simp[execOp,a,g,h,binOp,eqGuard,run_equal_pointer_nil w t _ f]
def pQ {t u e:Af}(ht:P.underlying t=some (.pointer e))(a:o.op = .binOp .eql t x y u)(g:ρ x = .pointer none)(h:ρ y = .pointer none):(execOp ρ o).run P w = .ok (.value (.bool true)) w:=by
 have f:P.underlying t=some (.pointer (P.pointee t)):=by simp[Program.pointee,ht]
 simp[execOp,a,g,h,binOp,eqGuard,run_equal_pointer_nil w t _ f]
def zF{t u e:Af}{p:Addr}(ht:P.underlying t=some (.pointer e))(a:o.op = .binOp .neq t x y u)(g:ρ x = .pointer (some p))(h:ρ y = .pointer none):(execOp ρ o).run P w = .ok (.value (.bool true)) w:=by
 have f:P.underlying t=some (.pointer (P.pointee t)):=by simp[Program.pointee,ht]
 simp[execOp,a,g,h,binOp,eqGuard,run_equal_pointer_nil w t _ f]
end
structure FV (w:Z)(gf n cf:Nat)(fs:List (Aj))(vs:List D):Prop where
 len:vs.length=n
 mU:fs.length=n
 cap:n<=cf
 cell:∀(i:Nat) v,vs[i]?=some v->w.cell? ⟨gf,i,none⟩=some v
 at_:∀(i:Nat) v f,vs[i]?=some v->fs[i]?=some f->∃b m c g,v = .slice b m c/\eS w v f g/\g<w.heap.size/\g≠gf/\f.length<=1000000
 lt:gf<w.heap.size
def FV.kp{S:Nat->Prop}{w w':Z}{n:Nat}{fs:List (Aj)}{vs:List D}(h:FV w gf n cf fs vs)(j:Kp S w w')(h0:¬S gf)(h1:∀(i:Nat) v f b m c g,vs[i]?=some v->fs[i]?=some f->v = .slice b m c->eS w v f g->g<w.heap.size->g≠gf->¬S g):FV w' gf n cf fs vs:=
 ⟨h.len,h.mU,h.cap,λi v hv=>(j.cell (a:=⟨gf,i,none⟩) h.lt h0).trans (h.cell i v hv),λi v f hv l=>by obtain⟨b,m,c,g,e,y,o,r,B⟩:=h.at_ i v f hv l;exact⟨b,m,c,g,e,y.kp j (h1 i v f b m c g hv l e y o r),aR o j.size,r,B⟩,aR h.lt j.size⟩
def FV.kept{w w':Z}{n:Nat}{fs:List (Aj)}{vs:List D}(h:FV w gf n cf fs vs)(a:An w w'):FV w' gf n cf fs vs:=h.kp a id λ_ _ _ _ _ _ _ _ _ _ _ _ _ e=>e
def FV.fin{w:Z}{n:Nat}{fs:List (Aj)}{vs:List D}(h:FV w gf n cf fs vs)(B:n<=1000000):pg w (ag gf n cf) fs (λb=>b<w.heap.size):=by refine⟨some ⟨gf,0,none⟩,cf,by rw[h.mU],by rw[h.mU];omega,λr=>⟨gf,0,rfl,h.lt,h.lt,λi f a=>?_⟩⟩;have j:=(ak.1 a).1;have hv:=aQ (l:=vs) (i:=i) (by rw[h.len,<- h.mU];exact j);obtain⟨b,m,c,g,e,y,o,_,C⟩:=h.at_ i _ f hv a;refine⟨b,m,c,g,?_,by rw[<- e];exact y,o,by omega⟩;rw[ao,h.cell i _ hv,e]
def FV.set{w:Z}{n:Nat}{fs:List (Aj)}{vs:List D}{b:Option Addr}{f:Aj}(h:FV w gf n cf fs vs)(hm:m<n)(hr:eS w (.slice b k c) f g)(hl:g<w.heap.size)(P:g≠gf)(hs:f.length<=1000000):FV (w.setCell ⟨gf,m,none⟩ (.slice b k c)) gf n cf (fs.set m f) (vs.set m (.slice b k c)):=by
 have Q:Kp (λb=>b=gf) w (w.setCell ⟨gf,m,none⟩ (.slice b k c)):=Kp.sc w _ _ rfl;have j:m<vs.length:=by rw[h.len];exact hm
 refine⟨by simpa using h.len,by simpa using h.mU,h.cap,λi v hv=>?_,λi v W hv l=>?_,by simpa [World.setCell]using h.lt⟩
 .rw[List.getElem?_set]at hv
  by_cases e:m=i
  .subst e;rw[if_pos rfl,if_pos j]at hv;cases hv;have a:=h.cell m _ (aQ j);simp only[World.cell?,World.setCell,aV]at a ⊢;cases hb:w.heap[gf]? with
   |none=>rw[hb]at a;cases a
   |some o=>
    rw[hb]at a;cases o with
    |cells cs t Y=>
     have C:m<cs.size:=by
      rcases Nat.lt_or_ge m cs.size with y|y
      .exact y
      .simp[Array.getElem?_eq_none y]at a
     simp[C]
    |_=>cases a
  .rw[if_neg e]at hv;have a:=h.cell i v hv;rw[<- a];simp only[World.cell?,World.setCell,aV];cases hb:w.heap[gf]? with
   |none=>rfl
   |some o=>
    cases o with
    |cells cs t Y=>simp[aS e]
    |_=>rfl
 .rw[List.getElem?_set]at hv l
  by_cases e:m=i
  .subst e;rw[if_pos rfl,if_pos j]at hv;rw[if_pos rfl,if_pos (by rw[h.mU];exact hm)]at l;cases hv;cases l;exact⟨b,k,c,g,rfl,hr.kp Q P,by simpa [World.setCell]using hl,P,hs⟩
  .rw[if_neg e]at hv l;obtain⟨R,m',S,g',U,M,B,r,N⟩:=h.at_ i v W hv l;exact⟨R,m',S,g',U,M.kp Q r,by simpa [World.setCell]using B,r,N⟩
def RJ:∀{ws:List W3} {k:Ac} {v:Ac × Bool},(∀x∈ws,pN x)->eJ ws k=some v->v.1.size<=20/\(v.2=true->v.1=eb):=by
 intro ws k v h e;unfold eJ at e;cases a:ws.find? (λx=>x.1=k)with
 |none=>simp_all
 |some x=>
  have hm:=List.mem_of_find?_eq_some a;have:=h x hm
  simp_all [pN]
def F7 {es:List (List W3)}(f:∀ws∈es,ik ws):∀{n:Nat} {k:Ac} {m:Int} {v:Ac × Bool},n<=es.length->nG es n k m=some v->v.1.size<=20/\(v.2=true->v.1=eb)
 |0,_,_,_,_,h=>by cases h
 |n+1,k,m,v,g,h=>by
  unfold nG at h;split at h
  .have a:n<es.length:=by omega
   have e:es.getD n []=es[n]:=by simp[List.getD,a]
   rw[e]at h;exact RJ (f es[n] (List.getElem_mem a)).2.2.2 h
  .exact F7 f (by omega) h
def AD {α:Type}{f:α->Nat}{b:Nat}:∀{l:List α},(∀x∈l,f x<=b)->(l.map f).sum<=l.length*b
 |[],_=>by simp
 |x::r,h=>by
  have g:=h x (by simp);have j:=AD (l:=r) λy a=>h y (aD _ a)
  simp only[List.map_cons,List.sum_cons,ai,Nat.add_mul,Nat.one_mul];omega
def DJ {α:Type}[DecidableEq α]:∀(l m:List α),l.Nodup->(∀x∈l,x∈m)->l.length<=m.length
 |[],_,_,_=>by simp
 |x::r,m,o,hm=>by
  have f:=hm x (by simp);obtain⟨h,j⟩:=List.nodup_cons.1 o;have:=DJ r (m.erase x) j λy g=>(List.mem_erase_of_ne (a:=y) (b:=x) (λe=>h (by rw[<- e];exact g))).2 (hm y (aD _ g))
  rw[List.length_erase_of_mem f]at this;have hp:0<m.length:=List.length_pos_of_mem f;simp only[ai];omega
section
variable {w w':Z}{p:Nat}{s:XS}{es:List (List W3)}
def CF (h:pj w p s es w'){ks:List Ac}(o:∀k∈ks,s.bU k≠[]):∀x∈dw s 0 ks,qp x:=λx y=>by
 obtain⟨k,g,l⟩:=List.mem_flatMap.1 y;obtain⟨m,hm,rfl⟩:=aK.1 l;have a:=List.mem_of_mem_drop hm;have r:=h.ok.bU k m a;have j:=h.ok.now;have hv:=(h.ok.cE k m).2 a;obtain⟨v,hv⟩:=Option.isSome_iff_exists.1 hv;have f:=hv;rw[h.dJ.cE]at f;have q:=F7 h.gY h.dJ.le f;refine⟨h.ok.key k (o k g),?_,?_,?_⟩
 .show m.toNat<_;omega
 .show((s.cE k m).getD (eb,false)).1.size<=20;rw[hv];exact q.1
 .show((s.cE k m).getD (eb,false)).2=true->((s.cE k m).getD (eb,false)).1=eb;rw[hv];exact q.2
def CG (h:pj w p s es w')(M:es.length<=300){ks:List Ac}(r:ks.Nodup)(o:∀k∈ks,s.bU k≠[]):(dw s 0 ks).length<=1800/\j4 (dw s 0 ks)<=63000:=by
 have D:ks.length<=6:=by
  have:=DJ ks qR r λk j=>h.Fu k (o k j)
  exact aX this (by decide)
 have g:(dw s 0 ks).length<=1800:=by
  have e:(dw s 0 ks).length=(ks.map λk=>(nY s 0 k).length).sum:=by simp[dw,List.length_flatMap]
  rw[e];have:=AD (f:=λk=>(nY s 0 k).length) (b:=300) (l:=ks) λk _=>by have B:=tp (a:=0) (b:=s.now) (h.ok.up k) (λm hm=>by have:=h.ok.bU k m hm;omega);have C:=h.dJ.now;show((List.drop _ (s.bU k)).map _).length<=300;rw[List.length_map,aG];omega
  omega
 refine⟨g,?_⟩;have:=AD (f:=cO.w) (b:=35) (l:=dw s 0 ks) λx y=>by have q:=CF h o x y;have:=jB _ q.key;have:=q.val;unfold cO.w;omega
 unfold j4;omega
end
def JM{g:Int->Option D}(h:∀n,g n=none)(x:D):encI g x=none:=by
 unfold encI;split
 .exact h _
 .rfl
def JH{w w1:Z}{p:Nat}{s:XS}{es:List (List W3)}{x y z:D}(hF:pj w p s es w1)(ht:ej w1)(W:es.length<=300) :
  Calls (cj prog) 23 #[ab p,Y 0,Y 5000,.agg #[x,y,z]] w1 λe w'=>∃v ks,e = .returned v/\ks.Pairwise blt/\(∀k,k∈ks↔s.bU k≠[])/\BA w1.heap.size w' v (cQ (eC 0 s.now.toNat s.cJ.toNat (dw s 0 ks).length++dp (dw s 0 ks)))/\
   w'.cell? ⟨p,3,none⟩=some s.log.lf/\JR w' s.log.lf (cG (bZ 1 es)) s.log.lv/\db w'/\An w w'/\ej w':=by
 obtain⟨own,⟨mo,ph,mv,mm,pt,mw,sl,g⟩,j⟩:=hF.st;have ad:s.bk.nb=0:=g.gV.ll.Ir jP [] List.nodup_nil λx=>⟨λh=>(by cases h),λh=>by rw[JM (λn=>by rw[hF.qV n];rfl)]at h;cases h⟩
 have l:s.log.lg=bZ 1 es:=by rw[hF.dJ.lg,List.take_length]
 refine(Oj (x:=x) (y:=y) (z:=z) g hF.ok ht j.li j.nC (by omega) λks a b=>?_).mono λe w' S=>?_
 .have:=CG hF W a b;omega
 .obtain⟨v,ks,rfl,hp,U,R,r,o,B⟩:=S;have nS:∀b,(own b).c=2->(own b).k≠0->(own b).k≠10->¬(b=p\/b=s.bk.mu):=λb _ M N e=>by
   rcases e with e|e
   .rw[e,g.dc]at M;exact M rfl
   .rw[e,g.gV.lH]at N;exact N rfl
  have C:∀b,(own b).c≠2->¬(b=p\/b=s.bk.mu):=λb h e=>by
   rcases e with e|e
   .rw[e,g.dc]at h;exact h rfl
   .rw[e,g.gV.lH]at h;exact h rfl
  refine⟨v,ks,rfl,hp,U,R,cK r rfl,⟨?_,λi u f Q P=>?_⟩,j.li.kp o (C 0 j.nC.1) (C 1 j.nC.2),hF.kp.trans o λb hb e=>C b (j.out b hb).2 e,B⟩
  .rw[<- l];exact dR g.log.nz o λb hb=>by have:=g.log.jD b hb;exact nS b (by rw[this]) (by rw[this];simp) (by rw[this];simp)
  .rw[<- l]at P;exact(g.log.my i u f Q P).kp o λb hb=>by have:=g.log.jT i u Q b hb;exact nS b (by rw[this]) (by rw[this];simp) (by rw[this];simp)
def Ll{P:Ad}{F:Array Func}(x:_):(imag P F).follows x=P.follows x:=rfl
def DD:(cj prog).follows .mixedOrders=true:=(Ll (P:=prog) (F:=dH prog) _).trans oF
def qy{base n:Nat}{w:Z}{bs:Aj}(h:BR base w (ag g n c) bs)(l:0<bs.length):eS w (ag g n c) bs g/\g<w.heap.size:=by obtain⟨r,a,y⟩:=h.OS;obtain⟨p,cap,e,B,f⟩:=id a;obtain⟨j,o,e2,_⟩:=f (List.length_pos_iff.1 l);cases e;cases e2;exact⟨a,j⟩
def EV{v:D}{bs:Aj}{w:Z}{t:Int}(f:w.heap[gd]?=some (.cells #[v] 48 (0,0)))(h:eS w v bs g)(l:db w)(y:bs.length<=100000)(a:∀c es s',¬OkW bs c es s') :
  Calls prog 24 #[ag gd 1 1,ae,Y t] w λe w'=>∃x,e = .returned x/\x = .tuple #[.pointer none,Y 9]/\An w w':=
 (ET (t:=t) f h l y λc es s' o=>bx o (a c es s')).mono λe w' j=>by
  obtain⟨j,r⟩:=j;rcases j with⟨_,rfl⟩|⟨c,es,s',_,_,_,_,_,_,_,o,_⟩
  .exact⟨_,rfl,rfl,r⟩
  .exact bx o (a c es s')
def Pf{v:D}{bs c:Aj}{es:List cO}{s':RS}{w:Z}{t:Int}(a:w.heap[gd]?=some (.cells #[v] 48 (0,0)))(h:eS w v bs g)(B:db w)(M:bs.length<=100000)(r:OkW bs c es s')(hm:xJ c es t) :
  Calls prog 24 #[ag gd 1 1,ae,Y t] w λe w'=>∃x,e = .returned x/\∃l,x = .tuple #[ab l,Y 0]/\An w w':=
 (ET (t:=t) a h B M λN y P o=>by obtain⟨e1,e2⟩:=r.one o;rw[<- e1,<- e2];exact hm).mono λe w' f=>by
  obtain⟨f,C⟩:=f;rcases f with⟨j,_⟩|⟨c,es,s',l,_,_,_,_,_,_,_,rfl,_⟩
  .exact bx r (j _ _ _)
  .exact⟨_,rfl,l,rfl,C⟩
def ry{c n:Int}{w:Z}(f:dY c)(a:0<n/\n<=1000000):Calls prog 13 #[Y c,Y n] w λe w'=>∃x,e = .returned x/\∃k:Nat,x = Y (k:Int)/\(k:Int)<n/\w'=w:=
 rq c n w f a (by have:=tM c a.1;exact⟨_,rfl,(pk c n).toNat,by rw[Int.toNat_of_nonneg this.1],by omega,rfl⟩)
section
variable {P:Ad}{ρ:Ae->D}{o:Oper}{x y z:Ae}{w:Z}
def ya{ρ:Ae->D}{o:Oper}{x:Ae}{w:Z}{p:Option Addr}{n:Nat}(a:o.op = .buildSlice 37 1 #[(0,x)])(g:ρ x = .slice p n c):(execOp ρ o).run prog w = .ok (.value (ag w.heap.size 1 1)) (w.alloc (.cells #[.slice p n c] 48)):=by
 have f:Array.range 1=#[0]:=by decide
 simp[execOp,a,g,Instr.buildSlice,zeroValue48,bK underlying37,sizeOf48,Instr.fill,Value.cells,f,newRow]
def Ej{t e:Af}{p:Option Addr}{n:Nat}(l:P.underlying t=some (.slice e))(f:∀w,(sizeOf e).run P w = .ok sz w)(a:o.op = .slice t x none (some z) none)(r:ρ x = .slice p n c)(y:ρ z = Y i)(j:i<=n)(g:n<=c)(h0:0<c):(execOp ρ o).run P w = .ok (.value (.slice p i c)) w:=by
 obtain⟨B,hp,h⟩:=NP (w:=w) l f a r y j g;rcases hp with rfl|e
 .exact h
 .omega
def NK{t u:Af}{i j:Int}(a:o.op = .binOp .mul t x y u)(f:ρ x = Y i)(g:ρ y = Y j)(h0:-9223372036854775808<=i*j)(h1:i*j<=9223372036854775807):(execOp ρ o).run P w = .ok (.value (Y (i*j))) w:=by simp[execOp,a,f,g,binOp,eqGuard,Op.intArith];rw[IntKind.wrap_i64];omega
def wD{n:Nat}(g:P.underlying 3=some (.int .i64))(f:P.underlying 5=some (.int .u8))(a:o.op = .convert 3 5 x)(h:ρ x = Y (1+(n:Int))):(execOp ρ o).run P w = .ok (.value (b8 (u8 (n+1)))) w:=by
 have:=lI (w:=w) (n:=1+(n:Int)) g f a h;rw[this];unfold b8;rw[lj]
 congr 3
 rw[IntKind.wrap_u8];omega
end
def xA{a:UInt8}{n:Nat}(g:n<255):a≠a ^^^ u8 (n+1):=λe=>by have h:=congrArg (λx=>a ^^^ x) e;simp only[<- UInt8.xor_assoc,UInt8.xor_self,UInt8.zero_xor]at h;have f:=congrArg UInt8.toNat h;rw[lj]at f;simp at f;omega
def Fp{l:Aj}(a:k<l.length)(y:UInt8):∃p q,l=p++l[k]::q/\l.set k y=p++y::q/\p.length=k:=by
 refine⟨l.take k,l.drop (k+1),?_,?_,by rw[aw];omega⟩
 .rw[List.getElem_cons_drop a,List.take_append_drop]
 .rw[List.set_eq_take_append_cons_drop,if_pos a]
def PI{l:Aj}(h:k<11)(j:11<=l.length)(y:UInt8):∃p q r,l=p++l.getD k 0::q++r/\l.set k y=p++y::q++r/\p.length+1+q.length=11:=by
 obtain⟨p,q,e1,e2,hp⟩:=Fp (l:=l) (k:=k) (by omega) y;have g:l.length=p.length+1+q.length:=by have:=congrArg List.length e1;simp at this;omega
 have a:l.getD k 0=l[k]'(by omega):=by
  have f:k<l.length:=by omega
  simp[List.getD,f]
 have e3:q=q.take (10-k)++q.drop (10-k):=(List.take_append_drop _ _).symm;refine⟨p,q.take (10-k),q.drop (10-k),?_,?_,by rw[aw];omega⟩
 .rw[a];simp only[bn,List.cons_append,<- e3];exact e1
 .simp only[bn,List.cons_append,<- e3];exact e2
def Lv:(prog.info? 48).map (λi=>(i.zero,i.size,i.bytes))=some (some (ae),1,24):=by kernel_rfl
def Bj{w:Z}{base:Nat}{v:D}{vs:List D}(y:Af)(h:w.ownsRow base 48 1 v vs.length vs)(g o c:Nat)(a:List D)(M:∀j u,a[j]?=some u->w.cell? ⟨g,o+j,none⟩=some u)(h1:∀u∈a,u.oneCell'=true)(U:vs.length+a.length<=1000000)(hb:base<=w.heap.size) :
  ∃v' w',(Builtin.append_ #[37,37] y #[v,.slice (some ⟨g,o,none⟩) a.length c]).run prog w = .ok v' w'/\w'.ownsRow base 48 1 v' (vs++a).length (vs++a)/\Kp (λb=>v.ownBlock=some b) w w':=by
 obtain⟨S,N,f,l,r⟩:=info_parts Lv;obtain⟨v',w',Q,B,C,_⟩:=run_append_own_at (P:=prog) w base 37 y 48 S _ 1 24 underlying37 N f l r rfl (by decide) v vs.length vs h ⟨g,o,none⟩ a.length c a (by simp) (λj u R=>by rw[addr_add];exact M j u R) h1 (by unfold maxLen;omega) (by omega) hb;exact⟨v',w',Q,by rw[aj];exact B,Kp.jh C λ_ e=>e⟩
def NA{P:Ad}{ρ:Ae->D}{o:Oper}{x z:Ae}{w:Z}{t e:Af}{off n:Nat}(l:P.underlying t=some (.slice e))(f:∀w,(sizeOf e).run P w = .ok sz w)(a:o.op = .slice t x (some z) none none)(r:ρ x = .slice (some ⟨g,off,none⟩) n c)(y:ρ z = Y i)(j:i<=n)(B:i<c):(execOp ρ o).run P w = .ok (.value (.slice (some ⟨g,off+i*sz,none⟩) (n-i) (c-i))) w:=by have h:=Ea (w:=w) l f a r y j;rw[if_neg (by omega)]at h;rw[h];simp[addr_add]
def Ce(l:List α)(k i:Nat):(l.take k++l.drop (k+1))[i]?=if i<k then l[i]? else l[i+1]?:=by rw[<- List.eraseIdx_eq_take_drop_succ,List.getElem?_eraseIdx]
def FV.Kk{w w':Z}{n gz base:Nat}{fs:List (Aj)}{vs:List D}(h:FV w gf n cf fs vs)(M:An w w')(P:k<n)(a:w'.ownsRow base 48 1 (ag gz m gd) (vs.take k++vs.drop (k+1)).length (vs.take k++vs.drop (k+1)))(hb:w.heap.size<=base):FV w' gz m gd (fs.take k++fs.drop (k+1)) (vs.take k++vs.drop (k+1)):=by
 have hm:m=(vs.take k++vs.drop (k+1)).length:=by
  obtain⟨p,c,e⟩:=eM a;cases e
  rfl
 have r:=a.lt gz rfl;refine⟨hm.symm,?_,?_,λi v hv=>?_,λi v f hv l=>?_,r.2⟩
 .rw[hm];have o:=h.len;have B:=h.mU;simp only[aj,aw,aG];omega
 .rcases a.2 with⟨e,_⟩|⟨W,y,N,e,_,_,o,_⟩
  .cases e
  .cases e;exact o
 .rw[hm]at a;exact ng a i v hv
 .rw[Ce]at hv l;have key:∀j,vs[j]?=some v->fs[j]?=some f->∃b m c g,v = .slice b m c/\eS w' v f g/\g<w'.heap.size/\g≠gz/\f.length<=1000000:=λj o B=>by obtain⟨b,U,c,g,e,R,Q,_,S⟩:=h.at_ j v f o B;exact⟨b,U,c,g,e,R.kp M id,aR Q M.size,by omega,S⟩
  by_cases C:i<k
  .rw[if_pos C]at hv l;exact key i hv l
  .rw[if_neg C]at hv l;exact key (i+1) hv l
def FV.one{w:Z}{n:Nat}{fs:List (Aj)}{vs:List D}(h:FV w gf n cf fs vs):∀u∈vs,u.oneCell'=true:=λu o=>by
 obtain⟨i,f⟩:=List.getElem?_of_mem o;have a:=(ak.1 f).1;have j:=aQ (l:=fs) (i:=i) (by rw[h.mU,<- h.len];exact a);obtain⟨b,m,c,g,e,_⟩:=h.at_ i u _ f j;rw[e]
 rfl
def Fl{l:List α}{x y:α}(h:l[k]?=some x):(l.set k y).set k x=l:=by rw[List.set_set];obtain⟨f,a⟩:=ak.1 h;rw[<- a,List.set_getElem_self]
end Go.Proofs.YthbdpfccfcceiaaGreatDoor
