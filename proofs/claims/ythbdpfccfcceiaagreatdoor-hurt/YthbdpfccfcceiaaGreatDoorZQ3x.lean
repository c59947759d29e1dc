/-
  Of hurt_card.
-/
import Derived.Test.YthbdpfccfcceiaaGreatDoorZO6x
set_option linter.all false
namespace Go.Proofs.YthbdpfccfcceiaaGreatDoor
open Go.Conc Go.Lib Go.RowKit Go.Maps
open Go.Proofs.Tryz
variable {g k l n q:Nat}{y1 y2 y3 y4:Int}{fn:Func}{t:Tmp}
def cR{P:Ad}{ρ:Ae->D}{o:Oper}{x:Ae}{w:Z}{s:Af}{i g k n:Nat}{fs:Array Field}{f:Field}(l:P.underlying s=some (.struct fs))(h:fs[i]?=some f)(y:∀w,(sizeOf f.type).run P w = .ok n w)(j:n≠0)(a:o.op = .fieldAddr s x i)(r:ρ x = .pointer (some ⟨g,k,none⟩)):(execOp ρ o).run P w = .ok (.value (.pointer (some ⟨g,k+f.offset,none⟩))) w:=by simp[execOp,a,r,Instr.fieldAt,bK l,h,Instr.sureAddr,fieldPlace,y,j,addr_add]
def mc (x:cO):List D:=[.string x.key,Y x.bU,.string x.val,.bool x.del]
def eX (base:Nat)(w:Z)(v:D)(es:List cO):Prop:=w.ownsRow base 171 4 v es.length (es.flatMap mc)
def Cc:∀(es:List cO) (j:Nat) (x:cO),es[j]?=some x->∀i,i<4->(es.flatMap mc)[4*j+i]?=some (x.cell i)
 |[],_,_,h,_,_=>by simp at h
 |y::r,0,x,h,i,a=>by
  simp at h;subst h;rw[List.flatMap_cons,az (by simp[mc];omega)]
  match i,a with
  |0,_=>rfl
  |1,_=>rfl
  |2,_=>rfl
  |3,_=>rfl
 |y::r,j+1,x,h,i,a=>by
  have f:r[j]?=some x:=by simpa using h
  rw[List.flatMap_cons,List.getElem?_append_right (by simp[mc];omega)];have:=Cc r j x f i a;rw[show 4*(j+1)+i-(mc y).length=4*j+i by simp[mc];omega];exact this
def eX.rd {base:Nat}{w:Z}{v:D}{es:List cO}(h:eX base w v es):∃g,(es≠[]->v.ownBlock=some g)/\fP w v es g:=by
 rcases h.2 with⟨rfl,l⟩|⟨g,cap,f,rfl,_⟩
 .have:es=[]:=aA l;subst this;exact⟨0,λe=>bx rfl e,none,0,rfl,λe=>bx rfl e⟩
 .refine⟨g,λ_=>rfl,_,cap,rfl,λ_=>⟨0,rfl,λj x r i o=>?_⟩⟩;have a:=World.ownsRow.cells h (g:=g) rfl _ _ (Cc es j x r i o);rw[addr_add]at a;rw[ao]at a ⊢;exact a
def eX.lt {base:Nat}{w:Z}{v:D}{es:List cO}(h:eX base w v es):∀b,v.ownBlock=some b->base<=b/\b<w.heap.size:=World.ownsRow.lt h
def eX.kp {S:Nat->Prop}{base:Nat}{w w':Z}{v:D}{es:List cO}(h:eX base w v es)(a:Kp S w w')(f:∀b,v.ownBlock=some b->¬S b):eX base w' v es:=dR h a f
def Ls:(prog.info? 171).map (λi=>(i.zero,i.size,i.bytes))=some (some (.agg #[.string ⟨#[]⟩,Y 0,.string ⟨#[]⟩,.bool false]),4,48):=by kernel_rfl
def Bi {base:Nat}{w:Z}{v:D}{es:List cO}{x:cO}(o:Af)(h:eX base w v es)(g:Nat)(B:w.heap[g]?=some (.cells #[.string x.key,Y x.bU,.string x.val,.bool x.del] 171))(R:es.length<=1000000)(hb:base<=w.heap.size) :
  ∃v' w',(Builtin.append_ #[159,159] o #[v,ag g 1 1]).run prog w = .ok v' w'/\eX base w' v' (es++[x])/\Kp (λb=>v.ownBlock=some b) w w':=by
 obtain⟨Q,C,a,f,l⟩:=info_parts Ls;obtain⟨v',w',M,r,y,_⟩:=run_append_own_at (P:=prog) w base 159 o 171 Q _ 4 48 underlying159 C a f l rfl (by decide) v es.length (es.flatMap mc) h ⟨g,0,none⟩ 1 1 (mc x) rfl (λj u N=>by rw[addr_add,ao];refine cK B ?_;simpa [mc]using N) (by simp[mc,Value.oneCell']) (by unfold maxLen;omega) (by omega) hb
 refine⟨v',w',M,?_,Kp.jh y λ_ e=>e⟩;unfold eX;rw[aj,List.flatMap_append];simpa using r
def pD (s:XS)(k:Ac)(m:Int):cO:=⟨k,m.toNat,((s.cE k m).getD (eb,false)).1,((s.cE k m).getD (eb,false)).2⟩
def nY (s:XS)(t:Int)(k:Ac):List cO:=((s.bU k).drop ((s.bU k).countP λm=>decide (m<=t))).map (pD s k)
def dw (s:XS)(t:Int)(ks:List Ac):List cO:=ks.flatMap (nY s t)
section
variable {own:Nat->da}{c:Nat}{w:Z}{p:Nat}{s:XS}{mo ph mv mm:Nat}{pt mw:Int->Nat}{sl:Ac->D}
def GF (w:Z):(zeroValue 138).run prog w = .ok (.agg #[.string ByteArray.empty,.bool false]) w:=zeroValue138 w
def G1 (h:XR own c w p s mo ph mv mm pt mw sl)(ok:dj s)(t:Int)(cu:∀ks:List Ac,ks.Nodup->(∀k∈ks,s.bU k≠[])->(dw s t ks).length<=1000000) :
  Calls prog 84 #[ab ph,Y t] w λx w'=>∃v ks,x = .returned v/\ks.Pairwise blt/\(∀k,k∈ks↔s.bU k≠[])/\eX w.heap.size w' v (dw s t ks)/\An w w':=by
 have fk:s.nm<=30000:=by have:=ok.nm;have:=ok.now;omega
 refine cW func84 rfl ntmps84 λa0 s0=>?_;refine bO (bF (du s0 rfl rfl (by decide) (di (v:=ae) rfl rfl) λa1 s1=>bG ?_));refine bO (bF (du s1 rfl rfl (by decide) (di (v:=ae) rfl rfl) λa2 s2=>bG ?_));refine bO (bO (bF ?_));refine wS s2 (cL rfl s2.e) λs3=>?_;refine wS s3 (fc (p:=⟨ph,0,none⟩) rfl s3.e) λs4=>?_;refine wS s4 (cR (i:=1) (g:=ph) (k:=0) underlying209 rfl sizeOf207 (by decide) rfl s4.e) λs5=>?_;refine wS s5 (cU (v:=.map (some mm)) rfl isAgg207 s5.e (cK h.dJ rfl)) λs6=>?_;refine wC s6 rfl func137 (vs:=#[.map (some mm)]) (by simp[s6.eval];rfl) ((LR mm w).mono λx w1 hh=>?_);obtain⟨rfl,rfl⟩:=hh;refine⟨_,rfl,λa7 s7=>?_⟩;refine wC s7 rfl func126 (by simp[s7.eval];rfl) ((P6 mm s.nm _ w h.e9 fk).mono λx w2 hh=>?_);obtain⟨kv,ks,rfl,cr,cl,ge,bb,fa⟩:=hh;refine⟨_,rfl,λa8 s8=>?_⟩;obtain⟨pk,f9,fb⟩:=eM bb;refine wS s8 (fK underlying142 rfl (s8.e.trans fb)) λs9=>?_;refine wS s9 (cL (v:=Y 0) rfl rfl) λfz=>bG ?_;have bf:∀k,k∈ks↔s.bU k≠[]:=λk=>by
  rw[cl k,iv]
  by_cases hm:s.bU k=[]<;>simp[hm]
 have fj:ks.Nodup:=cr.imp λ{a b} eQ e=>by subst e;exact List.lt_irrefl _ eQ
 let I:Nat->(Nat->D)->Z->Prop:=λi e w'=>e 0 = ab ph/\e 1 = Y t/\e 17=kv/\eX w.heap.size w' (e 5) (dw s t (ks.take i))/\An w w'/\w'.ownsRow w.heap.size 9 1 kv ks.length (ks.map Value.string)
 refine xp (n:=ks.length) (si:=19) (sn:=18) (c:=20) (d:=55) I rfl rfl rfl rfl rfl rfl rfl rfl rfl (by decide) (by decide) (by omega) (λ_ _ _ _ h=>h) (λ_ _ _ _ _ h=>h) fz rfl rfl ⟨rfl,rfl,rfl,World.ownsRow_nil _ _ _ _,fa,bb⟩ ?_ ?_
 .rintro i b7 r w3 K hi B ⟨i0,i1,bm,iE,iK,iR⟩ cc ev next
  obtain⟨gk,ck,gb,a9,_⟩:=iz iR (by omega);have hk:=aQ hi;generalize gt:ks[i]=k at hk;have e8:k∈ks:=aI hk;have M:s.bU k≠[]:=(bf k).1 e8;have gs:=ok.keysM k M;have be:w3.cell? ⟨gk,i,none⟩=some (.string k):=by rw[a9]at iR;exact ng iR i _ (by rw[bt,hk];rfl)
  refine sR ?_;refine wS B (kY (i:=i) underlying142 sizeOf9 rfl (B.e.trans (bm.trans a9)) (B.e.trans cc) hi) λan=>?_;refine du an rfl rfl (by decide) (cU (v:=.string k) rfl isAgg9 an.e (by rw[show 0+1*i=i by omega];exact be)) λek N=>?_;refine wS N (di (v:=.string k) rfl N.e) λcw=>bG ?_;have ey:w3.heap[ph]?=some (.cells #[.map (some mv),.map (some mm)] 209 (0,0)):=(iK.block ph (bX h.dJ) id).trans h.dJ;have eD:=iK.cH h.e9 id;have cg:=WideMaps.keyOf_string_mk underlying9 (show k.size<=maxLen by unfold maxLen;omega);refine sR ?_;refine wS cw (cL rfl (cw.e.trans i0)) λcz=>?_;refine wS cz (fc (p:=⟨ph,0,none⟩) rfl cz.e) λcA=>?_;refine wS cA (cR (i:=1) (g:=ph) (k:=0) underlying209 rfl sizeOf207 (by decide) rfl cA.e) λcT=>?_;refine wS cT (cU (v:=.map (some mm)) rfl isAgg207 cT.e (cK ey rfl)) λc3=>?_;refine wS c3 (cL (v:=.string k) rfl c3.e) λbA=>?_;refine wS bA (Ee (key:=.string k) (v:=sl k) rfl bA.e bA.e eD gS underlying207 (qk w3) cg (by rw[iv,if_neg M])) λc7=>?_;refine wS c7 (di (v:=sl k) rfl c7.e) λdd=>bG ?_;have U:=h.row k M;obtain⟨C,cm,gc,W,e6,_⟩:=iz U (List.length_pos_iff.2 M);have gv:=ok.len k;have gd:(s.bU k).length<=cm:=by
   rcases U.2 with⟨e,h0⟩|⟨g',f8,ga,e,_,_,fd,_⟩
   .exact bx (aA h0) M
   .rw[W]at e;cases e;exact fd
  have cf:C<w.heap.size:=(aO.1 e6).1;have ci:∀{w':Z},An w w'->∀j m,(s.bU k)[j]?=some m->w'.cell? ⟨C,j,none⟩=some (Y m):=λkp j m hm=>by rw[W]at U;have:=ng U j (Y m) (by rw[bt,hm];rfl);exact(kp.cell (a:=⟨C,j,none⟩) cf id).trans this
  generalize S:(s.bU k).countP (λm=>decide (m<=t))=f;have eW:f<=(s.bU k).length:=by rw[<- S];exact List.countP_le_length
  refine sR ?_;refine wS dd (cL (v:=sl k) rfl dd.e) λde=>?_;refine wS de (cL (v:=sl k) rfl de.e) λdk=>?_;refine wS dk (cL (v:=Y t) rfl (dk.e.trans i1)) λdl=>?_;refine wC dl rfl func134 (vs:=#[ag C (s.bU k).length cm,Y t]) (by simp[dl.eval];exact⟨W,rfl⟩) (AQ C cm (s.bU k) t w3 f (by omega) (λj hj=>by rw[ci iK j _ (aQ hj)];simp[List.getD,aQ hj]) (ok.up k) S λq=>⟨_,rfl,λgj bB=>?_⟩)
  have hq:An w3 (w3.drewN q):=Kp.drewN _ _ _;generalize w3.drewN q=w4 at hq ⊢;refine wS bB (Ea (i:=f) underlying26 sizeOf3 rfl (bB.e.trans W) bB.e eW) λds=>?_;refine wS ds (fK underlying26 rfl ds.e) λf0=>?_;refine wS f0 (cL (v:=Y 0) rfl rfl) λf5=>bG ?_;have e5:((s.bU k).drop f).length=(s.bU k).length-f:=aG
  let I2:Nat->(Nat->D)->Z->Prop:=λj e w'=>e 0 = ab ph/\e 1 = Y t/\e 17=kv/\e 7 = .string k/\e 18 = Y ks.length/\e 19 = Y i/\e 33 = .slice (if cm=f then some ⟨C,0,none⟩else(some ⟨C,0,none⟩:Option Addr).map (·.add (f*1))) ((s.bU k).length-f) (cm-f)/\
   eX w.heap.size w' (e 5) (dw s t (ks.take i)++(((s.bU k).drop f).take j).map (pD s k))/\An w w'/\w'.ownsRow w.heap.size 9 1 kv ks.length (ks.map Value.string)
  refine xp (n:=(s.bU k).length-f) (si:=35) (sn:=34) (c:=36) (d:=54) I2 rfl rfl rfl rfl rfl rfl rfl rfl rfl (by decide) (by decide) (by omega) (λ_ _ _ _ h=>h) (λ_ _ _ _ _ h=>h) f5 rfl rfl ⟨i0,i1,bm,rfl,ev,cc,rfl,?_,iK.t hq,dR iR hq λ_ _ e=>e⟩ ?_ ?_
  .have:=iE.kp hq λ_ _ e=>e
   rw[List.take_zero,List.map_nil,bo];exact this
  .rintro j gq er R K2 hj bS ⟨j0,j1,bp,j7,bq,bv,ad,jE,jK,jR⟩ cd ew bw;have cq:¬cm=f:=by omega
   rw[if_neg cq,show(some ⟨C,0,none⟩:Option Addr).map (·.add (f*1))=some ⟨C,f,none⟩ by simp[addr_add]]at ad;have e7:f+j<(s.bU k).length:=by omega
   have hm:=aQ e7;generalize (s.bU k)[f+j]=m at hm;have co:m∈s.bU k:=aI hm;have gu:=ok.bU k m co;have gf:=ok.now;obtain⟨⟨val,l⟩,hv⟩:=Option.isSome_iff_exists.1 ((ok.cE k m).2 co);have ez:R.heap[ph]?=some (.cells #[.map (some mv),.map (some mm)] 209 (0,0)):=(jK.block ph (bX h.dJ) id).trans h.dJ;have eP:=jK.cH h.gn id;obtain⟨kl,ch⟩:=yY k m (by unfold maxLen;omega) (rL (by omega));refine sR ?_;refine du bS rfl rfl (by decide) (kY (i:=j) underlying26 sizeOf3 rfl (bS.e.trans ad) (bS.e.trans cd) hj) λca a3=>?_;refine wS a3 (cU (v:=Y m) rfl isAgg3 a3.e (by rw[Nat.one_mul];exact ci jK _ _ hm)) λd1=>?_;refine wS d1 (di (v:=Y m) rfl d1.e) λd2=>bG ?_;refine sR ?_;refine wS d2 (cL rfl (d2.e.trans j0)) λd3=>?_;refine wS d3 (fc (p:=⟨ph,0,none⟩) rfl d3.e) λd4=>?_;refine wS d4 (cR (i:=0) (g:=ph) (k:=0) underlying209 rfl sizeOf206 (by decide) rfl d4.e) λd5=>?_;refine wS d5 (cU (v:=.map (some mv)) rfl isAgg206 d5.e (cK ez rfl)) λd6=>?_;refine wS d6 (cL (v:=.string k) rfl (d6.e.trans j7)) λd7=>?_;refine wS d7 (cL (v:=Y m) rfl d7.e) λb3=>?_;refine wS b3 (Hu (k:=k) (m:=m) rfl b3.e b3.e) λb5=>?_;refine du b5 rfl rfl (by decide) (Ee (key:=.agg #[.string k,Y m]) (v:=.agg #[.string val,.bool l]) rfl b5.e b5.e eP yX underlying206 (GF R) ch (by
    show(s.cE k m).map fg=_;rw[hv]
    rfl)) λgr f6=>?_
   refine du f6 rfl rfl (by decide) (iC GF rfl) λel Q=>?_;have ba:(R.alloc (.cells (Value.agg #[.string ByteArray.empty,.bool false]).cells 138)).heap[R.heap.size]?=some (.cells #[.string ByteArray.empty,.bool false] 138):=bI R _;have ka:An R (R.alloc (.cells (Value.agg #[.string ByteArray.empty,.bool false]).cells 138)):=Kp.al _ _ _;generalize R.alloc (.cells (Value.agg #[.string ByteArray.empty,.bool false]).cells 138)=w6 at ba ka Q ⊢;obtain⟨w7,fp,ce,fs⟩ := NN (P := prog) (ρ := el.eval) (o := ⟨none,.store 138 (.tmp 11) (.tmp 46),0, "",#[],none⟩) (a := .string val) (b := .bool l) sizeOf138 rfl Q.e Q.e ba rfl rfl
   refine jL rfl rfl fp (bG ?_);have fq:An R w7:=ka.trans fs λb hb (e:b=R.heap.size)=>by omega
   refine bF ?_;refine wS Q (cL rfl Q.e) λd8=>?_;refine wS d8 (cL (v:=.string k) rfl (d8.e.trans j7)) λd9=>?_;refine wS d9 (cL (v:=Y m) rfl d9.e) λec=>?_;refine wS ec (NE (a:=.string val) (b:=.bool l) isAgg138 sizeOf138 rfl ec.e (cK ce rfl) (cK ce rfl)) λa4=>?_;refine wS a4 (Hr (k:=k) (m:=m) (t:=val) (d:=l) rfl a4.e a4.e a4.e) λeg=>?_;refine du eg rfl rfl (by decide) (uX rfl eg.e) λcb b6=>?_;have hx:pD s k m=⟨k,m.toNat,val,l⟩:=by simp[pD,hv]
   have fv:An w7 (w7.alloc (.cells #[.string k,Y m,.string val,.bool l] 171)):=Kp.al _ _ _;have eV:=bI w7 (.cells #[.string k,Y m,.string val,.bool l] 171);have am:=fq.t fv;have bl:(dw s t (ks.take i)++(((s.bU k).drop f).take j).map (pD s k)).length<=1000000:=by
    refine aX ?_ (cu (ks.take (i+1)) (fj.sublist (List.take_sublist _ _)) λk hk=>(bf k).1 (List.mem_of_mem_take hk));rw[List.take_add_one,show ks[i]?=some k from hk,dw,dw,List.flatMap_append,aj,aj];have:(((s.bU k).drop f).take j).length<=((s.bU k).drop f).length:=by simp;omega
    simp only[Option.toList_some,List.flatMap_cons,List.flatMap_nil,bo,nY,S,List.length_map];omega
   obtain⟨v9,w9,fm,ex,cv⟩:=Bi (x:=pD s k m) 159 (jE.kp am λ_ _ e=>e) w7.heap.size (by rw[hx,show(((m.toNat:Nat)):Int)=m by omega];exact eV) bl (aX jK.size am.size)
   refine wS b6 (y:=v9) (w1:=w9) ?_ λeh=>?_
   .have et:cb.eval (.tmp 47)=er 5:=b6.eval (by decide);have eu:cb.eval (.tmp 52) = ag w7.heap.size 1 1:=b6.eval (by decide);simp[execOp,resolve,invoke,builtin,et,eu,fm]
   refine du eh rfl rfl (by decide) (di (v:=v9) rfl eh.e) λeo f7=>bG ?_;refine bw eo _ w9 f7 ⟨j0,j1,bp,j7,bq,bv,by rw[if_neg cq,show(some ⟨C,0,none⟩:Option Addr).map (·.add (f*1))=some ⟨C,f,none⟩ by simp[addr_add]];exact ad,?_,?_,?_⟩ cd ew
   .have e:((s.bU k).drop f).take (j+1)=((s.bU k).drop f).take j++[m]:=by
     rw[List.take_add_one,List.getElem?_drop,hm]
     rfl
    rw[e,bj,<- bn];exact ex
   .exact(jK.t am).trans cv λb hb e=>by have:=(jE.lt b e).1;omega
   .refine dR (dR jR am λ_ _ e=>e) cv λb eb h9=>?_;obtain⟨c1,h1⟩:=nc jR (b:=b) eb;obtain⟨c2,h2⟩:=nc jE (b:=b) h9;exact j5 h1 h2 (by decide) rfl
  .rintro ca es w6 a3 ⟨j0,j1,bp,j7,bq,bv,ad,jE,jK,jR⟩;refine next ca es w6 a3 ⟨j0,j1,bp,?_,jK,jR⟩ bv bq
   have e:dw s t (ks.take (i+1))=dw s t (ks.take i)++nY s t k:=by rw[List.take_add_one,show ks[i]?=some k from hk,dw,List.flatMap_append];simp[dw]
   rw[e];have e2:nY s t k=(((s.bU k).drop f).take ((s.bU k).length-f)).map (pD s k):=by unfold nY;rw[S,aN (by rw[e5];exact aW _)]
   rw[e2];exact jE
 .rintro b7 r w3 B ⟨i0,i1,bm,iE,iK,iR⟩;rw[List.take_length]at iE;refine sR ?_;refine iI rfl (cL (v:=r 5) rfl B.e) ?_;have an:bY 56 (b7.put (some 56) (r 5)) _:=B.bit (r 5);refine du an rfl rfl (by decide) (di (v:=r 5) rfl (B.last (r 5))) λek N=>bG ?_;refine wp_ret ⟨N.d,r 5,?_,r 5,ks,rfl,cr,bf,iE,iK⟩;rw[fo rfl];exact congrArg (λx=>Result.ok x w3) (N.v 4 (by decide))
end
section
variable {P:Ad}{ρ:Ae->D}{o:Oper}{x y:Ae}{w:Z}
def lI{s d:Af}{k k' j:IntKind}{n:Int}(g:P.underlying s=some (.int k))(f:P.underlying d=some (.int k'))(a:o.op = .convert s d x)(h:ρ x = .int j n):(execOp ρ o).run P w = .ok (.value (.int k' (k'.wrap n))) w:=by simp[execOp,a,h,convert,bK g,bK f,Conv.intToInt]
def zG{t u:Af}{m:Nat}(a:o.op = .binOp .shr t x (.const (.int .u64 m)) u)(f:∀x,ρ (.const x)=x)(h:ρ x = .int .u32 n)(hm:m<=32):(execOp ρ o).run P w = .ok (.value (.int .u32 ((n / 2 ^ m:Nat):Int))) w:=by
 have g:¬((m:Int)<0):=by omega
 have hb:min m IntKind.u32.bits=m:=Nat.min_eq_left hm;simp[execOp,a,h,f,binOp,eqGuard,Op.shift,g,hb]
def jl {t:Af}{v:D}(a:o.op = .box t x)(f:ρ x=v):(execOp ρ o).run P w = .ok (.value (ab w.heap.size)) (w.alloc (.cells v.cells t)):=by simp[execOp,a,f,Instr.box,newVar,newRow]
end
def Ig{ρ:Ae->D}{o:Oper}{w:Z}{x1 f g x4:Ae}(a:o.op = .buildSlice 48 4 #[(0,x1),(1,f),(2,g),(3,x4)])(h1:ρ x1 = .int .u8 y1)(h:ρ f = .int .u8 y2)(j:ρ g = .int .u8 y3)(l:ρ x4 = .int .u8 y4):(execOp ρ o).run prog w = .ok (.value (ag w.heap.size 4 4)) (w.alloc (.cells #[.int .u8 y1,.int .u8 y2,.int .u8 y3,.int .u8 y4] 5)):=by
 have r:Array.range 4=#[0,1,2,3]:=by decide
 simp[execOp,a,h1,h,j,l,Instr.buildSlice,zeroValue5,bK underlying48,sizeOf5,Instr.fill,Value.cells,r,newRow]
def Ie{ρ:Ae->D}{o:Oper}{w:Z}{x1 f g x4:Ae}(a:o.op = .buildSlice 26 4 #[(0,x1),(1,f),(2,g),(3,x4)])(h1:ρ x1 = Y y1)(h:ρ f = Y y2)(j:ρ g = Y y3)(l:ρ x4 = Y y4):(execOp ρ o).run prog w = .ok (.value (ag w.heap.size 4 4)) (w.alloc (.cells #[Y y1,Y y2,Y y3,Y y4] 3)):=by
 have r:Array.range 4=#[0,1,2,3]:=by decide
 simp[execOp,a,h1,h,j,l,Instr.buildSlice,zeroValue3,bK underlying26,sizeOf3,Instr.fill,Value.cells,r,newRow]
def Bz{ρ:Ae->D}{o:Oper}{w:Z}{x1 f g:Ae}(a:o.op = .buildSlice 48 3 #[(0,x1),(1,f),(2,g)])(h1:ρ x1 = .int .u8 y1)(h:ρ f = .int .u8 y2)(j:ρ g = .int .u8 y3):(execOp ρ o).run prog w = .ok (.value (ag w.heap.size 3 3)) (w.alloc (.cells #[.int .u8 y1,.int .u8 y2,.int .u8 y3] 5)):=by
 have l:Array.range 3=#[0,1,2]:=by decide
 simp[execOp,a,h1,h,j,Instr.buildSlice,zeroValue5,bK underlying48,sizeOf5,Instr.fill,Value.cells,l,newRow]
def i5:∃i,prog.info? 5=some i/\i.zero=some (.int .u8 0)/\i.size=1/\i.bytes=1:=info_parts qP
def CC{S:Nat->Prop}{base:Nat}{v:D}{bs:Aj}{w:Z}(r:∀w1 ad,An w w1->(∀j u,((cP n).map b8)[j]?=some u->w1.cell? (ad.add j)=some u)->∃v' w',(Builtin.append_ #[48,48] 48 #[v,.slice (some ad) 4 4]).run prog w1 = .ok v' w'/\BA base w' v' (bs++cP n)/\Kp S w1 w'):Calls prog 140 #[v,.int .u32 n] w λe w'=>∃v',e = .returned v'/\BA base w' v' (bs++cP n)/\Kp S w w':=by
 refine cW func140 rfl ntmps140 λa0 s0=>?_;refine bO (bF (du s0 rfl rfl (by decide) (di (v:=ae) rfl rfl) λa1 W=>bG ?_));refine sR ?_;refine wS W (cL (v:=v) rfl W.e) λY=>?_;refine wS Y (cL (v:=.int .u32 n) rfl Y.e) λs3=>?_;refine wS s3 (lI (n:=n) underlying230 underlying5 rfl s3.e) λs4=>?_;refine wS s4 (cL (v:=.int .u32 n) rfl s4.e) λs5=>?_;refine wS s5 (zG (m:=8) (n:=n) rfl (λ_=>rfl) s5.e (by decide)) λs6=>?_;refine wS s6 (lI (n:=(n / 2 ^ 8:Nat)) underlying230 underlying5 rfl s6.e) λs7=>?_;refine wS s7 (cL (v:=.int .u32 n) rfl s7.e) λs8=>?_;refine wS s8 (zG (m:=16) (n:=n) rfl (λ_=>rfl) s8.e (by decide)) λs9=>?_;refine wS s9 (lI (n:=(n / 2 ^ 16:Nat)) underlying230 underlying5 rfl s9.e) λB=>?_;refine wS B (cL (v:=.int .u32 n) rfl B.e) λC=>?_;refine wS C (zG (m:=24) (n:=n) rfl (λ_=>rfl) C.e (by decide)) λM=>?_;refine wS M (lI (n:=(n / 2 ^ 24:Nat)) underlying230 underlying5 rfl M.e) λa=>?_;refine du a rfl rfl (by decide) (Ig rfl a.e a.e a.e a.e) λl f=>?_;have h:=(mK w #[.int .u8 (IntKind.u8.wrap (n:Int)),.int .u8 (IntKind.u8.wrap ((n / 2 ^ 8:Nat):Int)),.int .u8 (IntKind.u8.wrap ((n / 2 ^ 16:Nat):Int)),.int .u8 (IntKind.u8.wrap ((n / 2 ^ 24:Nat):Int))] (cP n) (by rw[vA];simp[IntKind.wrap_u8]) (by rw[eG];omega)).rd.form (by simp[cP])
 have ka:An w (w.alloc (.cells #[.int .u8 (IntKind.u8.wrap (n:Int)),.int .u8 (IntKind.u8.wrap ((n / 2 ^ 8:Nat):Int)),.int .u8 (IntKind.u8.wrap ((n / 2 ^ 16:Nat):Int)),.int .u8 (IntKind.u8.wrap ((n / 2 ^ 24:Nat):Int))] 5)):=Kp.al _ _ _;generalize w.alloc (.cells #[.int .u8 (IntKind.u8.wrap (n:Int)),.int .u8 (IntKind.u8.wrap ((n / 2 ^ 8:Nat):Int)),.int .u8 (IntKind.u8.wrap ((n / 2 ^ 16:Nat):Int)),.int .u8 (IntKind.u8.wrap ((n / 2 ^ 24:Nat):Int))] 5)=w1 at h ka ⊢;obtain⟨g,o,cap,e,hc⟩:=h;rw[eG]at e;cases e;obtain⟨v',w2,hr,Q,R⟩:=r w1 ⟨w.heap.size,0,none⟩ ka hc;refine iI (y:=v') (w':=w2) rfl ?_ ?_
 .have e5:l.eval (.tmp 5)=v:=f.eval (by decide);have P:l.eval (.tmp 17) = ag w.heap.size 4 4:=f.eval (by decide);simp[execOp,resolve,invoke,builtin,e5,P,hr]
 have U:bY 18 (l.put (some 18) v') _:=f.bit v';refine wS U (di (v:=v') rfl (f.last v')) λN=>bG ?_;refine wp_ret ⟨N.d,v',?_,v',rfl,Q,(ka.mono λ_ _ e=>e.elim).trans R λ_ _ e=>e⟩;rw[fo rfl];exact congrArg (λx=>Result.ok x w2) (N.v 4 (by decide))
def KE{base:Nat}{v:D}{bs:Aj}{w:Z}(h:BA base w v bs)(M:bs.length+4<=1000000000)(hb:base<=w.heap.size):Calls prog 140 #[v,.int .u32 n] w λe w'=>∃v',e = .returned v'/\BA base w' v' (bs++cP n)/\Kp (λb=>v.ownBlock=some b) w w':=
 CC λN j ka r=>by obtain⟨i,y,B,l,o⟩:=i5;obtain⟨v',C,g,a,f,_⟩:=oc (P:=prog) underlying48 y B l o 48 (h.kept ka) j 4 (cP n) r (by rw[eG];omega) (aX hb ka.size);rw[eG]at g;exact⟨v',C,g,a,f⟩
def KG{bs:Aj}{w:Z}(h:∀j u,(bs.map b8)[j]?=some u->w.cell? ((⟨g,0,none⟩:Addr).add j)=some u)(Y:bs.length<=1000000):Calls prog 140 #[ag g bs.length bs.length,.int .u32 n] w λe w'=>∃v',e = .returned v'/\BA w.heap.size w' v' (bs++cP n)/\An w w':=
 CC λa N ka R=>by
  obtain⟨i,S,W,D,Q⟩:=i5;have o:∀j u,(bs.map b8)[j]?=some u->a.cell? ((⟨g,0,none⟩:Addr).add j)=some u:=λj u M=>(ka.cell (bH w _ (h j u M)) id).trans (h j u M)
  have U:=run_append_grow (P:=prog) a 48 48 5 i (.int .u8 0) underlying48 S W ⟨g,0,none⟩ bs.length bs.length (bs.map b8) (by rw[D];simp) o N 4 4 ((cP n).map b8) (by rw[D];simp[eG]) R (by omega) (by omega) (by rw[Q];exact growslice_fits (by omega) (by omega));refine⟨_,_,U,⟨?_,?_⟩,(Kp.dr _ _).t (Kp.al _ _ _)⟩
  .have B:=grownCap_ge a (bs.length+4) bs.length 5;have r:grownCap a (bs.length+4) bs.length 5<=maxLen:=grownCap_le_maxLen a (bs.length+4) bs.length 5 (by unfold maxLen;omega);have f:(bs++cP n).length=bs.length+4:=by rw[aj,eG]
   unfold BR;rw[f];refine⟨by simp[eG],.inr ⟨a.heap.size,_,_,rfl,ka.size,bI a.drew _,B,r,?_,?_⟩⟩
   .have C:(Value.int IntKind.u8 0).cells.size=1:=rfl;simp only[Array.size_append,ay,size_zeroCells,C,List.length_map,eG];omega
   .rw[Nat.mul_one,Array.toList_append,Array.toList_append,<- bj];exact List.take_left' (by rw[List.length_map,f])
  .have:=sx a (bs.map b8++(cP n).map b8) (grownCap a (bs.length+4) bs.length 5-(bs.length+4)) (bs.length+4) (grownCap a (bs.length+4) bs.length 5) (λx l=>by
    rcases aM.1 l with l|l
    .obtain⟨y,_,rfl⟩:=aK.1 l;exact qQ y
    .obtain⟨y,_,rfl⟩:=aK.1 l;exact qQ y)
   simpa using this
def eC (since upto floor n:Nat):Aj:=[80,66,49]++cP since++cP upto++cP floor++cP n
def KV{w:Z}{since upto floor c:Nat}{p:Option Addr}(h1:since<4294967296)(h2:upto<4294967296)(h3:floor<4294967296)(h4:n<4294967296):Calls prog 136 #[.agg #[Y since,Y upto,Y floor,.slice p n c]] w λe w'=>∃v',e = .returned v'/\BA w.heap.size w' v' (eC since upto floor n)/\An w w':=by
 refine cW func136 rfl ntmps136 λa0 s0=>?_;refine bO (bF (du s0 rfl rfl (by decide) (jl (v:=.agg #[Y since,Y upto,Y floor,.slice p n c]) rfl s0.e) λa1 s1=>?_));have U:(w.alloc (.cells (Value.agg #[Y since,Y upto,Y floor,.slice p n c]).cells 162)).heap[w.heap.size]?=some (.cells #[Y since,Y upto,Y floor,.slice p n c] 162):=bI w _;have k1:An w (w.alloc (.cells (Value.agg #[Y since,Y upto,Y floor,.slice p n c]).cells 162)):=Kp.al _ _ _;have bf:w.heap.size<(w.alloc (.cells (Value.agg #[Y since,Y upto,Y floor,.slice p n c]).cells 162)).heap.size:=(aO.1 U).1;generalize w.alloc (.cells (Value.agg #[Y since,Y upto,Y floor,.slice p n c]).cells 162)=w1 at U k1 bf s1 ⊢;refine wS s1 (di (v:=ae) rfl rfl) λs2=>bG ?_;refine sR ?_;refine du s2 rfl rfl (by decide) (Bz (y1:=80) (y2:=66) (y3:=49) rfl rfl rfl rfl) λa3 s3=>?_;have ca:=run_convert_bytes_const (P:=prog) w1 48 5 #[.int .u8 80,.int .u8 66,.int .u8 49] 3 3 underlying48 underlying5;refine wS s3 (y:=ag w1.heap.size 3 3) (w1:=w1.alloc (.cells #[.int .u8 80,.int .u8 66,.int .u8 49] 5 (3,4))) ?_ λs4=>?_
 .have e6:a3.eval (.tmp 6) = ag w1.heap.size 3 3:=s3.eval (by decide);simp[execOp,e6,ca]
 have ad:(w1.alloc (.cells #[.int .u8 80,.int .u8 66,.int .u8 49] 5 (3,4))).heap[w1.heap.size]?=some (.cells #[.int .u8 80,.int .u8 66,.int .u8 49] 5 (3,4)):=bI w1 _;have k2:An w1 (w1.alloc (.cells #[.int .u8 80,.int .u8 66,.int .u8 49] 5 (3,4))):=Kp.al _ _ _;have am:w1.heap.size<(w1.alloc (.cells #[.int .u8 80,.int .u8 66,.int .u8 49] 5 (3,4))).heap.size:=(aO.1 ad).1;generalize w1.alloc (.cells #[.int .u8 80,.int .u8 66,.int .u8 49] 5 (3,4))=r at ad k2 am s4 ⊢;refine wS s4 (di (v:=ag w1.heap.size 3 3) rfl s4.e) λs5=>bG ?_;have o:=(k2.block _ bf id).trans U;refine bO (bO (bF ?_));refine wS s5 (cR (i:=0) (g:=w.heap.size) (k:=0) underlying162 rfl sizeOf3 (by decide) rfl s5.e) λs6=>?_;refine wS s6 (cU (v:=Y since) rfl isAgg3 s6.e (cK o rfl)) λs7=>?_;refine wS s7 (cR (i:=1) (g:=w.heap.size) (k:=0) underlying162 rfl sizeOf3 (by decide) rfl s7.e) λs8=>?_;refine wS s8 (cU (v:=Y upto) rfl isAgg3 s8.e (cK o rfl)) λs9=>?_;refine wS s9 (cR (i:=2) (g:=w.heap.size) (k:=0) underlying162 rfl sizeOf3 (by decide) rfl s9.e) λbl=>?_;refine wS bl (cU (v:=Y floor) rfl isAgg3 bl.e (cK o rfl)) λbm=>?_;refine wS bm (cR (i:=3) (g:=w.heap.size) (k:=0) underlying162 rfl sizeOf159 (by decide) rfl bm.e) λbp=>?_;refine wS bp (cU (v:=.slice p n c) rfl isAgg159 bp.e (cK o rfl)) λbq=>?_;refine wS bq (fK underlying159 rfl bq.e) λM=>?_;refine wS M (Ie rfl M.e M.e M.e M.e) λa7=>?_;have S:(r.alloc (.cells #[Y since,Y upto,Y floor,Y n] 3)).heap[r.heap.size]?=some (.cells #[Y since,Y upto,Y floor,Y n] 3):=bI r _;have k3:An r (r.alloc (.cells #[Y since,Y upto,Y floor,Y n] 3)):=Kp.al _ _ _;have an:r.heap.size<(r.alloc (.cells #[Y since,Y upto,Y floor,Y n] 3)).heap.size:=(aO.1 S).1;generalize r.alloc (.cells #[Y since,Y upto,Y floor,Y n] 3)=w3 at S k3 an a7 ⊢;refine wS a7 (fK underlying26 rfl a7.e) λcc=>?_;refine wS cc (cL (v:=Y 0) rfl rfl) λcd=>bG ?_
 let C:List Nat:=[since,upto,floor,n]
 have be:=(k3.block _ am id).trans ad;have cf:w1.heap.size<w3.heap.size:=Nat.lt_trans am an
 let I:Nat->(Nat->D)->Z->Prop:=λi e w'=>e 17 = ag r.heap.size 4 4/\(if i=0 then e 3 = ag w1.heap.size 3 3/\w'=w3 else BA w.heap.size w' (e 3) ([80,66,49]++(C.take i).flatMap cP))/\An w w'/\w'.heap[r.heap.size]?=some (.cells #[Y since,Y upto,Y floor,Y n] 3)
 refine xp (n:=4) (si:=19) (sn:=18) (c:=20) (d:=27) I rfl rfl rfl rfl rfl rfl rfl rfl rfl (by decide) (by decide) (by decide) (λ_ _ _ _ h=>h) (λ_ _ _ _ _ h=>h) cd rfl rfl ⟨rfl,by rw[if_pos rfl];exact⟨rfl,rfl⟩,k1.t (k2.t k3),S⟩ ?_ ?_
 .rintro i a9 a w4 K hi l ⟨a4,Q,iK,iB⟩ ba b6 next
  obtain⟨m,hm,cb,ci⟩:∃m,C[i]?=some m/\(#[Y since,Y upto,Y floor,Y n]:Ak)[i]?=some (Y m)/\m<4294967296:=by
   match i,hi with
   |0,_=>exact⟨since,rfl,rfl,h1⟩
   |1,_=>exact⟨upto,rfl,rfl,h2⟩
   |2,_=>exact⟨floor,rfl,rfl,h3⟩
   |3,_=>exact⟨n,rfl,rfl,h4⟩
  refine sR ?_;refine wS l (kY (i:=i) underlying26 sizeOf3 rfl (l.e.trans a4) (l.e.trans ba) hi) λR=>?_;refine du R rfl rfl (by decide) (cU (v:=Y m) rfl isAgg3 R.e (by rw[show 0+1*i=i by omega];exact cK iB cb)) λbS N=>?_;refine wS N (di (v:=Y m) rfl N.e) λbv=>bG ?_;refine bF ?_;refine wS bv (cL rfl bv.e) λbw=>?_;refine wS bw (cL (v:=Y m) rfl bw.e) λbA=>?_;refine wS bA (lI (n:=m) underlying3 underlying230 rfl bA.e) λa8=>?_;rw[show IntKind.u32.wrap (m:Int)=m by rw[IntKind.wrap_u32];omega]at a8;have bb:([80,66,49]++(C.take i).flatMap cP:Aj).length+4<=1000000000:=by
   match i,hi with
   |0,_=>simp[C]
   |1,_=>simp[C,cP]
   |2,_=>simp[C,cP]
   |3,_=>simp[C,cP]
  have W:Calls prog 140 #[a 3,.int .u32 m] w4 λx w5=>∃v',x = .returned v'/\BA w.heap.size w5 v' ([80,66,49]++(C.take (i+1)).flatMap cP)/\An w w5/\w5.heap[r.heap.size]?=some (.cells #[Y since,Y upto,Y floor,Y n] 3):=by
   have b5:([80,66,49]++(C.take (i+1)).flatMap cP:Aj)=([80,66,49]++(C.take i).flatMap cP)++cP m:=by rw[List.take_add_one,hm];simp only[Option.toList_some,List.flatMap_append,List.flatMap_cons,List.flatMap_nil,bo];rw[<- bn]
   rw[b5]
   by_cases h0:i=0
   .subst h0;rw[if_pos rfl]at Q;obtain⟨e3,rfl⟩:=Q;rw[e3];refine(KG (g:=w1.heap.size) (bs:=[80,66,49]) (n:=m) (λj u hu=>by rw[addr_add,ao];exact cK be (by simpa [b8]using hu)) (by decide)).mono λx w5 hh=>?_
    obtain⟨v',rfl,B,f⟩:=hh;exact⟨v',rfl,B.mono iK.size,iK.t f,(f.block _ an id).trans iB⟩
   .rw[if_neg h0]at Q;refine(KE (n:=m) Q bb iK.size).mono λx w5 hh=>?_;obtain⟨v',rfl,B,f⟩:=hh;refine⟨v',rfl,B,iK.trans f λb hb e=>?_,?_⟩
    .have:=(Q.1.lt b e).1;omega
    .refine(f.block _ (aO.1 iB).1 λe=>?_).trans iB;rcases Q.1.2 with⟨hv,_⟩|⟨g,cap,ch,hv,_,hg,_⟩
     .rw[hv]at e;cases e
     .rw[hv]at e;have eg:g=r.heap.size:=by simpa [Value.ownBlock]using e
      rw[eg,iB]at hg;cases hg
  refine wC a8 rfl func140 (vs:=#[a 3,.int .u32 m]) (by simp[a8.eval];exact⟨rfl,rfl⟩) (W.mono λx w5 hh=>?_);obtain⟨v',rfl,B,f,b7⟩:=hh;refine⟨v',rfl,λcg bB=>?_⟩;refine du bB rfl rfl (by decide) (di (v:=v') rfl bB.e) λb3 ce=>bG ?_;exact next b3 _ w5 ce ⟨a4,by rw[if_neg (Nat.succ_ne_zero i)];exact B,f,b7⟩ ba b6
 .rintro a9 a w4 l ⟨a4,Q,iK,iB⟩;rw[if_neg (by decide)]at Q;refine sR ?_;refine iI rfl (cL (v:=a 3) rfl l.e) ?_;have R:bY 28 (a9.put (some 28) (a 3)) _:=l.bit (a 3);refine du R rfl rfl (by decide) (di (v:=a 3) rfl (l.last (a 3))) λbS N=>bG ?_;refine wp_ret ⟨N.d,a 3,?_,a 3,rfl,?_,iK⟩
  .rw[fo rfl];exact congrArg (λx=>Result.ok x w4) (N.v 2 (by decide))
  .simpa [C,eC,bn]using Q
def oF:prog.follows .mixedOrders=true:=by kernel_rfl
section
variable {P:Ad}{ops:Am}{Q:Exit->Act->Z->Prop}{S:Z->Prop}{N i d fuel:Nat}{o:Oper}{y:D}{listed:Array Bool}{a:Act}{w w':Z}{e:Nat->D}
def qB (h:bY N a e)(B:ops[i]?=some o)(D:Region.noSelect ops=true)(l:Region.free .any ops listed i=true)(C:(Region.ready .any ops listed).contains i=true)(g:∀c a w,Q (.panic c) (a.put o.dst y) w->Q (.panic c) a w)(r:o.guard=none)(f:o.dst=some d)(j:d<N)
  (M:∀w,S w->(execOp a.eval o).run P w = .ok (.value y) w) (hS:S w) (next:∀a',bY N a' (upd e d y)->wpAnyH P .any ops Q S fuel (listed.setIfInBounds i true) a' w):wpAnyH P .any ops Q S (fuel+1) listed a w:=
 wpAnyH_take B D l C g (.inl ⟨by simp[Region.wanted,r],M⟩) hS (next _ (by rw[f];exact h.put j y))
def dT (h:bY N a e)(B:ops[i]?=some o)
  (M:∀w,S w->(execOp a.eval o).run P w = .ok (.value y) w) (hS:S w) (next:∀{a'},bY N a' (upd e d y)->wpAnyH P .any ops Q S fuel (listed.setIfInBounds i true) a' w) (D:Region.noSelect ops=true:=by kernel_rfl) (l:Region.free .any ops listed i=true:=by kernel_rfl) (C:(Region.ready .any ops listed).contains i=true:=by kernel_rfl) (g:∀c a w,Q (.panic c) (a.put o.dst y) w->Q (.panic c) a w:=by first|exactλ_ _ _ h=>h | (intro _ _ _ h;cases h.1)) (r:o.guard=none:=by rfl) (f:o.dst=some d:=by rfl) (j:d<N:=by decide):wpAnyH P .any ops Q S (fuel+1) listed a w:=
 qB h B D l C g r f j M hS λ_ s=>next s
def qg (g:ops[i]?=some o)(f:o.guard=none){K:Act->Z->Prop}(h:o.wp P a w K Q):wpOp P ops Q i K a w:=by unfold wpOp;simp only[g,Region.wanted,f,if_true];exact .inl h
def ir (h:bY N a e)(D:Region.ready .any ops listed=[i])(C:ops[i]?=some o)(B:o.guard=none)(f:o.dst=some d)(r:d<N)(g:(execOp a.eval o).run P w = .ok (.value y) w')(hS:S w')(next:∀a',bY N a' (upd e d y)->wpAnyH P .any ops Q S fuel (listed.setIfInBounds i true) a' w'):wpAnyH P .any ops Q S (fuel+1) listed a w:=by refine wpAnyH_all D (by simp) λj l=>?_;simp only[au]at l;subst l;refine qg C B ?_;unfold Oper.wp;rw[g];exact⟨hS,next _ (by rw[f];exact h.put r y)⟩
def pC (y:Region.ready .any ops listed=[i])(r:ops[i]?=some o)(l:o.guard=none)(f:o.dst=none)(g:(execOp a.eval o).run P w = .ok .skip w')(hS:S w')(next:wpAnyH P .any ops Q S fuel (listed.setIfInBounds i true) a w'):wpAnyH P .any ops Q S (fuel+1) listed a w:=by refine wpAnyH_all y (by simp) λj h=>?_;simp only[au]at h;subst h;refine qg r l ?_;unfold Oper.wp;rw[g,Oper.upon_skip,f];exact⟨hS,next⟩
def mM{f : Ag}{args : Array Ae}{ats : Array Af}{vs : Ak}(h : bY N a e)(hr : Region.ready .any ops listed = [i])(Y : ops[i]? = some o)(U : o.guard = none)(l : o.dst = some d)(M : d < N)(r : o.op = .call { callee := .value (.func f),args,argTypes := ats })(R : P.funcs[f]? = some fn)(g : (fn.name == "runtime.NumGoroutine") = false)(hb : fn.body.isNone = false)(B : args.map a.eval = vs)
  (D:Calls P f vs w λx w'=>∃y,x = .returned y/\S w'/\∀a',bY N a' (upd e d y)->wpAnyH P .any ops Q S fuel (listed.setIfInBounds i true) a' w'):wpAnyH P .any ops Q S (fuel+1) listed a w:=by
 refine wpAnyH_all hr (by simp) λj C=>?_;simp only[au]at C;subst C;refine qg Y U ?_;unfold Oper.wp;rw[run_call_body r R g hb,Oper.upon_enter,B];refine D.mono λx w' W=>?_;obtain⟨y,rfl,hS,Z⟩:=W;exact⟨hS,Z _ (by rw[l];exact h.put M y)⟩
end
def NF {P:Ad}{ρ:Ae->D}{o:Oper}{x:Ae}{w:Z}{t:Af}{g k:Nat}{a b c d:D}(B:∀w,(isAgg t).run P w = .ok true w)(C:∀w,(sizeOf t).run P w = .ok 4 w)(h:o.op = .load t x)(M:ρ x = .pointer (some ⟨g,k,none⟩))(h0:w.cell? ⟨g,k,none⟩=some a)(h1:w.cell? ⟨g,k+1,none⟩=some b)(r:w.cell? ⟨g,k+2,none⟩=some c)(y:w.cell? ⟨g,k+3,none⟩=some d):(execOp ρ o).run P w = .ok (.value (.agg #[a,b,c,d])) w:=by
 have l:=run_loadCells_list (P:=P) (w:=w) ⟨g,k,none⟩ [a,b,c,d] (λj v f=>by
  rw[addr_add]
  match j,f with
  |0,f=>cases f;exact h0
  |1,f=>cases f;exact h1
  |2,f=>cases f;exact r
  |3,f=>cases f;exact y
  |j+4,f=>simp at f)
 rw[show [a,b,c,d].length=4 from rfl]at l;simp[execOp,h,M,Instr.loadAt,Instr.sureAddr,loadVar,B,C,l]
def Hv{ρ:Ae->D}{o:Oper}{x y:Ae}{w:Z}{p q:Option Addr}{n c f c':Nat}(a:o.op = .build 232 #[(0,x),(1,y)])(g:ρ x = .slice p n c)(h:ρ y = .slice q f c'):(execOp ρ o).run prog w = .ok (.value (.agg #[.slice p n c,.slice q f c',.int .u32 0])) w:=by simp[execOp,a,g,h,Instr.build,zeroValue232,bK underlying232,aF,sizeOf48,sizeOf159,sizeOf230,Instr.fill,Value.cells]
def Qx{w:Z}{since upto floor n c:Nat}{p:Option Addr}(h1:since<4294967296)(h2:upto<4294967296)(h3:floor<4294967296)(h4:n<4294967296):Calls prog 83 #[.agg #[Y since,Y upto,Y floor,.slice p n c]] w λe w'=>∃pt B,e = .returned (ab pt)/\w.heap.size<=pt/\w'.heap[pt]?=some (.cells #[B,.slice p n c,.int .u32 0] 232)/\BA w.heap.size w' B (eC since upto floor n)/\B.ownBlock≠some pt/\An w w':=by
 refine cW func83 rfl ntmps83 λa0 s0=>?_;refine bO (bF (du s0 rfl rfl (by decide) (jl (v:=.agg #[Y since,Y upto,Y floor,.slice p n c]) rfl s0.e) λa1 s1=>?_));have o:(w.alloc (.cells (Value.agg #[Y since,Y upto,Y floor,.slice p n c]).cells 162)).heap[w.heap.size]?=some (.cells #[Y since,Y upto,Y floor,.slice p n c] 162):=bI w _;have k1:An w (w.alloc (.cells (Value.agg #[Y since,Y upto,Y floor,.slice p n c]).cells 162)):=Kp.al _ _ _;have N:w.heap.size<(w.alloc (.cells (Value.agg #[Y since,Y upto,Y floor,.slice p n c]).cells 162)).heap.size:=(aO.1 o).1;generalize w.alloc (.cells (Value.agg #[Y since,Y upto,Y floor,.slice p n c]).cells 162)=y at o k1 N s1 ⊢;refine wS s1 (di (v:=.pointer none) rfl rfl) λs2=>bG ?_;have Q:An y { y with drawn:=y.drawn+1 }:=⟨rfl,rfl,rfl,aW _,λ_ _ _=>rfl⟩;have a:({ y with drawn:=y.drawn+1 }:Z).heap[w.heap.size]?=some (.cells #[Y since,Y upto,Y floor,.slice p n c] 162):=o;refine bO (wp_region_held (S:=λw'=>w'.heap[w.heap.size]?=some (.cells #[Y since,Y upto,Y floor,.slice p n c] 162)) oF ?_);generalize ({ y with drawn:=y.drawn+1 }:Z)=w2 at Q a ⊢;refine dT (i:=0) (fuel:=6) s2 rfl (λw' C=>NF isAgg162 sizeOf162 rfl s2.e (cK C rfl) (cK C rfl) (cK C rfl) (cK C rfl)) a λs3=>?_;refine dT (i:=2) (fuel:=5) s3 rfl (λw' _=>cR (i:=3) (g:=w.heap.size) (k:=0) underlying162 rfl sizeOf159 (by decide) rfl s3.e) a λs4=>?_;refine dT (i:=3) (fuel:=4) s4 rfl (λw' C=>cU (v:=.slice p n c) rfl isAgg159 s4.e (cK C rfl)) a λs5=>?_;refine mM (i:=1) (fuel:=3) s5 (by kernel_rfl) rfl rfl rfl (by decide) rfl func136 (by kernel_rfl) (by kernel_rfl) (vs:=#[.agg #[Y since,Y upto,Y floor,.slice p n c]]) (by simp[s5.eval];rfl) ((KV (w:=w2) (p:=p) (c:=c) h1 h2 h3 h4).mono λx l hh=>?_);obtain⟨B,rfl,hA,R⟩:=hh;have r:w.heap.size<w2.heap.size:=aR N Q.size;have f:=(R.block _ r id).trans a;refine⟨B,rfl,f,λa6 s6=>?_⟩;obtain⟨W,P,D⟩:=eM hA.1;refine ir (i:=4) (fuel:=2) s6 (by kernel_rfl) rfl rfl rfl (by decide) (Hv rfl (s6.e.trans D) s6.e) f λa7 s7=>?_;refine wpAnyH_all (rs:=[5]) (by kernel_rfl) (by simp) λj hj=>?_;simp only[au]at hj;subst hj;refine qg rfl rfl ?_;unfold Oper.wp;rw[jl (v:=.agg #[.slice W _ P,.slice p n c,.int .u32 0]) rfl s7.e];have M:(l.alloc (.cells (Value.agg #[.slice W (eC since upto floor n).length P,.slice p n c,.int .u32 0]).cells 232)).heap[l.heap.size]?=some (.cells #[.slice W (eC since upto floor n).length P,.slice p n c,.int .u32 0] 232):=bI l _;have U:An l (l.alloc (.cells (Value.agg #[.slice W (eC since upto floor n).length P,.slice p n c,.int .u32 0]).cells 232)):=Kp.al _ _ _;refine⟨(U.block _ (aR r R.size) id).trans f,?_⟩;have s8:=s7.bit (ab l.heap.size);have e8:=s7.last (ab l.heap.size);refine ir (i:=6) (fuel:=0) s8 (by kernel_rfl) rfl rfl rfl (by decide) (di (v:=ab l.heap.size) rfl e8) ((U.block _ (aR r R.size) id).trans f) λa9 s9=>?_;refine wpAnyH_done (by kernel_rfl) ?_ 0;have kt:An w l:=k1.t (Q.t R);refine wp_ret ⟨s9.d,ab l.heap.size,?_,l.heap.size,B,rfl,kt.size,by rw[D];exact M,(hA.kept U).mono (aX k1.size Q.size),λeq=>?_,kt.t U⟩
 .rw[fo rfl];exact congrArg (λx=>Result.ok x _) (s9.v 2 (by decide))
 .have:=(hA.1.lt _ eq).2;omega
def AX {ops:Am}{N j sj:Nat}{a:Act}{e:Nat->D}{b:Bool}(h:bY N a e)(g:(ops[j]?).bind (·.dst)=some sj)(l:sj<N)(f:e sj = .bool b):yielded ops a.tmps j=some b:=by unfold yielded;rw[g];simp only[Option.bind_some];rw[h.at l,f]
section
variable {P:Ad}{Post:Exit->Act->Z->Prop}{ops:Am}{a:Act}{w:Z}{o:Oper}{r:List Oper}{N j sj d:Nat}{e:Nat->D}{b:Bool}
def oW (h:bY N a e)(B:o.guard=some (j,b))(C:(ops[j]?).bind (·.dst)=some sj)(D:sj<N)(y:e sj = .bool (!b))(f:o.dst=some d)(l:d<N)(next:∀a',bY N a' (upd e d undef)->wpList P ops Post r a' w):wpList P ops Post (o::r) a w:=by
 refine wpList_step λK g=>?_;have M:Region.wanted o (yielded ops a.tmps)=false:=by unfold Region.wanted;rw[B];simp only[AX h C D y];cases b<;>rfl
 rw[M];simp only[bg,if_false];exact g _ _ (next _ (by rw[f];exact h.put l _))
def wU (h:bY N a e)(next:∀{a'},bY N a' (upd e d undef)->wpList P ops Post r a' w)(y:o.guard=some (j,b):=by rfl)(B:(ops[j]?).bind (·.dst)=some sj:=by rfl)(C:sj<N:=by decide)(l:e sj = .bool (!b):=by rfl)(f:o.dst=some d:=by rfl)(g:d<N:=by decide):wpList P ops Post (o::r) a w:=oW h y B C l f g λ_ s=>next s
def oV {y:D}{w1:Z}(h:bY N a e)(C:o.guard=some (j,b))(M:(ops[j]?).bind (·.dst)=some sj)(R:sj<N)(B:e sj = .bool b)(f:o.dst=some d)(l:d<N)(Q:(execOp a.eval o).run P w = .ok (.value y) w1)(next:∀a',bY N a' (upd e d y)->wpList P ops Post r a' w1):wpList P ops Post (o::r) a w:=by
 refine wpList_step λK g=>?_;have S:Region.wanted o (yielded ops a.tmps)=true:=by unfold Region.wanted;rw[C];simp only[AX h M R B];cases b<;>rfl
 rw[S];simp only[if_true];unfold Oper.wp;rw[Q];exact g _ _ (next _ (by rw[f];exact h.put l _))
def wG {y:D}{w1:Z}(h:bY N a e)(M:(execOp a.eval o).run P w = .ok (.value y) w1)(next:∀{a'},bY N a' (upd e d y)->wpList P ops Post r a' w1)(B:o.guard=some (j,b):=by rfl)(C:(ops[j]?).bind (·.dst)=some sj:=by rfl)(Q:sj<N:=by decide)(l:e sj = .bool b:=by rfl)(f:o.dst=some d:=by rfl)(g:d<N:=by decide):wpList P ops Post (o::r) a w:=oV h B C Q l f g M λ_ s=>next s
end
section
variable {P:Ad}{ρ:Ae->D}{o:Oper}{x y z:Ae}{w:Z}
def rh {t u:Af}{i j:Int}(a:o.op = .binOp .neq t x y u)(f:ρ x = Y i)(g:ρ y = Y j):(execOp ρ o).run P w = .ok (.value (.bool (decide (i≠j)))) w:=by
 simp[execOp,a,f,g,binOp,eqGuard,Op.intCmp]
 by_cases h:i=j<;>simp[h]
def iF {t u:Af}{i j:Int}(a:o.op = .binOp .eql t x y u)(f:ρ x = Y i)(g:ρ y = Y j):(execOp ρ o).run P w = .ok (.value (.bool (decide (i=j)))) w:=by
 simp[execOp,a,f,g,binOp,eqGuard,Op.intCmp]
 by_cases h:i=j<;>simp[h]
def ND {t u:Af}{i j:Int}(a:o.op = .binOp .geq t x y u)(f:ρ x = Y i)(g:ρ y = Y j):(execOp ρ o).run P w = .ok (.value (.bool (decide (i >= j)))) w:=by simp[execOp,a,f,g,binOp,eqGuard,Op.intCmp]
def zE {t u:Af}{i j:Int}(a:o.op = .binOp .leq t x y u)(f:ρ x = Y i)(g:ρ y = Y j):(execOp ρ o).run P w = .ok (.value (.bool (decide (i<=j)))) w:=by simp[execOp,a,f,g,binOp,eqGuard,Op.intCmp]
def oL {v:D}(a:o.op = .pick x y z)(f:ρ x = .bool true)(g:ρ y=v):(execOp ρ o).run P w = .ok (.value v) w:=by simp[execOp,a,f,g,asBool]
def rj {v:D}(a:o.op = .pick x y z)(f:ρ x = .bool false)(g:ρ z=v):(execOp ρ o).run P w = .ok (.value v) w:=by simp[execOp,a,f,g,asBool]
def ni {t u:Af}{i j:Int}(a:o.op = .binOp .add t x y u)(f:ρ x = Y i)(g:ρ y = Y j)(h0:-9223372036854775808<=i+j)(h1:i+j<=9223372036854775807):(execOp ρ o).run P w = .ok (.value (Y (i+j))) w:=by simp[execOp,a,f,g,binOp,eqGuard,Op.intArith];rw[IntKind.wrap_i64];omega
def Nt {t u:Af}{i j:Int}(a:o.op = .binOp .add t x y u)(f:ρ x = Y i)(g:ρ y = Y j):(execOp ρ o).run P w = .ok (.value (Y (IntKind.i64.wrap (i+j)))) w:=by simp[execOp,a,f,g,binOp,eqGuard,Op.intArith]
def wf_wrap (i:Int):(Lit.int .i64 (IntKind.i64.wrap i)).wf=true:=by
 have h:-9223372036854775808<=IntKind.i64.wrap i/\IntKind.i64.wrap i<=9223372036854775807:=by rw[IntKind.wrap_i64];omega
 exact rL h
def rm {t u:Af}{i j:Int}(a:o.op = .binOp .sub t x y u)(f:ρ x = Y i)(g:ρ y = Y j)(h0:-9223372036854775808<=i-j)(h1:i-j<=9223372036854775807):(execOp ρ o).run P w = .ok (.value (Y (i-j))) w:=by simp[execOp,a,f,g,binOp,eqGuard,Op.intArith];rw[IntKind.wrap_i64];omega
def NI {t k e:Af}{b n:Nat}{f:D->Option D}(a:o.op = .call ⟨.builtin .len,#[x],#[t]⟩)(g:ρ x = .map (some b))(h:cH w P k b n f)(ht:P.underlying t=some (.map k e)):(execOp ρ o).run P w = .ok (.value (Y n)) w:=by have:=h.len ht o.type;simp[execOp,a,g,resolve,invoke,builtin,this]
def NH {t:Af}{i j:Int}(a:o.op = .call ⟨.builtin .max,#[x,y],#[t,t]⟩)(f:ρ x = Y i)(g:ρ y = Y j):(execOp ρ o).run P w = .ok (.value (Y (max i j))) w:=by
 have:(Builtin.max2 (Y i) (Y j)).run P w = .ok (Y (max i j)) w:=by simp[Builtin.max2];split<;>omega
 simp[execOp,a,f,g,resolve,invoke,builtin,Builtin.max_,this]
def NO {t:Af}{m key v:D}{w':Z}(a:o.op = .mapUpdate t x y z)(f:ρ x=m)(g:ρ y=key)(j:ρ z=v)(h:(Instr.mapUpdate t m key v).run P w = .ok () w'):(execOp ρ o).run P w = .ok .skip w':=by simp[execOp,a,f,g,j,h]
end
def Hq{ρ:Ae->D}{o:Oper}{x y z u:Ae}{w:Z}{i j k:Int}{p:Option Addr}{n c:Nat}(a:o.op = .build 162 #[(0,x),(1,y),(2,z),(3,u)])(g:ρ x = Y i)(h:ρ y = Y j)(l:ρ z = Y k)(f:ρ u = .slice p n c):(execOp ρ o).run prog w = .ok (.value (.agg #[Y i,Y j,Y k,.slice p n c])) w:=by simp[execOp,a,g,h,l,f,Instr.build,zeroValue162,bK underlying162,aF,sizeOf3,sizeOf159,Instr.fill,Value.cells]
def Hp{ρ:Ae->D}{o:Oper}{x y:Ae}{w:Z}{i:Int}{p:Option Addr}(a:o.op = .build 151 #[(0,x),(1,y)])(f:ρ x = Y i)(g:ρ y = .pointer p):(execOp ρ o).run prog w = .ok (.value (.agg #[Y i,.pointer p])) w:=by simp[execOp,a,f,g,Instr.build,zeroValue151,bK underlying151,aF,sizeOf3,sizeOf149,Instr.fill,Value.cells]
section
variable {own:Nat->da}{c:Nat}{w w':Z}{p:Nat}{s:XS}{mo ph mv mm:Nat}{pt mw:Int->Nat}{sl:Ac->D}
def XR.taken (h:XR own c w p s mo ph mv mm pt mw sl)(t:Int)(hb:∀b,b≠p->w'.heap[b]?=w.heap[b]?)(hp:w'.heap[p]?=some (.cells #[ab ph,Y s.cJ,Y s.now,s.log.lf,Y (gQ s.log.lg.length:Nat),Y s.log.sy,Y s.begun,.map (some mo),Y t,.map (some s.bk.mu)] 102 (0,0))):XR own c w' p { s with bk:={ s.bk with taken:=t } } mo ph mv mm pt mw sl:=by
 have ne:∀{b:Nat},(own b).k≠0->b≠p:=λ{b} a e=>a (by rw[e,h.dc])
 have bk:rR own c w' s.bk:=h.gV.frame (λb _ _ a=>hb b (ne (by omega))) (λ_ _ _ _=>rfl);refine⟨h.dc,h.dQ,h.fS,h.fh,h.gi,hp,(hb ph (ne (by rw[h.fS];simp))).trans h.dJ,h.opn.of_block (hb mo (ne (by rw[h.dQ];simp))),h.ed,λn t e=>?_,λn t e=>?_,h.gn.of_block (hb mv (ne (by rw[h.fh];simp))),h.e9.of_block (hb mm (ne (by rw[h.gi];simp))),h.ib,λk a=>?_,h.log.frame (λb _ _ a=>hb b (ne (by omega))) (λ_ _ _ _=>rfl),⟨bk.lH,bk.ll,bk.jT,bk.blk⟩⟩
 .exact(hb _ (ne (by rw[(h.ed n t e).1];simp))).trans (h.tx n t e)
 .exact(h.wr n t e).of_block (hb _ (ne (by rw[(h.ed n t e).2];simp)))
 .exact ra (h.row k a) λb e=>hb b (ne (by rw[h.ib k a b e];simp))
def RU (h:XR own c w p s mo ph mv mm pt mw sl)(ok:dj s)(fv:s.bk.nb<3)(R:∀ks:List Ac,ks.Nodup->(∀k∈ks,s.bU k≠[])->(dw s 0 ks).length<=1000000) :
  Calls prog 48 #[ab p,Y 0] w λx w'=>∃pb r g P en ks n,x = .returned (.tuple #[Y (IntKind.i64.wrap (s.bk.taken+1)),Y 0])/\ks.Pairwise blt/\(∀k,k∈ks↔s.bU k≠[])/\
   w.heap.size<=pb/\w.heap.size<=r/\w'.heap[pb]?=some (.cells #[Y s.cJ,ab r] 151 (0,0))/\w'.heap[r]?=some (.cells #[P,en,.int .u32 0] 232 (0,0))/\
   BA w.heap.size w' P (eC 0 s.now.toNat s.cJ.toNat (dw s 0 ks).length)/\fP w' en (dw s 0 ks) g/\P.ownBlock≠some r/\P.ownBlock≠some pb/\r≠pb/\r≠g/\P.ownBlock≠some g/\g<w'.heap.size/\
   w'.heap[p]?=some (.cells #[ab ph,Y s.cJ,Y s.now,s.log.lf,Y (gQ s.log.lg.length:Nat),Y s.log.sy,Y s.begun,.map (some mo),Y (IntKind.i64.wrap (s.bk.taken+1)),.map (some s.bk.mu)] 102 (0,0))/\
   cH w' prog 3 s.bk.mu n (encI (cN (λn=>(s.bk.un n).map λb=>ab b.pb) (IntKind.i64.wrap (s.bk.taken+1)) (some (ab pb))))/\
   Kp (λb=>b=p\/b=s.bk.mu) w w':=by
 refine cW func48 rfl ntmps48 λa0 s0=>?_;have b3:p≠s.bk.mu:=λe=>by have:=h.dc;rw[e,h.gV.lH]at this;simp at this
 refine sR ?_;refine wS s0 (di (v:=Y 0) rfl rfl) λs1=>?_;refine wS s1 (di (v:=Y 0) rfl rfl) λs2=>bG ?_;refine bO (bO (bF ?_));refine wS s2 (cL (v:=Y 0) rfl s2.e) λs3=>?_;refine wS s3 (rh (i:=0) (j:=0) rfl s3.e rfl) λs4=>?_;refine wS s4 (cL (v:=.bool false) rfl s4.e) λs5=>?_;refine wU s5 λs6=>?_;refine wU s6 λs7=>?_;refine wU s7 λs8=>?_;refine wU s8 λs9=>?_;refine wU s9 λe7=>?_;refine wU e7 λb5=>?_;refine wS b5 (rj (v:=.bool false) rfl b5.e rfl) λa7=>bG ?_;refine bL a7.e (bQ ?_);refine bO (bO (bF ?_));refine wS a7 (cL rfl a7.e) λb6=>?_;refine wS b6 (fc (p:=⟨p,0,none⟩) rfl b6.e) λb7=>?_;refine wS b7 (cR (i:=5) (g:=p) (k:=0) underlying102 rfl sizeOf100 (by decide) rfl b7.e) λca=>?_;refine wS ca (cU (v:=.map (some s.bk.mu)) rfl isAgg100 ca.e (cK h.store rfl)) λcb=>?_;refine wS cb (NI rfl cb.e h.gV.ll underlying100) λcc=>?_;refine wS cc (ND (i:=(s.bk.nb:Nat)) (j:=3) rfl cc.e rfl) λa8=>bG ?_;refine bL (by rw[a8.eval (by decide)];show Value.bool (decide ((s.bk.nb:Int) >= 3))=_;rw[aY (by omega)]) (bQ ?_);refine sR ?_;refine wS a8 (cL rfl a8.e) λcd=>?_;refine wS cd (fc (p:=⟨p,0,none⟩) rfl cd.e) λcf=>?_;refine wS cf (cR (i:=4) (g:=p) (k:=0) underlying102 rfl sizeOf3 (by decide) rfl cf.e) λcg=>?_;refine wS cg (cU (v:=Y s.bk.taken) rfl isAgg3 cg.e (cK h.store rfl)) λch=>?_;refine wS ch (Nt (i:=s.bk.taken) (j:=1) rfl ch.e rfl) λci=>?_;refine wS ci (fc (p:=⟨p,0,none⟩) rfl ci.e) λck=>?_;refine wS ck (cR (i:=4) (g:=p) (k:=0) underlying102 rfl sizeOf3 (by decide) rfl ck.e) λQ=>?_;refine jL rfl rfl (iG (p:=⟨p,8,none⟩) (v:=Y (IntKind.i64.wrap (s.bk.taken+1))) rfl sizeOf3 Q.e Q.e (cK h.store rfl) (jH h.store) rfl (λ_ h=>(by cases h)) (λ_ h=>(by cases h))) (bG ?_);have bw:=kg (i:=8) (Y (IntKind.i64.wrap (s.bk.taken+1))) h.store;have k1:Kp (λb=>b=p) w (w.setCell ⟨p,8,none⟩ (Y (IntKind.i64.wrap (s.bk.taken+1)))):=Kp.sc w _ _ rfl;have b1:∀b,b≠p->(w.setCell ⟨p,8,none⟩ (Y (IntKind.i64.wrap (s.bk.taken+1)))).heap[b]?=w.heap[b]?:=λb hb=>Below.heap_setCell w _ _ b hb
 have z1:(w.setCell ⟨p,8,none⟩ (Y (IntKind.i64.wrap (s.bk.taken+1)))).heap.size=w.heap.size:=by simp[World.setCell]
 generalize w.setCell ⟨p,8,none⟩ (Y (IntKind.i64.wrap (s.bk.taken+1)))=M at bw k1 b1 z1 ⊢;have k2:An M { M with drawn:=M.drawn+1 }:=⟨rfl,rfl,rfl,aW _,λ_ _ _=>rfl⟩;have f:({ M with drawn:=M.drawn+1 }:Z).heap[p]?=some (.cells #[ab ph,Y s.cJ,Y s.now,s.log.lf,Y (gQ s.log.lg.length:Nat),Y s.log.sy,Y s.begun,.map (some mo),Y (IntKind.i64.wrap (s.bk.taken+1)),.map (some s.bk.mu)] 102 (0,0)):=bw;have b2:∀b,b≠p->({ M with drawn:=M.drawn+1 }:Z).heap[b]?=w.heap[b]?:=b1;have z2:({ M with drawn:=M.drawn+1 }:Z).heap.size=w.heap.size:=z1;refine bO (wp_region_held (S:=λw'=>w'.heap[p]?=some (.cells #[ab ph,Y s.cJ,Y s.now,s.log.lf,Y (gQ s.log.lg.length:Nat),Y s.log.sy,Y s.begun,.map (some mo),Y (IntKind.i64.wrap (s.bk.taken+1)),.map (some s.bk.mu)] 102 (0,0))) oF ?_);generalize ({ M with drawn:=M.drawn+1 }:Z)=w2 at k2 f b2 z2 ⊢;have x2:=h.taken (IntKind.i64.wrap (s.bk.taken+1)) b2 f;refine dT (i:=0) (fuel:=37) Q rfl (λw' _=>cL rfl Q.e) f λcl=>?_;refine dT (i:=1) (fuel:=36) cl rfl (λw' _=>fc (p:=⟨p,0,none⟩) rfl cl.e) f λcm=>?_;refine dT (i:=2) (fuel:=35) cm rfl (λw' _=>cR (i:=5) (g:=p) (k:=0) underlying102 rfl sizeOf100 (by decide) rfl cm.e) f λco=>?_;refine dT (i:=3) (fuel:=34) co rfl (λw' B=>cU (v:=.map (some s.bk.mu)) rfl isAgg100 co.e (cK B rfl)) f λcq=>?_;refine dT (i:=4) (fuel:=33) cq rfl (λw' _=>cL rfl cq.e) f λcr=>?_;refine dT (i:=5) (fuel:=32) cr rfl (λw' _=>fc (p:=⟨p,0,none⟩) rfl cr.e) f λcu=>?_;refine dT (i:=6) (fuel:=31) cu rfl (λw' _=>cR (i:=4) (g:=p) (k:=0) underlying102 rfl sizeOf3 (by decide) rfl cu.e) f λcv=>?_;refine dT (i:=7) (fuel:=30) cv rfl (λw' B=>cU (v:=Y (IntKind.i64.wrap (s.bk.taken+1))) rfl isAgg3 cv.e (cK B rfl)) f λcw=>?_;refine dT (i:=8) (fuel:=29) cw rfl (λw' _=>cL rfl cw.e) f λcz=>?_;refine dT (i:=9) (fuel:=28) cz rfl (λw' _=>cL rfl cz.e) f λcA=>?_;refine dT (i:=10) (fuel:=27) cA rfl (λw' _=>fc (p:=⟨p,0,none⟩) rfl cA.e) f λcT=>?_;refine dT (i:=11) (fuel:=26) cT rfl (λw' _=>cR (i:=0) (g:=p) (k:=0) underlying102 rfl sizeOf96 (by decide) rfl cT.e) f λc3=>?_;refine dT (i:=12) (fuel:=25) c3 rfl (λw' _=>cR (i:=1) (g:=p) (k:=0) underlying96 rfl sizeOf3 (by decide) rfl c3.e) f λc7=>?_;refine dT (i:=13) (fuel:=24) c7 rfl (λw' B=>cU (v:=Y s.cJ) rfl isAgg3 c7.e (cK B rfl)) f λa9=>?_;refine dT (i:=14) (fuel:=23) a9 rfl (λw' _=>NH (i:=0) (j:=s.cJ) rfl a9.e a9.e) f λdd=>?_;refine dT (i:=15) (fuel:=22) dd rfl (λw' _=>cL rfl dd.e) f λde=>?_;refine dT (i:=16) (fuel:=21) de rfl (λw' _=>cL rfl de.e) f λdk=>?_;refine dT (i:=17) (fuel:=20) dk rfl (λw' _=>fc (p:=⟨p,0,none⟩) rfl dk.e) f λdl=>?_;refine dT (i:=18) (fuel:=19) dl rfl (λw' _=>cR (i:=0) (g:=p) (k:=0) underlying102 rfl sizeOf96 (by decide) rfl dl.e) f λds=>?_;refine dT (i:=19) (fuel:=18) ds rfl (λw' _=>cR (i:=2) (g:=p) (k:=0) underlying96 rfl sizeOf3 (by decide) rfl ds.e) f λd1=>?_;refine dT (i:=20) (fuel:=17) d1 rfl (λw' B=>cU (v:=Y s.now) rfl isAgg3 d1.e (cK B rfl)) f λd2=>?_;refine dT (i:=21) (fuel:=16) d2 rfl (λw' _=>cL rfl d2.e) f λd3=>?_
 refine dT (i:=22) (fuel:=15) d3 rfl (λw' _=>fc (p:=⟨p,0,none⟩) rfl d3.e) f λd4=>?_;refine dT (i:=23) (fuel:=14) d4 rfl (λw' _=>cR (i:=0) (g:=p) (k:=0) underlying102 rfl sizeOf96 (by decide) rfl d4.e) f λd5=>?_;refine dT (i:=24) (fuel:=13) d5 rfl (λw' _=>cR (i:=1) (g:=p) (k:=0) underlying96 rfl sizeOf3 (by decide) rfl d5.e) f λd6=>?_;refine dT (i:=25) (fuel:=12) d6 rfl (λw' B=>cU (v:=Y s.cJ) rfl isAgg3 d6.e (cK B rfl)) f λd7=>?_;refine dT (i:=26) (fuel:=11) d7 rfl (λw' _=>cL rfl d7.e) f λd8=>?_;refine dT (i:=27) (fuel:=10) d8 rfl (λw' _=>fc (p:=⟨p,0,none⟩) rfl d8.e) f λd9=>?_;refine dT (i:=28) (fuel:=9) d9 rfl (λw' _=>cR (i:=0) (g:=p) (k:=0) underlying102 rfl sizeOf96 (by decide) rfl d9.e) f λec=>?_;refine dT (i:=29) (fuel:=8) ec rfl (λw' _=>cR (i:=0) (g:=p) (k:=0) underlying96 rfl sizeOf94 (by decide) rfl ec.e) f λeg=>?_;refine dT (i:=30) (fuel:=7) eg rfl (λw' B=>cU (v:=ab ph) rfl isAgg94 eg.e (cK B rfl)) f λeh=>?_;refine dT (i:=31) (fuel:=6) eh rfl (λw' _=>cL rfl eh.e) f λek=>?_;refine mM (i:=32) (fuel:=5) ek (by kernel_rfl) rfl rfl rfl (by decide) rfl func84 (by kernel_rfl) (by kernel_rfl) (vs:=#[ab ph,Y 0]) (by simp[ek.eval];exact⟨rfl,rfl⟩) ((G1 x2 ⟨ok.now,ok.cJ,ok.begun,ok.up,ok.bU,ok.cE,ok.key,λn t e=>have o:=ok.tx n t e;⟨o.num,o.ft,o.nw,o.keys,o.pos,o.oT⟩,ok.nm,ok.nv,ok.mW,ok.jQ,ok.sy⟩ 0 R).mono λx W hh=>?_);obtain⟨en,ks,rfl,bA,bq,eu,k3⟩:=hh;have lp:p<w2.heap.size:=bX f;have an:=(k3.block p lp id).trans f;refine⟨en,rfl,an,λfd C=>?_⟩;have e3:eX w2.heap.size W en (dw s 0 ks):=eu;have eW:ks.Nodup:=bA.imp λ{a b} eD e=>by subst e;exact List.lt_irrefl _ eD
 have fb:=R ks eW λk hk=>(bq k).1 hk
 obtain⟨pe,ce,bm⟩:=eM e3;refine ir (i:=33) (fuel:=4) C (by kernel_rfl) rfl rfl rfl (by decide) (Hq (i:=0) (j:=(s.now.toNat:Int)) (k:=(s.cJ.toNat:Int)) rfl C.e (C.e.trans (by show Y s.now=_;rw[Int.toNat_of_nonneg ok.now.1])) (C.e.trans (by show Y s.cJ=_;rw[Int.toNat_of_nonneg ok.cJ.1])) (C.e.trans bm)) an λfj el=>?_;refine mM (i:=34) (fuel:=3) el (by kernel_rfl) rfl rfl rfl (by decide) rfl func83 (by kernel_rfl) (by kernel_rfl) (vs:=#[.agg #[Y ((0:Nat):Int),Y (s.now.toNat:Int),Y (s.cJ.toNat:Int),.slice pe (dw s 0 ks).length ce]]) (by simp[el.eval];rfl) ((Qx (w:=W) (p:=pe) (c:=ce) (since:=0) (upto:=s.now.toNat) (floor:=s.cJ.toNat) (n:=(dw s 0 ks).length) (by omega) (by have:=ok.now;omega) (by have:=ok.now;have:=ok.cJ;omega) (by omega)).mono λx N hh=>?_);obtain⟨r,P,rfl,fz,bl,ad,e6,k4⟩:=hh;have z3:w2.heap.size<=W.heap.size:=k3.size;have a1:=(k4.block p (by omega) id).trans an;refine⟨_,rfl,a1,λfk ba=>?_⟩;refine ir (i:=35) (fuel:=2) ba (by kernel_rfl) rfl rfl rfl (by decide) (Hp (i:=s.cJ) (p:=some ⟨r,0,none⟩) rfl (ba.e.trans (by show Y (max 0 s.cJ)=_;rw[Int.max_eq_right ok.cJ.1])) ba.e) a1 λfm eo=>?_;have y:(N.alloc (.cells (Value.agg #[Y s.cJ,ab r]).cells 151)).heap[N.heap.size]?=some (.cells #[Y s.cJ,ab r] 151):=bI N _;have U:An N (N.alloc (.cells (Value.agg #[Y s.cJ,ab r]).cells 151)):=Kp.al _ _ _;have z4:W.heap.size<=N.heap.size:=k4.size;have a3:=(U.block p (by omega) id).trans a1;refine ir (i:=36) (fuel:=1) eo (by kernel_rfl) rfl rfl rfl (by decide) (jl (v:=.agg #[Y s.cJ,ab r]) rfl eo.e) a3 λfp D=>?_;generalize N.alloc (.cells (Value.agg #[Y s.cJ,ab r]).cells 151)=w5 at y U a3 ⊢;have kt:An w2 w5:=k3.t (k4.t U);have fs:s.bk.mu<w2.heap.size:=(x2.gV.ll).lt;have ev:cH w5 prog 3 s.bk.mu s.bk.nb (encI λn=>(s.bk.un n).map λb=>ab b.pb):=kt.cH x2.gV.ll id;obtain⟨w6,bB,ew,e5⟩:=ev.store jP underlying100 (by unfold maxLen;omega) (key:=Y (IntKind.i64.wrap (s.bk.taken+1))) (keyOf_int_mk underlying3 (wf_wrap _)) (ab N.heap.size) (Es _ _ _);have k6:Kp (λb=>b=s.bk.mu) w5 w6:=Kp.ml e5 rfl;have a4:=(k6.block p (by have:=kt.size;omega) b3).trans a3;refine pC (i:=37) (fuel:=0) (by kernel_rfl) rfl rfl rfl (NO rfl D.e D.e D.e bB) a4 ?_;refine wpAnyH_done (by kernel_rfl) ?_ 0;refine sR ?_;refine wS D (cL rfl D.e) λer=>?_;refine wS er (fc (p:=⟨p,0,none⟩) rfl er.e) λes=>?_;refine wS es (cR (i:=4) (g:=p) (k:=0) underlying102 rfl sizeOf3 (by decide) rfl es.e) λbb=>?_;refine iI rfl (cU (v:=Y (IntKind.i64.wrap (s.bk.taken+1))) rfl isAgg3 bb.e (cK a4 rfl)) ?_;have e8:=bb.bit (Y (IntKind.i64.wrap (s.bk.taken+1)));refine wS e8 (di (v:=Y (IntKind.i64.wrap (s.bk.taken+1))) rfl (bb.last _)) λfa=>?_;refine wS fa (di (v:=Y 0) rfl rfl) λbe=>bG ?_;have ha:∀b,w2.heap.size<=b->b≠s.bk.mu:=λb hb e=>by omega
 have am:w6.heap[N.heap.size]?=_:=(k6.block _ (bX y) (ha _ (by omega))).trans y;have bS:=bX bl;have ez:w6.heap[r]?=_:=(k6.block r (by have:=U.size;omega) (ha _ (by omega))).trans ((U.block r bS id).trans bl);have et:BA W.heap.size w6 P _:=(ad.kept U).kp k6 λb hb e=>by have:=(ad.1.lt b hb).1;exact ha b (by omega) e
 obtain⟨g0,eP,bf⟩:=e3.rd;have eQ:∃g,fP W en (dw s 0 ks) g/\g<W.heap.size/\g≠s.bk.mu:=by
  by_cases bv:dw s 0 ks=[]
  .obtain⟨p0,c0,h1,_⟩:=bf;exact⟨p,⟨p0,c0,h1,λhh=>bx bv hh⟩,by omega,b3⟩
  .have:=e3.lt g0 (eP bv);exact⟨g0,bf,this.2,ha _ this.1⟩
 obtain⟨g,ex,fq,eV⟩:=eQ;have ey:fP w6 en (dw s 0 ks) g:=((ex.kp k4 id).kp U id).kp k6 eV;have bp:∀b,P.ownBlock=some b->W.heap.size<=b/\b<N.heap.size:=λb hb=>ad.1.lt b hb
 refine wp_ret ⟨be.d,.tuple #[Y (IntKind.i64.wrap (s.bk.taken+1)),Y 0],?_,N.heap.size,r,g,P,en,ks,_,rfl,bA,bq,by omega,by omega,am,by rw[bm];exact ez,et.mono (by omega),ey,e6,λe=>?_,by omega,by omega,λe=>?_,?_,a4,ew,?_⟩
 .rw[results_tmp2 (t:=4) (u:=5) rfl];simp only[be.v 4 (by decide),be.v 5 (by decide)]
  rfl
 .have:=bp _ e;omega
 .have:=bp _ e;omega
 .have:=U.size;have:=k6.size;omega
 .exact((k1.mono λ_ _ e=>.inl e).trans (k2.mono λ_ _ e=>e.elim) λ_ _ e=>e).trans ((kt.mono λ_ _ e=>e.elim).trans (k6.mono λ_ _ e=>.inr e) λ_ _ e=>e) λ_ _ e=>e
end
def pV (N:Nat)(e:Nat->D):Ae->Option D
 |.tmp t=>bif Nat.blt t N then some (e t)else none
 |.const v=>some v
 |_=>none
def pO (N:Nat)(e:Nat->D):Op->Option D
 |.move x=>pV N e x
 |.assign x=>pV N e x
 |.extract x i=>match pV N e x with
  |some (.tuple c)=>c[i]?
  |_=>none
 |.nilCheck x=>match pV N e x with
  |some (.pointer (some p))=>some (.pointer (some p))
  |_=>none
 |.pick c x y=>match pV N e c with
  |some (.bool true)=>pV N e x
  |some (.bool false)=>pV N e y
  |_=>none
 |_=>none
def pG (N:Nat)(ops:Am)(e:Nat->D)(o:Oper):Option (Nat × D):=
 match o.dst with
 |none=>none
 |some d=>bif Nat.blt d N then match o.guard with
  |none=>(pO N e o.op).map λv=>(d,v)
  |some (j,b)=>match(ops[j]?).bind (·.dst)with
   |none=>none
   |some a=>bif Nat.blt a N then match e a with
    |.bool c=>bif c == b then(pO N e o.op).map λv=>(d,v)else some (d,undef)
    |_=>none
    else none
  else none
def pL (N:Nat)(ops:Am):Nat->(Nat->D)->List Oper->Option ((Nat->D) × List Oper)
 |0,e,r=>some (e,r)
 |k+1,e,o::r=>match pG N ops e o with
  |some (d,v)=>pL N ops k (upd e d v) r
  |none=>none
 |_+1,_,[]=>none
def qx {a b:Nat}(h:Nat.blt a b=true):a<b:=by simpa [Nat.blt_eq]using h
def xU{α:Type}{b:Bool}{x:Option α}{y:α}(h:(bif b then x else none)=some y):b=true/\x=some y:=by
 cases b
 .cases h
 .exact⟨rfl,h⟩
section
variable {P:Ad}{Post:Exit->Act->Z->Prop}{ops:Am}{a:Act}{w:Z}{o:Oper}{r:List Oper}{N:Nat}{e:Nat->D}
def oJ (h:bY N a e){x:Ae}{v:D}(hp:pV N e x=some v):a.eval x=v:=by
 cases x with
 |tmp t=>obtain⟨f,g⟩:=xU hp;cases g;exact h.eval (qx f)
 |const c=>cases hp;rfl
 |_=>cases hp
def D8 (h:bY N a e){v:D}(hp:pO N e o.op=some v):(execOp a.eval o).run P w = .ok (.value v) w:=by
 cases f:o.op with
 |move x=>rw[f]at hp;exact cL f (oJ h hp)
 |assign x=>rw[f]at hp;exact di f (oJ h hp)
 |extract x i=>
  rw[f]at hp;unfold pO at hp;dsimp only at hp;split at hp
  .rename_i c g
   exact zD f (oJ h g) hp
  .cases hp
 |nilCheck x=>
  rw[f]at hp;unfold pO at hp;dsimp only at hp;split at hp
  .rename_i p g
   cases hp;exact fc f (oJ h g)
  .cases hp
 |pick c x y=>
  rw[f]at hp;unfold pO at hp;dsimp only at hp;split at hp
  .rename_i g
   exact oL f (oJ h g) (oJ h hp)
  .rename_i g
   exact rj f (oJ h g) (oJ h hp)
  .cases hp
 |_=>rw[f]at hp;cases hp
def Q4 {d:Nat}{v:D}(h:bY N a e)(hp:pG N ops e o=some (d,v))(next:∀{a'},bY N a' (upd e d v)->wpList P ops Post r a' w):wpList P ops Post (o::r) a w:=by
 unfold pG at hp;split at hp
 .cases hp
 .rename_i U C
  obtain⟨l,hp⟩:=xU hp;split at hp
  .rename_i g
   obtain⟨S,y,B⟩:=aB.1 hp;cases B;exact du h g C (qx l) (D8 h y) λa' s=>next s
  .rename_i j b g
   split at hp
   .cases hp
   .rename_i W R
    obtain⟨M,hp⟩:=xU hp;split at hp
    .rename_i c Q
     cases f:c == b with
     |true=>rw[f]at hp;obtain⟨S,y,B⟩:=aB.1 hp;cases B;exact oV h g R (qx M) (by rw[Q,eq_of_beq f]) C (qx l) (D8 h y) λa' s=>next s
     |false=>rw[f]at hp;cases hp;exact oW h g R (qx M) (by rw[Q];congr 1;revert f;cases c<;>cases b<;>simp) C (qx l) λa' s=>next s
    .cases hp
def wX (k:Nat){f:Nat->D}{g:List Oper}(h:bY N a e)(hp:pL N ops k e r=some (f,g))(next:∀{a'},bY N a' f->wpList P ops Post g a' w):wpList P ops Post r a w:=by
 induction k generalizing e r a with
 |zero=>cases hp;exact next h
 |succ k l=>
  cases r with
  |nil=>cases hp
  |cons o r=>
   unfold pL at hp;split at hp
   .rename_i d v j
    exact Q4 h j λs=>l s hp
   .cases hp
end
def bY.nm {N:Nat}{a:Act}{e:Nat->D}(h:bY N a e)(t:Nat){v:D}(f:e t=v):bY N a (upd e t v):=by
 have:upd e t v=e:=by
  funext i
  unfold upd;split
  .rename_i g;rw[g,f]
  .rfl
 rw[this];exact h
def FA {w:Z}{p:Nat}{c:Ak}{t:Af}(i:Nat)(v:D)(h:w.heap[p]?=some (.cells c t (0,0))):∃w1,w.setCell ⟨p,i,none⟩ v=w1/\w1.heap[p]?=some (.cells (c.setIfInBounds i v) t (0,0))/\Kp (λb=>b=p) w w1:=⟨_,rfl,kg v h,Kp.sc _ _ _ rfl⟩
def nj {P:Ad}{ρ:Ae->D}{o:Oper}{x y:Ae}{w:Z}{t e:Af}{g n c i:Nat}(h:P.underlying t=some (.slice e))(r:∀w,(sizeOf e).run P w = .ok 1 w)(a:o.op = .indexAddr t x y)(j:ρ x = ag g n c)(l:ρ y = Y i)(f:i<n):(execOp ρ o).run P w = .ok (.value (.pointer (some ⟨g,i,none⟩))) w:=by
 have:=kY (w:=w) h r a j l f
 rwa [Nat.one_mul,ao]at this
def dV{t:Af}{d:TypeDesc}(h:prog.underlying t=some d):(cj prog).underlying t=some d:=qu h
def oN{t:Af}{b:Bool}(h:∀w,(isAgg t).run prog w = .ok b w)(w:Z):(isAgg t).run (cj prog) w = .ok b w:=pI (F:=dH prog) h w
section
variable {P:Ad}{ρ:Ae->D}{o:Oper}{x y z:Ae}{w:Z}
def NG{t k e:Af}{b:Nat}{f:D->Option D}{zv key v:D}{B:Lit}(a:o.op = .lookup t x y true)(j:ρ x = .map (some b))(l:ρ y=key)(h:cH w P k b n f)(K:Keyed P k)(ht:P.underlying t=some (.map k e))(r:(zeroValue e).run P w = .ok zv w)(g:keyOf P k key=some B)(hv:f key=some v):(execOp ρ o).run P w = .ok (.value (.tuple #[v,.bool true])) w:=by have:=h.look true K ht r g;rw[hv]at this;simp[execOp,a,j,l,this]
def ic{t:Af}{b:Bool}(a:o.op = .unOp .not t x)(f:ρ x = .bool b):(execOp ρ o).run P w = .ok (.value (.bool (!b))) w:=by simp[execOp,a,f,Op.unary]
def Nw {t k:Af}{m key:D}{w':Z}(a:o.op = .call ⟨.builtin .delete,#[x,y],#[t,k]⟩)(f:ρ x=m)(g:ρ y=key)(h:(Builtin.delete_ #[t,k] o.type #[m,key]).run P w = .ok (.tuple #[]) w'):(execOp ρ o).run P w = .ok (.value (.tuple #[])) w':=by simp[execOp,a,f,g,resolve,invoke,builtin,h]
end
def bY.Dd{N d:Nat}{a:Act}{e:Nat->D}(h:bY N a e)(f:d≠N)(y z:D):((a.put (some N) y).put (some d) z).eval (.tmp N)=y:=by show Array.getD _ N undef=_;simp only[Act.put,aU];rw[aS f];simp[h.s]
def zy{a:Act}{o:Oper}{y:D}{w w':Z}(ht:ej w)(g:ig prog o.op=true)(j:∀c f,o.op = .call c->c.callee≠.value (.func f))(h:(execOp a.eval o).run prog w = .ok (.value y) w'):(execOp a.eval o).run (cj prog) w = .ok (.value y) w'/\ej w':=
 Nh ht (λ_=>rfl) (λ_=>rfl) g j (λ_ _ e=>by cases e) h
def Rk{Post:Exit->Act->Z->Prop}{ops:Am}{a:Act}{w w1:Z}{o:Oper}{r:List Oper}{y:D}(ht:ej w)(C:o.guard=none)(j:o.dst=none)(g:ig prog o.op=true)(B:∀c f,o.op = .call c->c.callee≠.value (.func f))(h:(execOp a.eval o).run prog w = .ok (.value y) w1)(next:ej w1->wpList (cj prog) ops Post r a w1):wpList (cj prog) ops Post (o::r) a w:=by have l:=zy ht g B h;refine iI C l.1 ?_;rw[j];exact next l.2
def Ot{base p mu:Nat}{cs:Ak}{nd M en:D}{hb:Aj}{id cn:Int}{es:List cO}{f:Int->Option D}{w:Z}(ht:ej w)(hT:db w)(hp:w.heap[p]?=some (.cells cs 102 (0,0)))(h9:cs[9]?=some (.map (some mu)))(hM:cH w prog 3 mu n (encI f))(hid:(Lit.int .i64 id).wf=true)(hf:f id=some (ab l))
  (ba:w.heap[l]?=some (.cells #[nd,ab q] 151 (0,0))) (bf:w.heap[q]?=some (.cells #[M,en,.int .u32 0] 232 (0,0))) (hA:BA base w M hb) (hR:fP w en es g) (be:M.ownBlock≠some q) (bb:q≠g) (hg:M.ownBlock≠some g) (a7:g<w.heap.size)
  (cm:2<=base) (ci:p<base) (ck:mu<base) (cl:base<=q) (hn:es.length<1099511627776) (hm:∀x∈es,x.bU<4294967296) (hl:hb.length+j4 es<=100000000) (a4:base<=w.heap.size) (a8:cn<9223372036854775808) (C:es.length<=cn.toNat) :
  Calls (cj prog) 49 #[ab p,Y id,Y cn] w λe w'=>∃v',e = .returned (.tuple #[v',.bool true,Y 0])/\BR base w' v' (cQ (hb++dp es))/\Kp (λb=>base<=b\/b=mu) w w'/\ej w':=by
 refine cW (qf (f:=49) rfl func49) rfl ntmps49 λa0 s0=>?_;refine sR ?_;refine wX 3 s0 rfl λs3=>bG ?_;refine sR ?_;refine wX 1 s3 rfl λs4=>?_;refine wX 1 s4 rfl λs5=>?_;refine wS s5 (cR (i:=5) (g:=p) (k:=0) (dV underlying102) rfl (ei sizeOf100) (by decide) rfl s5.e) λs6=>?_;refine wS s6 (cU (v:=.map (some mu)) rfl (oN isAgg100) s6.e (cK hp h9)) λs7=>?_;refine wX 1 s7 rfl λs8=>?_;refine wS s8 ((zy (y:=.tuple #[ab l,.bool true]) ht (by kernel_rfl) (λ_ _ e=>by cases e) (NG (key:=Y id) rfl s8.e s8.e hM jP underlying100 (zeroValue148 w) (keyOf_int_mk underlying3 hid) hf)).1) λs9=>?_;refine wX 1 s9 rfl λbp=>?_;refine wX 1 bp rfl λbq=>?_;refine wX 1 bq rfl λbv=>?_;refine wX 1 bv rfl λbw=>?_;refine wX 1 bw rfl λbA=>bG ?_;refine bO (bO (bF ?_));refine wX 1 bA rfl λP=>?_;refine wS P (ic (b:=true) rfl P.e) λQ=>bG ?_;refine bL Q.e (bQ ?_);refine sR ?_;refine wX 1 Q rfl λbB=>?_;refine wX 1 bB rfl λR=>?_;refine wS R (cR (i:=1) (g:=l) (k:=0) (dV underlying151) rfl (ei sizeOf149) (by decide) rfl R.e) λS=>?_;refine wS S (cU (v:=ab q) rfl (oN isAgg149) S.e (cK ba rfl)) λbS=>?_;refine wX 1 bS rfl λU=>?_;have a:∀b,M.ownBlock=some b->base<=b:=λb e=>(hA.1.lt b e).1
 refine wC U rfl (qf (f:=85) rfl func85) (vs:=#[ab q,Y cn]) (by simp[U.eval];exact⟨rfl,rfl⟩) ((Oq ht hT bf hA hR be bb hg a7 (by omega) (λb e=>by have:=a b e;omega) hn hm hl a4 a8 C).mono λx w1 hh=>?_);obtain⟨v1,rfl,B,k1,t1⟩:=hh;refine⟨_,rfl,λcg b3=>?_⟩;have lp:p<w.heap.size:=bX hp;have bm:Kp (λb=>base<=b\/b=mu) w w1:=k1.mono λb _ e=>.inl (e.elim (λe=>by omega) (a b))
 have a9:=(k1.block p lp (λe=>e.elim (λe=>by omega) λe=>by have:=a p e;omega)).trans hp;have a3:cH w1 prog 3 mu n (encI f):=k1.cH hM (λe=>e.elim (λe=>by omega) λe=>by have:=a mu e;omega);refine wX 1 b3 rfl λb5=>?_;refine wX 1 b5 rfl λb6=>?_;refine wX 1 b6 rfl λb7=>?_;refine wX 1 b7 rfl λca=>?_;refine wX 1 ca rfl λcb=>bG ?_;refine bO (bO (bF ?_));refine wX 1 cb rfl λW=>bG ?_;refine bM W.e ?_;refine bF ?_;refine wX 1 W rfl λcc=>?_;refine wX 1 cc rfl λad=>?_;refine wS ad (cR (i:=5) (g:=p) (k:=0) (dV underlying102) rfl (ei sizeOf100) (by decide) rfl ad.e) λam=>?_;refine wS am (cU (v:=.map (some mu)) rfl (oN isAgg100) am.e (cK a9 h9)) λcd=>?_;refine wX 1 cd rfl λo=>?_;obtain⟨w2,N,ch,bl⟩:=a3.drop jP underlying100 (key:=Y id) (keyOf_int_mk underlying3 hid) 2 (BW _ _);refine Rk (y:=.tuple #[]) t1 rfl rfl (by kernel_rfl) (λ_ _ e=>by cases e;intro h;cases h) (Nw (m:=.map (some mu)) (key:=Y id) rfl o.e o.e N) λt2=>bG ?_;have k2:Kp (λb=>b=mu) w1 w2:=Kp.ml bl rfl;have a1:BR base w2 v1 _:=B.kp k2 λb hb e=>by have:=(B.lt b hb).1;omega
 refine sR ?_;refine wX 1 o rfl λr=>?_;refine iI rfl (cL (v:=.bool true) rfl r.e) ?_;have an:=r.bit (.bool true);refine iI rfl (di (v:=v1) rfl an.e) ?_;have ce:=an.put (d:=6) (by decide) v1;refine wS ce (di (v:=.bool true) rfl (r.Dd (by decide) _ _)) λcf=>?_;refine wX 1 cf rfl λj=>bG ?_;refine wp_ret ⟨j.d,.tuple #[v1,.bool true,Y 0],?_,v1,rfl,a1,bm.trans (k2.mono λ_ _ e=>.inr e) λ_ _ e=>e,t2⟩;rw[results_tmp3 (t:=6) (u:=7) (v:=8) rfl];simp only[j.v 6 (by decide),j.v 7 (by decide),j.v 8 (by decide)]
 rfl
def P5 (i:Nat):js 48 i=0:=by rfl
def pP{P:Ad}{ρ:Ae->D}{o:Oper}{x y:Ae}{w w':Z}{s t:Af}{u v v':D}(a:o.op = .call ⟨.builtin .append,#[x,y],#[s,t]⟩)(f:ρ x=u)(g:ρ y=v)(h:(Builtin.append_ #[s,t] o.type #[u,v]).run P w = .ok v' w'):(execOp ρ o).run P w = .ok (.value v') w':=by simp[execOp,a,f,g,resolve,invoke,builtin,h]
def tj (a b c d:Nat):(eC a b c d).length=19:=by simp[eC,eG]
def mC{Post:Exit->Act->Z->Prop}{ops:Am}{a:Act}{w w1:Z}{o:Oper}{r:List Oper}{y:D}{N d:Nat}{e:Nat->D}(P:bY N a e)(ht:ej w)(M:o.guard=none)(j:o.dst=some d)(C:d<N)(g:ig prog o.op=true)(B:∀c f,o.op = .call c->c.callee≠.value (.func f))(h:(execOp a.eval o).run prog w = .ok (.value y) w1)(next:∀a',bY N a' (upd e d y)->ej w1->wpList (cj prog) ops Post r a' w1):wpList (cj prog) ops Post (o::r) a w:=by have l:=zy ht g B h;exact du P M j C l.1 λa' Q=>next a' Q l.2
def GZ {s:XS}(ok:dj s){ks:List Ac}{t:Int}{x:cO}(f:x∈dw s t ks):x.bU<=2000:=by obtain⟨k,_,a⟩:=List.mem_flatMap.1 f;obtain⟨m,hm,rfl⟩:=aK.1 a;have g:=ok.bU k m (List.mem_of_mem_drop hm);have h:=ok.now;show m.toNat<=2000;omega
section
variable {own:Nat->da}{c:Nat}{w w':Z}{p:Nat}{s:XS}{mo ph mv mm:Nat}{pt mw:Int->Nat}{sl:Ac->D}
def Oj {x y z:D}(h:XR own c w p s mo ph mv mm pt mw sl)(ok:dj s)(ht:ej w)(hT:db w)(hN:fG own c)(bq:s.bk.nb<3)(Q:∀ks:List Ac,ks.Nodup->(∀k∈ks,s.bU k≠[])->(dw s 0 ks).length<=5000/\j4 (dw s 0 ks)<=10000000) :
  Calls (cj prog) 23 #[.pointer (some ⟨p,0,none⟩),.int .i64 0,.int .i64 5000,.agg #[x,y,z]] w λe w'=>∃v ks,e = .returned v/\ks.Pairwise blt/\(∀k,k∈ks↔s.bU k≠[])/\BA w.heap.size w' v (cQ (eC 0 s.now.toNat s.cJ.toNat (dw s 0 ks).length++dp (dw s 0 ks)))/\
   w'.heap[p]?=some (.cells #[.pointer (some ⟨ph,0,none⟩),.int .i64 s.cJ,.int .i64 s.now,s.log.lf,.int .i64 (gQ s.log.lg.length:Nat),.int .i64 (s.log.sy:Nat),.int .i64 s.begun,.map (some mo),.int .i64 (IntKind.i64.wrap (s.bk.taken+1)),.map (some s.bk.mu)] 102 (0,0))/\Kp (λb=>b=p\/b=s.bk.mu) w w'/\ej w':=by
 refine cW (qf (f:=23) rfl func23) rfl ntmps23 λa0 s0=>?_;refine sR ?_;have N:ej (w.alloc (.cells (Value.agg #[x,y,z]).cells 31)):=ht.push (o:=.cells _ 31) trivial;refine wS s0 (jl (v:=.agg #[x,y,z]) rfl s0.e) λs1=>?_;have k0:An w (w.alloc (.cells (Value.agg #[x,y,z]).cells 31)):=Kp.al _ _ _;generalize w.alloc (.cells (Value.agg #[x,y,z]).cells 31)=w0 at k0 N s1 ⊢;refine wX 1 s1 rfl λs2=>bG ?_;have x0:=h.kept k0;have nT:∀b,b<2->¬(b=p\/b=s.bk.mu):=λb hb e=>by
  have e1:(own b).c=c:=by
   rcases e with e|e
   .rw[e,h.dc]
   .rw[e,h.gV.lH]
  rcases(by omega:b=0\/b=1)with rfl|rfl
  .exact hN.1 e1
  .exact hN.2 e1
 have bS:p≠s.bk.mu:=λe=>by have:=h.dc;rw[e,h.gV.lH]at this;simp at this
 have bm:=gM (f:=48) (by decide) func48 P5 N ((RU x0 ok bq λks a b=>by have:=(Q ks a b).1;omega).mono (R':=λe w'=>∃x,e = .returned x/\∃pb B g M en ks n,x = .tuple #[.int .i64 (IntKind.i64.wrap (s.bk.taken+1)),.int .i64 0]/\ks.Pairwise blt/\(∀k,k∈ks↔s.bU k≠[])/\
   w0.heap.size<=pb/\w0.heap.size<=B/\w'.heap[pb]?=some (.cells #[.int .i64 s.cJ,.pointer (some ⟨B,0,none⟩)] 151 (0,0))/\w'.heap[B]?=some (.cells #[M,en,.int .u32 0] 232 (0,0))/\
   BA w0.heap.size w' M (eC 0 s.now.toNat s.cJ.toNat (dw s 0 ks).length)/\fP w' en (dw s 0 ks) g/\M.ownBlock≠some B/\M.ownBlock≠some pb/\B≠pb/\B≠g/\M.ownBlock≠some g/\g<w'.heap.size/\
   w'.heap[p]?=some (.cells #[.pointer (some ⟨ph,0,none⟩),.int .i64 s.cJ,.int .i64 s.now,s.log.lf,.int .i64 (gQ s.log.lg.length:Nat),.int .i64 (s.log.sy:Nat),.int .i64 s.begun,.map (some mo),.int .i64 (IntKind.i64.wrap (s.bk.taken+1)),.map (some s.bk.mu)] 102 (0,0))/\
   cH w' prog 3 s.bk.mu n (encI (cN (λn=>(s.bk.un n).map λb=>.pointer (some ⟨b.pb,0,none⟩)) (IntKind.i64.wrap (s.bk.taken+1)) (some (.pointer (some ⟨pb,0,none⟩)))))/\
   Kp (λb=>b=p\/b=s.bk.mu) w0 w') λe w' U=>by
  obtain⟨pb,B,g,M,en,ks,n,h1,h2⟩:=U;exact⟨_,h1,pb,B,g,M,en,ks,n,rfl,h2⟩)
 refine sR ?_;refine wX 1 s2 rfl λs3=>?_;refine wX 1 s3 rfl λs4=>?_;refine wC s4 rfl (qf (f:=48) rfl func48) (vs:=#[.pointer (some ⟨p,0,none⟩),.int .i64 0]) (by simp[s4.eval];exact⟨rfl,rfl⟩) (bm.mono λx w1 U=>?_);obtain⟨_,rfl,⟨pb,B,g,M,en,ks,n,rfl,Z,W,b1,b2,bA,bB,hA,hR,n1,n2,n3,n4,n5,bp,Y,bb,k1⟩,t1⟩:=U;refine⟨_,rfl,λa5 s5=>?_⟩;refine wX 1 s5 rfl λs6=>?_;refine wX 1 s6 rfl λs7=>?_;refine wX 1 s7 rfl λs8=>?_;refine wX 1 s8 rfl λs9=>?_;refine wX 1 s9 rfl λb3=>bG ?_;refine bO (bO (bF ?_));refine wX 1 b3 rfl λad=>?_;refine wS ad (rh (i:=0) (j:=0) rfl ad.e rfl) λam=>bG ?_;refine bL am.e (bQ ?_);refine sR ?_;refine wX 1 am rfl λb5=>bG ?_;refine bO (bO (bF ?_));refine wX 1 b5 rfl λb6=>bG ?_;refine wp_block (wp_loop_once ?_);refine bO (bO (bF ?_));refine wX 1 b6 rfl λan=>?_;refine wS an (fT (i:=0) (j:=2000) rfl an.e rfl) λa1=>bG ?_;refine bM a1.e (bQ ?_);refine bO (wp_block ?_);refine sR ?_;refine wX 1 a1 rfl λb7=>?_;refine wX 1 b7 rfl λca=>?_;refine wX 1 ca rfl λa3=>?_;have bv:ks.Nodup:=Z.imp λ{a b} bl e=>by subst e;exact List.lt_irrefl _ bl
 have cu:=Q ks bv λk hk=>(W k).1 hk
 have be:=hT.kept k0;have bf:db w1:=be.kp k1 (nT 0 (by omega)) (nT 1 (by omega));have lp:p<w.heap.size:=bX h.store;have lm:s.bk.mu<w.heap.size:=h.gV.ll.lt;have z0:=k0.size;have z1:=k1.size;have lT:=hT.lt;refine wC a3 rfl (qf (f:=49) rfl func49) (vs:=#[.pointer (some ⟨p,0,none⟩),.int .i64 (IntKind.i64.wrap (s.bk.taken+1)),.int .i64 5000]) (by simp[a3.eval];exact⟨rfl,rfl,rfl⟩) ((Ot (base:=w0.heap.size) t1 bf Y rfl bb (wf_wrap _) (if_pos rfl) bA bB hA hR n1 n4 n5 bp (by omega) (by omega) (by omega) b2 (by omega) (λx hx=>by have:=GZ ok hx;omega) (by rw[tj];omega) z1 (by omega) (by show _<=5000;omega)).mono λx w2 U=>?_);obtain⟨v1,rfl,l,k2,t2⟩:=U;refine⟨_,rfl,λcv cb=>?_⟩;refine wX 1 cb rfl λcc=>?_;refine wX 1 cc rfl λcd=>?_;refine wX 1 cd rfl λce=>?_;refine wX 1 ce rfl λcf=>?_;refine wX 1 cf rfl λcg=>?_;refine wX 1 cg rfl λch=>?_;refine wX 1 ch rfl λci=>bG ?_;refine bO (bO (bF ?_));refine wX 1 ci rfl λa4=>?_;refine wS a4 (rh (i:=0) (j:=0) rfl a4.e rfl) λa7=>bG ?_;refine bL a7.e (bQ ?_);generalize S:cQ (eC 0 s.now.toNat s.cJ.toNat (dw s 0 ks).length++dp (dw s 0 ks))=bs at l;have cz:bs.length<=20000000/\0<bs.length:=by rw[<- S,cQ,aj,aj,tj,eG];have:=vo (dw s 0 ks);omega
 obtain⟨g2,c2,cq,r,cA,cr⟩:=iz l (by omega);obtain⟨cT,i1,i2,i3,i4⟩:=i5;obtain⟨v2,w3,C,ba,k3,_⟩:=oc (P:=prog) underlying48 i1 i2 i3 i4 48 (BA.nil w2.heap.size w2) ⟨g2,0,none⟩ c2 bs (λj u hj=>by rw[r]at l;rw[addr_add,ao];exact ng l j u hj) (by simp;omega) (aW _)
 replace r:_=Value.slice (some ⟨g2,0,none⟩) bs.length c2:=r
 rw[<- r]at C;refine sR ?_;refine wX 1 a7 rfl λck=>?_;refine wX 1 ck rfl λR=>?_;refine mC R t2 rfl rfl (by decide) (by kernel_rfl) (λ_ _ e=>by cases e;intro h;cases h) (pP (u:=.slice none 0 0) (v:=v1) rfl R.e R.e C) λcw cl t3=>?_;refine wX 1 cl rfl λcm=>bG ?_;refine bO (bO (bF ?_));refine wX 1 cm rfl λa8=>bG ?_;refine bM a8.e ?_;refine sR ?_;refine wX 1 a8 rfl λco=>?_;refine wX 1 co rfl λa9=>bG ?_;have kk:Kp (λb=>b=p\/b=s.bk.mu) w w3:=by
  have ka:Kp (λb=>b=p\/b=s.bk.mu) w w2:=((k0.mono λ_ _ e=>e.elim).trans k1 λ_ _ e=>e).trans k2 λb hb e=>by
   rcases e with e|e
   .omega
   .exact .inr e
  exact ka.trans (k3.mono λ_ _ e=>by cases e) λ_ _ e=>e
 have bw:=(k3.block p (by have:=k2.size;omega) (λe=>by cases e)).trans ((k2.block p (by omega) (λe=>e.elim (λe=>by omega) bS)).trans Y);refine wp_ret ⟨a9.d,v2,?_,v2,ks,rfl,Z,W,?_,bw,kk,t3⟩
 .rw[fo rfl];exact congrArg (λx=>Result.ok x _) (a9.v 8 (by decide))
 .rw[S];exact(ba).mono (by have:=k2.size;omega)
end
section
variable {P:Ad}{ρ:Ae->D}{o:Oper}{x y z:Ae}{w:Z}
def Eh{t h:Af}{cs:List D}{a:Ak}(M:∀w,(sizeOf t).run P w = .ok cs.length w)(l:o.op = .store t x y)(N:ρ x = .pointer (some ⟨g,k,none⟩))(Q:ρ y = .agg cs.toArray)(r:w.heap[g]?=some (.cells a h (0,0)))(C:k+cs.length<=a.size)(h1:∀v∈cs,v.oneCell'=true) :
  ∃w',(execOp ρ o).run P w = .ok .skip w'/\w'.heap[g]?=some (.cells (a.toList.take k++cs++a.toList.drop (k+cs.length)).toArray h (0,0))/\Kp (λb=>b=g) w w'/\w'.heap.size=w.heap.size:=by
 have f:=run_storeCells_at P g k h cs 0 a w r (by simpa using C) h1;simp only[Nat.add_zero]at f;refine⟨_,by simp[execOp,l,N,Q,Instr.storeAt,Instr.sureAddr,storeVar,M,Value.cells,f];rfl,?_,?_,by simp[World.setRow]⟩
 .simp[World.setRow,aV,r]
 .exact⟨rfl,rfl,rfl,by simp[World.setRow],λj _ B=>by simp[World.setRow,aV];intro e;exact bx e.symm B⟩
def jb{Post:Exit->Act->Z->Prop}{ops:Am}{a:Act}{r:List Oper}{t C:Af}{cs:List D}{f:Ak}(l:o.guard=none)(j:o.dst=none)(U:∀w,(sizeOf t).run P w = .ok cs.length w)(B:o.op = .store t x y)(W:a.eval x = .pointer (some ⟨g,k,none⟩))(Y:a.eval y = .agg cs.toArray)(R:w.heap[g]?=some (.cells f C (0,0)))(S:k+cs.length<=f.size)(h1:∀v∈cs,v.oneCell'=true)
  (next:∀w',w'.heap[g]?=some (.cells (f.toList.take k++cs++f.toList.drop (k+cs.length)).toArray C (0,0))->Kp (λb=>b=g) w w'->w'.heap.size=w.heap.size->wpList P ops Post r a w'):wpList P ops Post (o::r) a w:=by
 obtain⟨w',h,M,N,Q⟩:=Eh U B W Y R S h1;exact jL l j h (next w' M N Q)
def mj{t:Af}{a:Addr}{cs:List D}(f:∀w,(isAgg t).run P w = .ok true w)(l:∀w,(sizeOf t).run P w = .ok cs.length w)(h:∀j v,cs[j]?=some v->w.cell? (a.add j)=some v):(loadVar t a).run P w = .ok (.agg cs.toArray) w:=by have g:=run_loadCells_list (P:=P) (w:=w) a cs h;simp[loadVar,f,l,g]
def kM{cs:List D}{a:Af}{f:Nat × Nat}(h:w.heap[g]?=some (.cells cs.toArray a f))(j:Nat)(v:D)(l:cs[j]?=some v):w.cell? ((⟨g,0,none⟩:Addr).add j)=some v:=by rw[addr_add,ao];exact cK h (by simpa using l)
def iV{t:Af}{a:Addr}{cs:List D}(g:∀w,(isAgg t).run P w = .ok true w)(l:∀w,(sizeOf t).run P w = .ok cs.length w)(f:o.op = .load t x)(r:ρ x = .pointer (some a))(h:∀j v,cs[j]?=some v->w.cell? (a.add j)=some v):(execOp ρ o).run P w = .ok (.value (.agg cs.toArray)) w:=by simp[execOp,f,r,Instr.loadAt,Instr.sureAddr,mj g l h]
def Pg{tmps:Ak}{f:Af}{a:Addr}{v:D}(h:fn.results=#[.cell t f])(ht:tmps.getD t undef = .pointer (some a))(g:(loadVar f a).run P w = .ok v w):(Go.results fn tmps).run P w = .ok v w:=by rw[aU]at ht;simp[Go.results,h,ht,asAddr,g]
def oO{tmps:Ak}{u:Tmp}{f:Af}{a:Addr}{v:D}(h:fn.results=#[.cell t f,.tmp u])(ht:tmps.getD t undef = .pointer (some a))(g:(loadVar f a).run P w = .ok v w):(Go.results fn tmps).run P w = .ok (.tuple #[v,tmps.getD u undef]) w:=by rw[aU]at ht;simp[Go.results,h,ht,asAddr,g]
end
def RS.more (s:RS):Bool:=!s.wr && !s.bs.isEmpty
def RS.entry (s:RS):cO × RS:=(⟨s.key.1,s.key.2.four.1,s.key.2.four.2.cE.1.1,s.key.2.four.2.cE.1.2⟩,s.key.2.four.2.cE.2)
def Pj{r:Nat}{s:RS}{v:D}{w:Z}(h:dM w r s v g):Calls prog 190 #[ab r] w λe w'=>e = .returned (.bool s.more)/\w'=w:=by
 obtain⟨o,cap,rfl,bb,hc⟩:=h.rd;have hb:=h.blk;refine cW func190 rfl ntmps190 λa0 s0=>?_;refine sR ?_;refine wX 1 s0 rfl λU=>bG ?_;cases S:s.wr with
 |true=>
  rw[S]at hb;refine sR ?_;refine du U rfl rfl (by decide) (cL rfl U.e) λa2 M=>?_;refine du M rfl rfl (by decide) (fc (p:=⟨r,0,none⟩) rfl M.e) λa3 N=>?_;refine du N rfl rfl (by decide) (cR (i:=1) (g:=r) (k:=0) underlying303 rfl sizeOf4 (by decide) rfl N.e) λa4 P=>?_;refine du P rfl rfl (by decide) (cU (v:=.bool true) rfl isAgg4 P.e (cK hb rfl)) λa5 Q=>?_;refine du Q rfl rfl (by decide) (ic (b:=true) rfl Q.e) λa6 R=>?_;refine du R rfl rfl (by decide) (cL (v:=.bool false) rfl R.e) λa7 W=>?_;refine oW W rfl rfl (by decide) rfl rfl (by decide) λa8 Y=>?_;refine oW Y rfl rfl (by decide) rfl rfl (by decide) λa9 s9=>?_;refine oW s9 rfl rfl (by decide) rfl rfl (by decide) λad l=>?_;refine oW l rfl rfl (by decide) rfl rfl (by decide) λam y=>?_;refine oW y rfl rfl (by decide) rfl rfl (by decide) λan B=>?_;refine oW B rfl rfl (by decide) rfl rfl (by decide) λa1 a=>?_;refine iI rfl (rj (v:=.bool false) rfl a.e rfl) ?_;have C:=a.bit (.bool false);refine du C rfl rfl (by decide) (di (v:=.bool false) rfl (a.last _)) λba f=>bG ?_;refine wp_ret ⟨f.d,.bool false,?_,?_,rfl⟩
  .rw[fo rfl];exact congrArg (λx=>Result.ok x _) (f.v 2 (by decide))
  .show Ending.returned (.bool false) = .returned (.bool s.more);simp[RS.more,S]
 |false=>
  rw[S]at hb;refine sR ?_;refine du U rfl rfl (by decide) (cL rfl U.e) λa2 M=>?_;refine du M rfl rfl (by decide) (fc (p:=⟨r,0,none⟩) rfl M.e) λa3 N=>?_;refine du N rfl rfl (by decide) (cR (i:=1) (g:=r) (k:=0) underlying303 rfl sizeOf4 (by decide) rfl N.e) λa4 P=>?_;refine du P rfl rfl (by decide) (cU (v:=.bool false) rfl isAgg4 P.e (cK hb rfl)) λa5 Q=>?_;refine du Q rfl rfl (by decide) (ic (b:=false) rfl Q.e) λa6 R=>?_;refine du R rfl rfl (by decide) (cL (v:=.bool true) rfl R.e) λa7 W=>?_;refine oV W rfl rfl (by decide) rfl rfl (by decide) (cL rfl W.e) λa8 Y=>?_;refine oV Y rfl rfl (by decide) rfl rfl (by decide) (fc (p:=⟨r,0,none⟩) rfl Y.e) λa9 s9=>?_;refine oV s9 rfl rfl (by decide) rfl rfl (by decide) (cR (i:=0) (g:=r) (k:=0) underlying303 rfl sizeOf48 (by decide) rfl s9.e) λad l=>?_;refine oV l rfl rfl (by decide) rfl rfl (by decide) (cU (v:=.slice (some ⟨g,o,none⟩) s.bs.length cap) rfl isAgg48 l.e (cK hb rfl)) λam y=>?_;refine oV y rfl rfl (by decide) rfl rfl (by decide) (fK underlying48 rfl y.e) λan B=>?_;refine oV B rfl rfl (by decide) rfl rfl (by decide) (oK (i:=(s.bs.length:Nat)) (j:=0) rfl B.e rfl) λa1 a=>?_;refine iI rfl (oL (v:=.bool (decide ((s.bs.length:Int) > 0))) rfl a.e a.e) ?_;have C:=a.bit (.bool (decide ((s.bs.length:Int) > 0)));refine du C rfl rfl (by decide) (di (v:=.bool (decide ((s.bs.length:Int) > 0))) rfl (a.last _)) λba f=>bG ?_;refine wp_ret ⟨f.d,.bool (decide ((s.bs.length:Int) > 0)),?_,?_,rfl⟩
  .rw[fo rfl];exact congrArg (λx=>Result.ok x _) (f.v 2 (by decide))
  .show Ending.returned (.bool (decide ((s.bs.length:Int) > 0))) = .returned (.bool s.more);cases hl:s.bs<;>simp[RS.more,S,hl]<;>omega
def gl (bs:Aj):Option (Aj):=if bs.length<4 then none else(fe bs (bs.length-4)).map (·.1)
def QM{v:D}{bs:Aj}{w:Z}(h:eS w v bs g)(hT:db w)(a:bs.length<=100000):Calls prog 141 #[v] w λe w'=>∃v',e = .returned (.tuple #[v',.bool (gl bs).isSome])/\(∀l,gl bs=some l->l=bs.take (bs.length-4)/\g<w.heap.size/\cX w' v' l g)/\An w w':=by
 obtain⟨p,cap,rfl,a8,hc⟩:=id h;refine cW func141 rfl ntmps141 λa0 s0=>?_;refine sR ?_;refine wX 2 s0 rfl λs2=>bG ?_;refine bO (bO (bF ?_));refine wX 1 s2 rfl λs3=>?_;refine wS s3 (fK underlying48 rfl s3.e) λs4=>?_;refine wS s4 (fT (i:=(bs.length:Nat)) (j:=4) rfl s4.e rfl) λN=>bG ?_
 by_cases h4:bs.length<4
 .refine bM (by rw[N.eval (by decide)];show Value.bool (decide ((bs.length:Int)<4))=_;rw[decide_eq_true (by omega)]) ?_;refine sR ?_;refine du N rfl rfl (by decide) (di (v:=ae) rfl rfl) λa6 P=>?_;refine du P rfl rfl (by decide) (di (v:=.bool false) rfl rfl) λa7 y=>bG ?_;have e:gl bs=none:=by simp[gl,h4]
  refine wp_ret ⟨y.d,.tuple #[ae,.bool false],?_,ae,by rw[e];rfl,λl a=>(by rw[e]at a;cases a),Kp.refl _ _⟩;rw[results_tmp2 (t:=2) (u:=3) rfl];simp only[y.v 2 (by decide),y.v 3 (by decide)]
  rfl
 .refine bL (by rw[N.eval (by decide)];show Value.bool (decide ((bs.length:Int)<4))=_;rw[aY (by omega)]) (bQ ?_);refine sR ?_;refine du N rfl rfl (by decide) (cL (v:=.slice p bs.length cap) rfl N.e) λa6 P=>?_;refine du P rfl rfl (by decide) (cL (v:=.slice p bs.length cap) rfl P.e) λa7 y=>?_;refine wS y (fK underlying48 rfl y.e) λs8=>?_;refine wS s8 (rm (i:=(bs.length:Nat)) (j:=4) rfl s8.e rfl (by omega) (by omega)) λs9=>?_;have S:Calls prog 173 #[.slice p bs.length cap,Y ((bs.length-4:Nat):Int)] w λe w'=>∃f Q,e = .returned (.tuple #[f,Q,.bool (gl bs).isSome])/\(∀l,gl bs=some l->l=bs.take (bs.length-4)/\g<w.heap.size/\cX w' f l g)/\An w w':=
   FZ _ bs g (bs.length-4) w h hT (by omega) (by omega) (λe w' C=>by
    have B:gl bs=none:=by simp[gl,e]
    exact⟨ae,ae,by rw[B];rfl,λl a=>(by rw[B]at a;cases a),C⟩)
    (λf Q w' e hg r1 r2 C=>by
    have B:gl bs=some (bs.take (bs.length-4)):=by simp[gl,e,h4]
    exact⟨f,Q,by rw[B];rfl,λl a=>(by rw[B]at a;cases a;exact⟨rfl,hg,r1⟩),C⟩)
  refine wC s9 rfl func173 (vs:=#[.slice p bs.length cap,Y ((bs.length-4:Nat):Int)]) (by simp[s9.eval];exact⟨rfl,by show Y ((bs.length:Int)-4)=_;rw[Int.ofNat_sub (by omega)];rfl⟩) (S.mono λx w1 hh=>?_);obtain⟨f,Q,rfl,R,C⟩:=hh;refine⟨_,rfl,λa9 U=>?_⟩;refine wX 1 U rfl λW=>?_;refine wX 1 W rfl λad=>?_;refine wX 1 ad rfl λam=>?_;refine wX 1 am rfl λan=>?_;refine wX 1 an rfl λa1=>?_;refine wX 1 a1 rfl λa3=>bG ?_;refine sR ?_;refine wX 1 a3 rfl λo=>?_;refine iI rfl (cL (v:=.bool (gl bs).isSome) rfl o.e) ?_;have M:=o.bit (.bool (gl bs).isSome);refine iI rfl (di (v:=f) rfl M.e) ?_;have a4:=M.put (d:=2) (by decide) f;refine wS a4 (di (v:=.bool (gl bs).isSome) rfl (o.Dd (by decide) _ _)) λr=>bG ?_;refine wp_ret ⟨r.d,.tuple #[f,.bool (gl bs).isSome],?_,f,rfl,R,C⟩;rw[results_tmp2 (t:=2) (u:=3) rfl];simp only[r.v 2 (by decide),r.v 3 (by decide)]
  rfl
def Pd{r:Nat}{s:RS}{v:D}{w:Z}(h:dM w r s v g)(hl:s.bs.length<=1100000):Calls prog 191 #[ab r] w λe w'=>∃v',e = .returned (.agg #[.string s.entry.1.key,Y s.entry.1.bU,.string s.entry.1.val,.bool s.entry.1.del])/\dM w' r s.entry.2 v' g/\Kp (λb=>b=r) w w':=by
 refine cW func191 rfl ntmps191 λa0 s0=>?_;refine sR ?_;refine wS s0 (iC (v:=.agg #[.string ⟨#[]⟩,Y 0,.string ⟨#[]⟩,.bool false]) zeroValue171 rfl) λs1=>bG ?_;have b1:(w.alloc (.cells (Value.agg #[.string ⟨#[]⟩,Y 0,.string ⟨#[]⟩,.bool false]).cells 171)).heap[w.heap.size]?=some (.cells #[.string ⟨#[]⟩,Y 0,.string ⟨#[]⟩,.bool false] 171 (0,0)):=bI _ _;have k1:An w (w.alloc (.cells (Value.agg #[.string ⟨#[]⟩,Y 0,.string ⟨#[]⟩,.bool false]).cells 171)):=Kp.al _ _ _;have z1:(w.alloc (.cells (Value.agg #[.string ⟨#[]⟩,Y 0,.string ⟨#[]⟩,.bool false]).cells 171)).heap.size=w.heap.size+1:=by simp
 generalize w.alloc (.cells (Value.agg #[.string ⟨#[]⟩,Y 0,.string ⟨#[]⟩,.bool false]).cells 171)=l at b1 k1 z1 s1 ⊢;refine sR ?_;refine wS s1 (iC (v:=.agg #[.string ⟨#[]⟩,Y 0,.string ⟨#[]⟩,.bool false]) zeroValue171 rfl) λs2=>bG ?_;have b2:(l.alloc (.cells (Value.agg #[.string ⟨#[]⟩,Y 0,.string ⟨#[]⟩,.bool false]).cells 171)).heap[l.heap.size]?=some (.cells #[.string ⟨#[]⟩,Y 0,.string ⟨#[]⟩,.bool false] 171 (0,0)):=bI _ _;have C:An l (l.alloc (.cells (Value.agg #[.string ⟨#[]⟩,Y 0,.string ⟨#[]⟩,.bool false]).cells 171)):=Kp.al _ _ _;have z2:(l.alloc (.cells (Value.agg #[.string ⟨#[]⟩,Y 0,.string ⟨#[]⟩,.bool false]).cells 171)).heap.size=l.heap.size+1:=by simp
 generalize l.alloc (.cells (Value.agg #[.string ⟨#[]⟩,Y 0,.string ⟨#[]⟩,.bool false]).cells 171)=w2 at b2 C z2 s2 ⊢;have lr:r<w.heap.size:=bX h.blk;have lg:g<w.heap.size:=h.lt;have c2:=(C.block _ (by omega) id).trans b1;have h2:dM w2 r s v g:=(h.kp k1 id id).kp C id id;rw[z1]at b2 s2;refine sR ?_;refine wX 1 s2 rfl λs3=>?_;refine wC s3 rfl func243 (vs:=#[ab r]) (by simp[s3.eval];rfl) (EW r s v g w2 h2 hl λw3 v3 h3 M=>?_);refine⟨_,rfl,λa4 s4=>?_⟩;have Q:=(M.block _ (by omega) (by omega)).trans b2;have c3:=(M.block _ (by omega) (by omega)).trans c2;have z3:=M.size;refine wS s4 (cR (i:=0) (g:=(w.heap.size+1)) (k:=0) underlying171 rfl sizeOf9 (by decide) rfl s4.e) λs5=>?_;refine jL rfl rfl (iG (p:=⟨w.heap.size+1,0,none⟩) (v:=.string s.key.1) rfl sizeOf9 s5.e s5.e (cK Q rfl) (jH Q) rfl (λ_ h=>(by cases h)) (λ_ h=>(by cases h))) (bG ?_);have b4:=kg (i:=0) (.string s.key.1) Q;have o:Kp (λb=>b=w.heap.size+1) w3 (w3.setCell ⟨w.heap.size+1,0,none⟩ (.string s.key.1)):=Kp.sc _ _ _ rfl;have h4:=h3.kp o (by omega) (by omega);have c4:=(o.block _ (by omega) (by omega)).trans c3;have z4:=o.size;generalize w3.setCell ⟨w.heap.size+1,0,none⟩ (.string s.key.1)=w4 at b4 o h4 c4 z4 ⊢;rw[show(#[Value.string ⟨#[]⟩,Y 0,.string ⟨#[]⟩,.bool false]:Ak).setIfInBounds 0 (.string s.key.1)=#[.string s.key.1,Y 0,.string ⟨#[]⟩,.bool false]from rfl]at b4;refine sR ?_;refine wX 1 s5 rfl λs6=>?_;refine wC s6 rfl func174 (vs:=#[ab r]) (by simp[s6.eval];rfl) (j8 r s.key.2 v3 g w4 h4 (aX s.vR hl) λw5 v5 h5 N=>?_);refine⟨_,rfl,λa7 s7=>?_⟩;have R:=(N.block _ (by omega) (by omega)).trans b4;have c5:=(N.block _ (by omega) (by omega)).trans c4;have z5:=N.size;refine wS s7 (lI (n:=(s.key.2.four.1:Nat)) underlying230 underlying3 rfl s7.e) λs8=>?_;rw[show IntKind.i64.wrap ((s.key.2.four.1:Nat):Int)=((s.key.2.four.1:Nat):Int) by have:=s.key.2.ox;rw[IntKind.wrap_i64];omega]at s8;refine wS s8 (cR (i:=1) (g:=(w.heap.size+1)) (k:=0) underlying171 rfl sizeOf3 (by decide) rfl s8.e) λs9=>?_;refine jL rfl rfl (iG (p:=⟨w.heap.size+1,1,none⟩) (v:=Y s.key.2.four.1) rfl sizeOf3 s9.e s9.e (cK R rfl) (jH R) rfl (λ_ h=>(by cases h)) (λ_ h=>(by cases h))) (bG ?_);have S:=kg (i:=1) (Y s.key.2.four.1) R;have k6:Kp (λb=>b=w.heap.size+1) w5 (w5.setCell ⟨w.heap.size+1,1,none⟩ (Y s.key.2.four.1)):=Kp.sc _ _ _ rfl;have h6:=h5.kp k6 (by omega) (by omega);have c6:=(k6.block _ (by omega) (by omega)).trans c5;have z6:=k6.size;generalize w5.setCell ⟨w.heap.size+1,1,none⟩ (Y s.key.2.four.1)=w6 at S k6 h6 c6 z6 ⊢;rw[show(#[Value.string s.key.1,Y 0,.string ⟨#[]⟩,.bool false]:Ak).setIfInBounds 1 (Y s.key.2.four.1)=#[.string s.key.1,Y s.key.2.four.1,.string ⟨#[]⟩,.bool false]from rfl]at S;refine sR ?_;refine wX 1 s9 rfl λy=>?_;refine wC y rfl func244 (vs:=#[ab r]) (by simp[y.eval];rfl) (F8 r s.key.2.four.2 v5 g w6 h6 (aX (RS.fy _) (aX s.vR hl)) λw7 v7 h7 P=>?_);refine⟨_,rfl,λad B=>?_⟩;have b7:=(P.block _ (by omega) (by omega)).trans S;have c7:=(P.block _ (by omega) (by omega)).trans c6;have z7:=P.size
 refine wS B (cR (i:=2) (g:=(w.heap.size+1)) (k:=0) underlying171 rfl sizeOf138 (by decide) rfl B.e) λf=>?_;refine jb rfl rfl (cs:=[.string s.key.2.four.2.cE.1.1,.bool s.key.2.four.2.cE.1.2]) (g:=w.heap.size+1) (k:=2) sizeOf138 rfl f.e f.e b7 (by simp) (by simp[Value.oneCell']) λw8 b8 k8 z8=>bG ?_;have h8:=h7.kp k8 (by omega) (by omega);have c8:=(k8.block _ (by omega) (by omega)).trans c7;refine sR ?_;have U:w8.heap[w.heap.size+1]?=some (.cells ([.string s.key.1,Y s.key.2.four.1,.string s.key.2.four.2.cE.1.1,.bool s.key.2.four.2.cE.1.2]:List D).toArray 171 (0,0)):=b8;refine iI rfl (iV (cs:=[.string s.key.1,Y s.key.2.four.1,.string s.key.2.four.2.cE.1.1,.bool s.key.2.four.2.cE.1.2]) (a:=⟨w.heap.size+1,0,none⟩) isAgg171 sizeOf171 rfl f.e (kM U)) ?_;have j:=f.bit (.agg ([.string s.key.1,Y s.key.2.four.1,.string s.key.2.four.2.cE.1.1,.bool s.key.2.four.2.cE.1.2]:List D).toArray);refine jb rfl rfl (cs:=[.string s.key.1,Y s.key.2.four.1,.string s.key.2.four.2.cE.1.1,.bool s.key.2.four.2.cE.1.2]) (g:=w.heap.size) (k:=0) sizeOf171 rfl j.e (f.last _) c8 (by simp) (by simp[Value.oneCell']) λw9 b9 k9 z9=>bG ?_;have h9:=h8.kp k9 (by omega) (by omega);have W:w9.heap[w.heap.size]?=some (.cells ([.string s.key.1,Y s.key.2.four.1,.string s.key.2.four.2.cE.1.1,.bool s.key.2.four.2.cE.1.2]:List D).toArray 171 (0,0)):=b9;refine wp_ret ⟨j.d,.agg ([.string s.key.1,Y s.key.2.four.1,.string s.key.2.four.2.cE.1.1,.bool s.key.2.four.2.cE.1.2]:List D).toArray,?_,v7,rfl,h9,?_⟩
 .exact Pg rfl (j.v 2 (by decide)) (mj isAgg171 sizeOf171 (kM W))
 .have ka:Kp (λb=>b=r) w w2:=(k1.t C).mono λ_ _ e=>e.elim
  have kb:∀{wa wb:Z} (q:Nat),w.heap.size<=q->Kp (λb=>b=r) w wa->Kp (λb=>b=q) wa wb->Kp (λb=>b=r) w wb:=λq hq h1 h2=>h1.trans h2 λb hb e=>by omega
  exact kb w.heap.size (aW _) (kb (w.heap.size+1) (by omega) ((kb (w.heap.size+1) (by omega) ((kb (w.heap.size+1) (by omega) (ka.trans M λ_ _ e=>e) o).trans N λ_ _ e=>e) k6).trans P λ_ _ e=>e) k8) k9
end Go.Proofs.YthbdpfccfcceiaaGreatDoor
