/-
  Of hurt_card.
-/
import Derived.Test.YthbdpfccfcceiaaGreatDoorM1x
import Derived.Lib.SlBytesConst
import Derived.Deep.DeepCutAuto
set_option linter.all false
namespace Go.Proofs.YthbdpfccfcceiaaGreatDoor
set_option maxRecDepth 20000
set_option maxHeartbeats 4000000
open Go.Proofs.Tryz
variable {b e g l m n:Nat}{α:Type}{xs:List D}{v:D}{d f f':D->Option D}{o:Oper}{a:Act}{Q:Exit->Act->Z->Prop}{fz i:Nat × Nat}{K:Act->Z->Prop}{E:Prop}{j:Z}
section
open Go.RowKit Go.Maps
def cH.Qm{P:Ad}{k:Af}{w:Z}{t e:Af}(h:cH w P k b n f)(K:Keyed P k)(ht:P.underlying t=some (.map k e))(y:n<maxLen){key:D}{B:Lit}(r:keyOf P k key=some B)(val:D) :
  ∃w',(Instr.mapUpdate t (.map (some b)) key val).run P w = .ok () w'/\(∀f',jc f key val f'->cH w' P k b (if(f key).isSome then n else n+1) f')/\w.mapTurned w' b:=by
 classical
 have g:jc f key val (λx=>if x=key then some val else f x):=⟨by simp,λx a=>by simp[a]⟩;obtain⟨w',j,l,o⟩:=h.store K ht y r val g;refine⟨w',j,λf' hp=>?_,o⟩;have:f'=λx=>if x=key then some val else f x:=by
  funext x
  by_cases a:x=key
  .subst a;simp[hp.same]
  .simp[a,hp.other x a]
 rw[this];exact l
def Ay{P:Ad}{ops:Am}{w:Z}
  (Y:o.guard=none) (s x:Ae) (t:Af) (y:o.op=Op.call { callee:=Callee.builtin Builtin.append,args:=#[s,x],argTypes:=#[t,t] })
  (base:Nat) (e:Af) (i:TypeInfo) (z:D) (size bytes:Nat) (h1:P.underlying t=some (.slice e)) (B:P.info? e=some i) (C:i.zero=some z) (M:i.size=size) (N:i.bytes=bytes) (R:z.cells.size=size) (S:0<size)
  (v:D) (n:Nat) (xs:List D) (hs:a.eval s=v) (h:w.ownsRow base e size v n xs)
  (ad:Addr) (m c:Nat) (f:List D) (hx:a.eval x = .slice (some ad) m c) (hn:f.length=m*size) (W:∀j u,f[j]?=some u->w.cell? (ad.add j)=some u) (r:∀u∈f,u.oneCell'=true)
  (b1:n+m<=maxLen) (b2:(n+m)*bytes<=140737488355328) (g:base<=w.heap.size)
  (U:∀v' w',w'.ownsRow base e size v' (n+m) (xs++f)->w.grownBy w' v.ownBlock->(v'.ownBlock=v.ownBlock\/v'.ownBlock=some w.heap.size)->K (a.put o.dst v') w') :
  if Region.wanted o (yielded ops a.tmps)=true then Oper.wp P o a w K Q else E:=by
 have hw:Region.wanted o (yielded ops a.tmps)=true:=by simp[Region.wanted,Y]
 rw[if_pos hw];obtain⟨v',w',l,r1,r2,_,r4⟩:=run_append_own_at (P:=P) w base t o.type e i z size bytes h1 B C M N R S v n xs h ad m c f hn W r b1 b2 g;unfold Oper.wp;simp[execOp,y,resolve,invoke,builtin,hs,hx,l,Result.andThen];exact U v' w' r1 r2 r4
def Lt:(prog.info? 3).map (λi=>(i.zero,i.size,i.bytes))=some (some (Y 0),1,8):=by kernel_rfl
def cH.MJ{P:Ad}{k:Af}{w:Z}(h:cH w P k b n f){j:Ak}{e:Af}(l:w.heap[g]?=some (.cells j e fz)):g≠b:=by intro o;subst o;obtain⟨r,⟨y,a,hb,_⟩,_⟩:=h;rw[hb]at l;cases l
def tI{P:Ad}{k:Af}{w:Z}(h:cH w P k b n f){base size:Nat}(l:w.ownsRow base e size v m xs):v.ownBlock≠some b:=by
 rcases l.2 with⟨rfl,_⟩|⟨g,cap,a,rfl,_,j,_⟩
 .simp[Value.ownBlock]
 .simp only[Value.ownBlock,ne_eq,aH];exact h.MJ j
def dR{S:Nat->Prop}{w w':Z}{base size:Nat}(j:w.ownsRow base e size v m xs)(l:Kp S w w')(o:∀b,v.ownBlock=some b->¬S b):w'.ownsRow base e size v m xs:=by
 refine⟨j.1,?_⟩;rcases j.2 with h|⟨g,cap,a,rfl,hb,f,r⟩
 .exact Or.inl h
 .exact Or.inr ⟨g,cap,a,rfl,hb,(l.block g (aO.1 f).1 (o g rfl)).trans f,r⟩
section
variable {R:Al}
def Bf(ph Q B n nv:Nat)(f fv:D->Option D)(key val:Ac)(g:Bool)(t:Int)(w:Z)(c0:w.cell? ⟨ph,0,none⟩=some (.map (some Q)))(c1:w.cell? ⟨ph,1,none⟩=some (.map (some B)))
  (ad:cH w prog 9 B n f) (P:cH w prog 225 Q nv fv) (bb:Q≠B) (hn:n<1000000) (b3:nv<1000000)
  (bq:key.size<=8) (bw:(Lit.int .i64 t).wf=true) (v:D) (xs:List Int) (hf:(f (.string key)).getD (ae)=v) (a1:w.ownsRow 0 3 1 v xs.length (xs.map (Value.int .i64))) (hl:xs.length<1000000)
  (b6:v.ownBlock≠some ph) (hp:jc fv (.agg #[.string key,Y t]) (.agg #[.string val,.bool g]) d)
  (hR:∀w' v',Kp (λb=>b=Q\/b=B\/v.ownBlock=some b) w w'->cH w' prog 225 Q (if(fv (.agg #[.string key,Y t])).isSome then nv else nv+1) d->
   (∀f',jc f (.string key) v' f'->cH w' prog 9 B (if(f (.string key)).isSome then n else n+1) f')->w'.ownsRow 0 3 1 v' (xs.length+1) (xs.map (Value.int .i64)++[Y t])->
   (v'.ownBlock=v.ownBlock\/∃b,v'.ownBlock=some b/\w.heap.size<=b)->R (.returned (.tuple #[])) w') :
  Calls prog 79 #[ab ph,.string key,Y t,.agg #[.string val,.bool g]] w R:=by
 have am:Hid _:=WideMaps.keyOf_string_mk underlying9 (show key.size<=maxLen by unfold maxLen;omega);obtain⟨kl,bp⟩:=yY key t (by unfold maxLen;omega) bw;have HR:Hid _:=hR;have b5:ph<w.heap.size:=World.block_lt_of_cell? w _ c0;have bS:=P.lt;have bB:=ad.lt;have q1:ph≠Q:=λe=>by subst e;rw[P.noCell]at c0;cases c0
 have q2:ph≠B:=λe=>by subst e;rw[ad.noCell]at c0;cases c0
 have x0:(w.alloc (.cells #[.string val,.bool g] 138)).cell? ⟨ph,0,none⟩=some (.map (some Q)):=by go_simp
 have x1:(w.alloc (.cells #[.string val,.bool g] 138)).cell? ⟨ph,1,none⟩=some (.map (some B)):=by go_simp
 have x2:(w.alloc (.cells #[.string val,.bool g] 138)).cell? ⟨w.heap.size,0,none⟩=some (.string val):=by go_simp
 have x3:(w.alloc (.cells #[.string val,.bool g] 138)).cell? ⟨w.heap.size,1,none⟩=some (.bool g):=by go_simp
 have k0:Kp (λb=>b=Q\/b=B\/v.ownBlock=some b) w (w.alloc (.cells #[.string val,.bool g] 138)).drew:=(Kp.al _ _ _).trans (Kp.dr (λb=>b=Q\/b=B\/v.ownBlock=some b) _) (λ_ _ h=>h);have an:=(ad.alloc (.cells #[.string val,.bool g] 138)).drew;have a3:(w.alloc (.cells #[.string val,.bool g] 138)).drew.ownsRow 0 3 1 v xs.length (xs.map (Value.int .i64)):=dR a1 (S:=λ_=>False) ((Kp.al _ _ _).trans (Kp.dr (λ_=>False) _) (λ_ _ h=>h)) (λ_ _ h=>h);obtain⟨N,be,a7,l⟩:=((P.alloc (.cells #[.string val,.bool g] 138)).drew).store yX underlying206 (by unfold maxLen;omega) bp (.agg #[.string val,.bool g]) hp;have a4:N.ownsRow 0 3 1 v xs.length (xs.map (Value.int .i64)):=dR a3 (S:=λb=>b=Q) (Kp.ml l rfl) (λb hb e=>tI P a1 (by rw[hb,e]));have M:cH N prog 9 B n f:=an.of_block (lG l B (Ne.symm bb));have bl:N.cell? ⟨ph,1,none⟩=some (.map (some B)):=by rw[World.cell?_of_block (w:=(w.alloc (.cells #[.string val,.bool g] 138)).drew) (lG l ph q1)];exact x1
 have k1:=k0.trans (Kp.ml (S:=λb=>b=Q) l rfl) (λ_ _ h=>Or.inl h);have ba:Hid (∀W:Z,W.heap[B]?=N.heap[B]?->(Instr.lookup 207 (.map (some B)) (.string key) false).run prog W = .ok v W):=λW hW=>by have:=(M.of_block hW).look false gS underlying207 (qk W) am.out;rw[hf]at this;simpa using this
 clear hR ad P an a3 a1 k0 hf bw bp hp c0 c1 bq
 go_enter func79,ntmps79
 go_wp2_with fail
 go_region
 clear be x0 x1 x2 x3
 go_wp2_with fail
 have l1:=ba.out N.drew rfl;have l2:∀o,(Instr.lookup 207 (.map (some B)) (.string key) false).run prog (N.alloc o).drew = .ok v (N.alloc o).drew:=λo=>ba.out (N.alloc o).drew (Below.heap_alloc _ _ _ M.lt)
 have cc:ph<N.heap.size:=World.block_lt_of_cell? N _ bl;obtain⟨i0,hi,b7,ca,cb⟩:=info_parts Lt;have B1:Hid (xs.length<1000000):=hl;have B2:Hid (n<1000000):=hn;have C:(N.alloc (.cells #[Y t] 3)).drew.ownsRow 0 3 1 v xs.length (xs.map (Value.int .i64)):=dR a4 (S:=λ_=>False) ((Kp.al _ _ _).trans (Kp.dr (λ_=>False) _) (λ_ _ h=>h)) (λ_ _ h=>h);have j:=(M.alloc (.cells #[Y t] 3)).drew;have bm:(N.alloc (.cells #[Y t] 3)).drew.cell? ⟨ph,1,none⟩=some (.map (some B)):=by go_simp
 have bv:(N.alloc (.cells #[Y t] 3)).drew.heap.size=N.heap.size+1:=by simp
 have kw:w.heap.size<=N.heap.size:=k1.size;clear ba hl hn b3 bS bB b5 q1;have bA:Hid (Q≠B):=bb;have a8:Hid (cH (N.alloc (.cells #[Y t] 3)).drew prog 225 Q (if(fv (.agg #[.string key,Y t])).isSome then nv else nv+1) d):=(a7.alloc (.cells #[Y t] 3)).drew;clear bb a7
 go_region_law (refine Ay rfl (.tmp 26) (.tmp 28) 26 rfl 0 3 i0 (Y 0) 1 8 underlying26 hi b7 ca cb rfl (by decide) v xs.length (xs.map (Value.int .i64)) (by simp[Act.eval]) C ⟨N.heap.size,0,none⟩ 1 1 [Y t] (by simp[Act.eval]) rfl (cell_one_new _ _ _) (by simp[Value.oneCell']) (by have:=B1.out;unfold maxLen;omega) (by have:=B1.out;omega) (aZ _) ?_;intro v' w3 U r a9;have k3:=(World.cell?_of_block (w:=(N.alloc (.cells #[Y t] 3)).drew) (a:=⟨ph,1,none⟩) (r.block ph (by rw[bv];omega) (λe=>b6 e.symm))).trans bm;obtain⟨w4,bf,a0,y⟩:=(j.of_block (r.block B j.lt (λe=>tI j C e.symm))).Qm gS underlying207 (by have:=B2.out;unfold maxLen;omega) am.out v';replace HR:=HR.out w4 v' (((k1.trans ((Kp.al (λb=>b=Q\/b=B\/v.ownBlock=some b) _ _).trans (Kp.dr (λb=>b=Q\/b=B\/v.ownBlock=some b) _) (λ_ _ h=>h)) (λ_ _ h=>h)).trans (Kp.jh (S:=λb=>v.ownBlock=some b) r (λ_ h=>h)) (λ_ _ h=>Or.inr (Or.inr h))).trans (Kp.ml (S:=λb=>b=B) y rfl) (λ_ _ h=>Or.inr (Or.inl h))) (((a8.out.of_block (r.block Q a8.out.lt (λe=>tI a8.out C e.symm))).of_block (lG y Q bA.out))) a0 (dR U (S:=λb=>b=B) (Kp.ml y rfl) (λb hb e=>tI (j.of_block (r.block B j.lt (λe=>tI j C e.symm))) U (by rw[hb,e]))) (a9.imp id (λh=>⟨_,h,by rw[bv];omega⟩));clear a0 y)
 all_goals
  clear bf k3 l1 l2 bm bl U r a9 C j a4 M k1 l a8 am
  go_end0
  exact HR
end
end
section
open Go.RowKit Go.Lib
def ct{w:Z}{cs:Ak}{e:Af}(h:w.heap[b]?=some (.cells cs e fz))(i:Nat):w.cell? ⟨b,i,none⟩=cs[i]?:=by simp[World.cell?,h]
def C4:(prog.info? 48).map (λi=>(i.zero,i.size,i.bytes))=some (some (ae),1,24):=by kernel_rfl
def Rn{ops:Am}{rest:List Oper}(w:Z)(M:o.guard=none)(s x:Ae)
  (ho:o.op = .call { callee:=.builtin .append,args:=#[s,x],argTypes:=#[48,48] })
  (g:Nat) (bs:Aj) (hs:a.eval s = ag g bs.length bs.length) (hc:∀j u,(bs.map b8)[j]?=some u->w.cell? ((⟨g,0,none⟩:Addr).add j)=some u) (Y:D) (f:Aj) (hx:a.eval x=Y) (hr:jx w Y f) (l:f≠[])
  (hl:bs.length+f.length<=1000000000)
  (h:∀v' w',BR w.heap.size w' v' (bs++f)->An w w'->wpList prog ops Q rest (a.put o.dst v') w') :
  wpList prog ops Q (o::rest) a w:=by
 obtain⟨i0,hi,R,y,S⟩:=info_parts qP;obtain⟨g2,of,cap,rfl,B⟩:=hr.form l;have W:=List.length_pos_iff.2 l;have r:=run_append_grow (P:=prog) w 48 o.type 5 i0 (.int .u8 0) underlying48 hi R ⟨g,0,none⟩ bs.length bs.length (bs.map b8) (by rw[y];simp) hc ⟨g2,of,none⟩ f.length cap (f.map b8) (by rw[y];simp) B (by omega) (by omega) (by rw[S];exact growslice_fits (by omega) (by omega));refine wpList_plain M λK hK=>?_;unfold Oper.wp execOp;simp only[ho,resolve,invoke,builtin,Sem.run_bind,Sem.run_pure,Result.andThen_ok,List.map_toArray,List.map_cons,List.map_nil,hs,hx,r];refine hK _ _ (h _ _ ?_ ?_)
 .have N:=grownCap_ge w (bs.length+f.length) bs.length 5;have C:grownCap w (bs.length+f.length) bs.length 5<=maxLen:=grownCap_le_maxLen w _ _ _ (by unfold maxLen;omega);unfold BR;rw[aj,bj];refine⟨by simp,Or.inr ⟨w.heap.size,_,_,rfl,aW _,bI w.drew _,N,C,?_,?_⟩⟩
  .have U:(Value.int IntKind.u8 0).cells.size=1:=rfl;simp only[Array.size_append,ay,size_zeroCells,U,List.length_map];omega
  .simp only[Array.toList_append];rw[bc (by simp),aN (by simp)]
 .exact(Kp.dr (λ_=>False) w).trans (Kp.al (λ_=>False) _ _) (λ_ _ h=>h)
section
variable {R:Al}
def Ha (g:Nat)(bs:Aj)(n:Nat)(w:Z)(o:∀j u,(bs.map b8)[j]?=some u->w.cell? ((⟨g,0,none⟩:Addr).add j)=some u)(M:n<4294967296)(r:bs.length<=100000000)
  (l:∀v' w',BR w.heap.size w' v' (bs++cP n)->An w w'->R (.returned v') w') :
  Calls prog 140 #[ag g bs.length bs.length,.int .u32 n] w R:=by
 have C:=bR l;have y:=bR o;have B:=bR r;clear l o r
 go_enter func140,ntmps140
 go_wp2_with (first
  |(at_builtin;refine Rn _ rfl _ _ rfl g bs rfl (λj u D=>sJ (y.out j u D) _) _ (cP n) rfl (BR.rd (mK w _ (cP n) (by rw[vA,show((n:Int) / 16777216 % 256)=(n:Int) / 16777216 by omega]) (by rw[eG];omega))) (by simp[cP]) (by rw[eG];have:=B.out;omega) ?_;intro v' w' f a)
  |go_in)
 exact C.out v' w' (BR.mono f (by simp)) ((Kp.al _ _ _).trans a (λ_ _ h=>h))
def Nk (n:Nat)(w:Z)(B:db w)(W:n<4294967296)
  (y:∀v' w',BR w.heap.size w' v' (fJ n)->An w w'->R (.returned v') w') :
  Calls prog 131 #[Y n] w R:=by
 have N:=bR y;have Q:=bR B;have S:=run_convert_bytes_const (P:=prog) w 48 5 #[.int .u8 80,.int .u8 76,.int .u8 49] 3 3 underlying48 underlying5;have M:Hid (∀j u,(([80,76,49]:Aj).map b8)[j]?=some u->(w.alloc (.cells #[.int .u8 80,.int .u8 76,.int .u8 49] 5 (3,4))).cell? ((⟨w.heap.size,0,none⟩:Addr).add j)=some u):=λj u U=>by rw[addr_add,ao];rw[ct (bI w _)];simpa [b8]using U
 clear y B
 go_enter func131,ntmps131
 go_wp2_with (first
  |(go_at_call 140;refine Ha w.heap.size [80,76,49] n _ M.out W (by simp) ?_;intro C D l g;have f:Hid (BR w.heap.size D C ([80,76,49]++cP n)):=BR.mono l (by simp);have a:Hid (An w D):=(Kp.al (λ_=>False) _ _).trans g (λ_ _ h=>h);clear l g)
  |(go_at_call 176;refine Fb w.heap.size C _ _ (Q.out.kept a.out) f.out (by simp[eG]) a.out.size ?_;intro v2 w2 r o)
  |go_in)
 exact N.out v2 w2 r (a.out.trans o (λb hb e=>by have:=(f.out.lt b e).1;omega))
def Np{w:Z}{e:Af}{cap:Nat}(h:w.ownsRow 0 e 1 (ag g n cap) n xs)(i:Nat)(v:D):(w.setCell ⟨g,i,none⟩ v).ownsRow 0 e 1 (ag g n cap) n (xs.set i v):=by
 refine⟨by simpa using h.1,Or.inr ?_⟩;rcases h.2 with⟨j,_⟩|⟨M,f,a,e1,l,C,o,r,y,B⟩
 .cases j
 .injection e1 with e1 _ e3
  injection e1 with e1
  injection e1 with e1
  subst e1;subst e3;refine⟨g,cap,a.setIfInBounds i v,rfl,l,?_,o,r,by simpa using y,?_⟩
  .simp[World.setCell,aV,C]
  .rw[<- B];simp[List.take_set]
end
end
section
open Go.RowKit Go.Lib
def eM{w:Z}{base size:Nat}(h:w.ownsRow base e size v n xs):∃f cap,v = .slice f n cap:=by
 rcases h.2 with⟨rfl,rfl⟩|⟨g,cap,a,rfl,_⟩
 .exact⟨none,0,rfl⟩
 .exact⟨_,cap,rfl⟩
def iz{w:Z}{base size:Nat}(h:w.ownsRow base e size v n xs)(j:0<n):∃g cap a,v = ag g n cap/\w.heap[g]?=some (.cells a e (0,0))/\a.toList.take (n*size)=xs:=by
 rcases h.2 with⟨rfl,rfl⟩|⟨g,cap,a,rfl,_,f,_,_,_,ht⟩
 .omega
 .exact⟨g,cap,a,rfl,f,ht⟩
def cZ{w:Z}{i:Nat}{cs:Ak}{e:Af}(h:w.heap[b]?=some (.cells cs e fz))(v:D):(w.setCell ⟨b,i,none⟩ v).heap[b]?=some (.cells (cs.setIfInBounds i v) e fz):=by simp[World.setCell,aV,h]
def dA{w:Z}{cs:Ak}{e:Af}(h:w.heap[b]?=some (.cells cs e (0,0)))(i:Nat):w.frozen? ⟨b,i,none⟩=false:=by simp[World.frozen?,h]
def Qe{ops:Am}{w:Z}(N:o.guard=none)(s x:Ae)
  (l:o.op = .call { callee:=.builtin .append,args:=#[s,x],argTypes:=#[37,37] })
  (v:D) (n:Nat) (xs:List D) (R:a.eval s=v) (f:w.ownsRow 0 48 1 v n xs) (g:Nat) (u:D) (U:a.eval x = ag g 1 1) (S:w.cell? ⟨g,0,none⟩=some u) (h1:u.oneCell'=true) (hl:n<=1000000)
  (M:∀v' w',w'.ownsRow 0 48 1 v' (n+1) (xs++[u])->Kp (λb=>v.ownBlock=some b) w w'->(v'.ownBlock=v.ownBlock\/v'.ownBlock=some w.heap.size)->K (a.put o.dst v') w') :
  if Region.wanted o (yielded ops a.tmps)=true then Oper.wp prog o a w K Q else E:=by
 obtain⟨W,P,r,B,C⟩:=info_parts C4;refine Ay N s x 37 l 0 48 W (ae) 1 24 underlying37 P r B C rfl (by decide) v n xs R f ⟨g,0,none⟩ 1 1 [u] U rfl (λj y h=>?_) (by simpa using h1) (by unfold maxLen;omega) (by omega) (aZ _) (λv' w' Y r2 r3=>M v' w' Y (Kp.jh r2 (λ_ e=>e)) r3)
 match j,h with
 |0,h=>simp at h;subst h;rw[addr_add];exact S
def j5{w:Z}{a:Nat}{j l:Ak}{f g:Af}(o:w.heap[a]?=some (.cells j f fz))(hb:w.heap[b]?=some (.cells l g i))(h:f≠g):a≠b:=λe=>by subst e;rw[o]at hb;cases hb;exact h rfl
def BR.block{base:Nat}{w:Z}{bs:Aj}(h:BR base w v bs)(e:v.ownBlock=some b):∃a,w.heap[b]?=some (.cells a 5 (0,0)):=by
 rcases h.2 with⟨rfl,_⟩|⟨g,cap,a,rfl,_,f,_⟩
 .simp[Value.ownBlock]at e
 .simp[Value.ownBlock]at e;subst e;exact⟨a,f⟩
def nc{w:Z}{base size:Nat}(h:w.ownsRow base e size v n xs)(hb:v.ownBlock=some b):∃a,w.heap[b]?=some (.cells a e (0,0)):=by
 rcases h.2 with⟨rfl,_⟩|⟨g,cap,a,rfl,_,f,_⟩
 .simp[Value.ownBlock]at hb
 .simp[Value.ownBlock]at hb;subst hb;exact⟨a,f⟩
def ng{w:Z}{base:Nat}{cap:Nat}(h:w.ownsRow base e 1 (ag g n cap) n xs)(i:Nat)(u:D)(a:xs[i]?=some u):w.cell? ⟨g,i,none⟩=some u:=by have:=h.cells (g:=g) rfl i u a;rw[addr_add]at this;simpa using this
structure GH (p o:Nat)(T:Af)(box:Nat)(k t:Int)(rv:D)(body:Aj)(R:Al)(wx:Z)(cs2:Ak)(g2 cap2 m:Nat)(lv2:List D)(v:D)(f:Aj)(il2:Nat):Prop where
 hp:wx.heap[p]?=some (.cells cs2 T (0,0))
 c0:cs2[o]?=some (ag g2 (m+1) cap2)
 c1:cs2[o+1]?=some (Y il2)
 row:wx.ownsRow 0 48 1 (ag g2 (m+1) cap2) (m+1) (lv2++[v])
 br:BR 0 wx v f
 fl:f.length<=100000000
 KC:f≠[]
 m1:m<=1000001
 i1:il2<=100
 li:db wx
 rc:jM wx (.agg #[.int .u8 k,Y t,rv]) body
 b0:wx.cell? ⟨box,0,none⟩=some (.int .u8 k)
 b1:wx.cell? ⟨box,1,none⟩=some (Y t)
 b2:wx.cell? ⟨box,2,none⟩=some rv
 go:∀v' w',w'.heap[p]?=some (.cells (cs2.setIfInBounds (o+1) (Y ((il2+1:Nat):Int))) T (0,0))->w'.ownsRow 0 48 1 (ag g2 (m+1) cap2) (m+1) (lv2++[v'])->BR 0 w' v' (f++dv body)->
  (v'.ownBlock=v.ownBlock\/∃b,v'.ownBlock=some b/\wx.heap.size<=b)->Kp (λb=>b=p\/b=g2\/v.ownBlock=some b) wx w'->R (.returned (.tuple #[])) w'
def xK (p o:Nat)(T:Af)(box:Nat)(k t:Int)(l:D)(body:Aj)(R:Al)(r:Z):Prop:=∃(g:Ak) (g2 a m:Nat) (j:List D) (v:D) (f:Aj) (h:Nat),GH p o T box k t l body R r g g2 a m j v f h
section
variable {R:Al}
def Mz{p o cap:Nat}{T:Af}{cs:Ak}{a:Option Addr}{k t:Int}{body:Aj}{w A w1:Z}{g1 g2:Nat}{N:Ak}(a3:T≠5)(an:T≠48)(bm:p<w.heap.size)(hq:n=0\/g=4)
  (kA:An w A) (a0:A.cell? ⟨w.heap.size,0,none⟩=some (.int .u8 k)) (a1:A.cell? ⟨w.heap.size,1,none⟩=some (Y t)) (a2:A.cell? ⟨w.heap.size,2,none⟩=some v) (ad:A.ownsRow 0 48 1 (.slice a n cap) n xs) (tA:db A) (rA:jM A (.agg #[.int .u8 k,Y t,v]) body) (sA:A.heap.size=w.heap.size+1)
  (be:(Value.slice a n cap).ownBlock≠some p) (a8:∀b,(Value.slice a n cap).ownBlock=some b->b<w.heap.size) (c0:cs[o]?=some (.slice a n cap)) (c1:cs[o+1]?=some (Y g)) (bq:n<=1000000) (W:∀b,v.ownBlock=some b->b≠p/\(Value.slice a n cap).ownBlock≠some b) (B:∀b,(b=p\/(Value.slice a n cap).ownBlock=some b)->b≠0/\b≠1)
  (U:n=0\/g=4->∀C v' w',w'.heap[p]?=some (.cells ((cs.setIfInBounds o C).setIfInBounds (o+1) (Y 1)) T (0,0))->w'.ownsRow 0 48 1 C (n+1) (xs++[v'])->BR 0 w' v' (fJ n++dv body)->
   (∃b,v'.ownBlock=some b/\w.heap.size<=b)->(C.ownBlock=(Value.slice a n cap).ownBlock\/∃b,C.ownBlock=some b/\w.heap.size<=b)->Kp (λb=>b=p\/(Value.slice a n cap).ownBlock=some b) w w'->R (.returned (.tuple #[])) w')
  (v1:BR A.drew.heap.size w1 (ag g1 (fJ n).length m) (fJ n)) (k1:An A w1)
  (r2:j.ownsRow 0 48 1 (ag g2 (n+1) l) (n+1) (xs++[ag g1 (fJ n).length m])) {ob:Obj} (k2:Kp (λb=>(Value.slice a n cap).ownBlock=some b) (w1.alloc ob) j) (r:(ag g2 (n+1) l).ownBlock=(Value.slice a n cap).ownBlock\/(ag g2 (n+1) l).ownBlock=some (w1.alloc ob).heap.size)
  (p2:j.heap[p]?=some (.cells cs T (0,0))) (a7:j.heap[g2]?=some (.cells N 48 (0,0))) :
  xK p o T w.heap.size k t v body R ((j.setCell ⟨p,o,none⟩ (ag g2 (n+1) l)).setCell ⟨p,o+1,none⟩ (Y 0)):=by
 have a9:=(aO.1 c0).1;have ba:=(aO.1 c1).1;have M:Kp (λb=>b=p) j ((j.setCell ⟨p,o,none⟩ (ag g2 (n+1) l)).setCell ⟨p,o+1,none⟩ (Y 0)):=(Kp.sc (S:=λb=>b=p) _ _ _ rfl).trans (Kp.sc (S:=λb=>b=p) _ _ _ rfl) (λ_ _ h=>h);have bp:g2≠p:=j5 a7 p2 (Ne.symm an);have f:Kp (λb=>(Value.slice a n cap).ownBlock=some b) A j:=(k1.mono (λ_ _ h=>h.elim)).trans ((Kp.al (λb=>(Value.slice a n cap).ownBlock=some b) w1 ob).trans k2 (λ_ _ h=>h)) (λ_ _ h=>h);have bb:Kp (λb=>(Value.slice a n cap).ownBlock=some b) w1 j:=(Kp.al (λb=>(Value.slice a n cap).ownBlock=some b) w1 ob).trans k2 (λ_ _ h=>h);obtain⟨bf,D⟩:=v1.block (b:=g1) rfl;have a4:∀b,(Value.slice a n cap).ownBlock=some b->g1≠b:=λb e=>by obtain⟨c,hc⟩:=nc (dR ad k1 (λ_ _ h=>h)) e;exact j5 D hc (by decide)
 have v2:BR A.drew.heap.size j (ag g1 (fJ n).length m) (fJ n):=v1.kp bb (λb e=>by simp only[Value.ownBlock,aH]at e;subst e;exactλh=>a4 _ h rfl)
 obtain⟨am,y⟩:=v2.block (b:=g1) rfl;have bl:g1≠p:=j5 y p2 (Ne.symm a3);have Q:w.heap.size<=g1:=by have:=(v1.lt g1 rfl).1;have P:A.drew.heap.size=A.heap.size:=rfl;omega
 have box:∀i x,A.cell? ⟨w.heap.size,i,none⟩=some x->((j.setCell ⟨p,o,none⟩ (ag g2 (n+1) l)).setCell ⟨p,o+1,none⟩ (Y 0)).cell? ⟨w.heap.size,i,none⟩=some x:=λi x hx=>by have P:j.cell? ⟨w.heap.size,i,none⟩=some x:=(f.cell (bH _ _ hx) (λe=>by have:=a8 _ e;simp at this)).trans hx;exact(M.cell (bH _ _ P) (λe=>by simp only at e;omega)).trans P
 refine⟨_,g2,l,n,xs,ag g1 (fJ n).length m,fJ n,0,⟨cZ (cZ p2 _) _,?_,?_,?_,?_,?_,?_,by omega,by omega,?_,?_,box 0 _ a0,box 1 _ a1,box 2 _ a2,λv' w' h1 P h3 h4 h5=>?_⟩⟩
 .rw[aS (by omega),aT a9]
 .rw[aT (by simpa using ba)];rfl
 .exact dR r2 M (λb e h=>by simp only[Value.ownBlock,aH]at e;omega)
 .exact BR.mono (v2.kp M (λb e h=>by simp only[Value.ownBlock,aH]at e;omega)) (aZ _)
 .rw[qZ];omega
 .simp[fJ,cQ]
 .exact(tA.kp f (λh=>(B 0 (Or.inr h)).1 rfl) (λh=>(B 1 (Or.inr h)).2 rfl)).kp M (λh=>(B 0 (Or.inl h)).1 rfl) (λh=>(B 1 (Or.inl h)).2 rfl)
 .exact(rA.kp f (λb e h=>(W b e).2 h)).kp M (λb e h=>(W b e).1 h)
 .have bA:(w1.alloc ob).heap.size=w1.heap.size+1:=by simp
  have bv:=k1.size;have bw:=f.size;refine U hq (ag g2 (n+1) l) v' w' ?_ P h3 ?_ ?_ ?_
  .rw[Array.setIfInBounds_setIfInBounds]at h1;exact h1
  .rcases h4 with h4|⟨b,e,hb⟩
   .exact⟨g1,h4,Q⟩
   .refine⟨b,e,?_⟩;have:=M.size;omega
  .rcases r with r|r
   .exact Or.inl r
   .exact Or.inr ⟨_,r,by omega⟩
  .refine(((kA.mono (λ_ _ h=>h.elim)).trans f (λb _ h=>Or.inr h)).trans M (λb _ h=>Or.inl h)).trans h5 (λb hb h=>?_);rcases h with h|h|h
   .exact Or.inl h
   .rcases r with r|r
    .exact Or.inr (by rw[<- r,h];rfl)
    .simp only[Value.ownBlock,aH]at r;omega
   .simp only[Value.ownBlock,aH]at h;omega
def PK(l:List α)(x y:α)(n:Nat)(a:l.length=n):(l++[x]).set n y=l++[y]:=by subst a;simp
def Lz (p o:Nat)(cs:Ak)(T:Af)(Q:Option Addr)(g cap:Nat)(P:Nat)(k t:Int)(y:D)(body:Aj)(w:Z)(c7:T≠5)(cf:T≠48)(ey:y.oneCell'=true)(hb:body.length<=60000)(hp:w.heap[p]?=some (.cells cs T (0,0)))(cg:cs[o]?=some (.slice Q g cap))(ch:cs[o+1]?=some (Y P))
  (lv:List D) (fs:List (Aj)) (hT:db w) (r:w.ownsRow 0 48 1 (.slice Q g cap) g lv) (eD:fs.length=g) (dl:∀f∈fs,f≠[]/\f.length<=100000000) (dd:∀(i:Nat) v f,lv[i]?=some v->fs[i]?=some f->BR 0 w v f) (d5:g<=1000000) (ds:P<=99)
  (hr:jM w (.agg #[.int .u8 k,Y t,y]) body) (d6:∀b,y.ownBlock=some b->b≠p/\(Value.slice Q g cap).ownBlock≠some b) (d7:∀b,(b=p\/(Value.slice Q g cap).ownBlock=some b)->b≠0/\b≠1)
  (b3:g=0\/P=4->∀bw v' w',w'.heap[p]?=some (.cells ((cs.setIfInBounds o bw).setIfInBounds (o+1) (Y 1)) T (0,0))->w'.ownsRow 0 48 1 bw (g+1) (lv++[v'])->BR 0 w' v' (fJ g++dv body)->
   (∃b,v'.ownBlock=some b/\w.heap.size<=b)->(bw.ownBlock=(Value.slice Q g cap).ownBlock\/∃b,bw.ownBlock=some b/\w.heap.size<=b)->Kp (λb=>b=p\/(Value.slice Q g cap).ownBlock=some b) w w'->R (.returned (.tuple #[])) w')
  (b5:¬(g=0\/P=4)->∀j v f v' w',lv=j++[v]->fs[j.length]?=some f->w'.heap[p]?=some (.cells (cs.setIfInBounds (o+1) (Y ((P+1:Nat):Int))) T (0,0))->w'.ownsRow 0 48 1 (.slice Q g cap) g (j++[v'])->BR 0 w' v' (f++dv body)->
   (v'.ownBlock=v.ownBlock\/∃b,v'.ownBlock=some b/\w.heap.size<=b)->Kp (λb=>b=p\/(Value.slice Q g cap).ownBlock=some b\/v.ownBlock=some b) w w'->R (.returned (.tuple #[])) w') :
  Calls prog 78 #[.pointer (some ⟨p,o,none⟩),.agg #[.int .u8 k,Y t,y]] w R:=by
 have HB:=bR hb;have ce:=bR c7;have cz:=bR cf;have b6:=(aO.1 hp).1;have bv:(w.alloc (.cells #[.int .u8 k,Y t,y] 110)).heap[p]?=some (.cells cs T (0,0)):=((Kp.al (λ_=>False) w _).block p b6 (λe=>e)).trans hp;have c0:(w.alloc (.cells #[.int .u8 k,Y t,y] 110)).cell? ⟨p,o,none⟩=some (.slice Q g cap):=by rw[ct bv];exact cg
 have c1:(w.alloc (.cells #[.int .u8 k,Y t,y] 110)).cell? ⟨p,o+1,none⟩=some (Y P):=by rw[ct bv];exact ch
 have U:Hid (An w (w.alloc (.cells #[.int .u8 k,Y t,y] 110))):=Kp.al _ _ _;have ad:Hid ((w.alloc (.cells #[.int .u8 k,Y t,y] 110)).cell? ⟨w.heap.size,0,none⟩=some (.int .u8 k)):=ct (bI w _) 0;have am:Hid ((w.alloc (.cells #[.int .u8 k,Y t,y] 110)).cell? ⟨w.heap.size,1,none⟩=some (Y t)):=ct (bI w _) 1;have an:Hid ((w.alloc (.cells #[.int .u8 k,Y t,y] 110)).cell? ⟨w.heap.size,2,none⟩=some y):=ct (bI w _) 2;have B:Hid ((w.alloc (.cells #[.int .u8 k,Y t,y] 110)).ownsRow 0 48 1 (.slice Q g cap) g lv):=r.alloc _;have bm:=bR (hT.kept U.out);have a4:=bR (hr.kept U.out);have cd:Hid ((w.alloc (.cells #[.int .u8 k,Y t,y] 110)).heap.size=w.heap.size+1):=by show _=_;simp
 have cv:Hid ((Value.slice Q g cap).ownBlock≠some p):=λe=>by obtain⟨e7,de⟩:=nc r e;exact j5 de hp (Ne.symm cf) rfl
 have el:Hid (∀b,(Value.slice Q g cap).ownBlock=some b->b<w.heap.size):=λb e=>(r.lt b e).2
 have cc:=bR bv;have b7:=bR cg;have ca:=bR ch;have bl:=bR d5;have eu:=bR d6;have ev:=bR d7;have e6:(g:Int)<=1000000:=by omega
 have ec:=bR ds;have HN:=bR b3;have HO:=bR b5;have cb:Hid (¬(g=0\/P=4)->xK p o T w.heap.size k t y body R (w.alloc (.cells #[.int .u8 k,Y t,y] 110))):=λhq=>by
  obtain⟨m,hm⟩:∃m,g=m+1:=⟨g-1,by omega⟩;subst hm;have cl:lv.length=m+1:=by simpa using r.1
  have bb:lv≠[]:=λe=>by rw[e]at cl;simp at cl
  obtain⟨j,v,rfl⟩:∃j v,lv=j++[v]:=⟨lv.dropLast,lv.getLast bb,(List.dropLast_concat_getLast bb).symm⟩;have a9:j.length=m:=by simpa using cl
  obtain⟨f,hf⟩:∃f,fs[m]?=some f:=⟨fs[m],aQ (by omega)⟩;obtain⟨g2,C,a7,e2,N,_⟩:=iz r (by omega);injection e2 with e2 _ e3
  subst e2;subst e3;have dk:=dl f (aI hf);refine⟨cs,g2,cap,m,j,v,f,P,⟨cc.out,b7.out,ca.out,B.out,(dd m v f (by rw[<- a9];simp) hf).kept U.out,dk.2,dk.1,by have:=bl.out;omega,by have:=ec.out;omega,bm.out,a4.out,ad.out,am.out,an.out,λv' w' h1 h2 h3 h4 h5=>?_⟩⟩;refine HO.out hq j v f v' w' rfl (by rw[a9];exact hf) h1 h2 h3 (h4.imp id (λ⟨b,e,hb⟩=>⟨b,e,by have:=cd.out;omega⟩)) ((U.out.mono (λ_ _ h=>h.elim)).trans h5 (λb _ h=>?_));rcases h with h|h|h
  .exact Or.inl h
  .exact Or.inr (Or.inl (by rw[h];rfl))
  .exact Or.inr (Or.inr h)
 clear b3 b5 hp bv cg ch hb c7 cf hT r dl dd hr d6 d5 ds eD HO d7
 go_enter func78,ntmps78
 go_upto_region 1 with fail
 go_cut [17] (λeW wx=>eW = .bool (decide (g=0\/P=4))/\wx=w.alloc (.cells #[.int .u8 k,Y t,y] 110))
 case first=>
  by_cases q1:g=0
  .have hq:((g:Int) == 0)=true:=by simp;omega
   go_wp2_with fail
   go_meet
   case rel=>exact⟨by simp[q1],rfl⟩
  .have hq:((g:Int) == 0)=false:=by simp;omega
   by_cases q2:P=4
   .have eP:((P:Int) == 4)=true:=by simp;omega
    go_wp2_with fail
    go_meet
    case rel=>exact⟨by simp[q2],rfl⟩
   .have eP:((P:Int) == 4)=false:=by simp;omega
    go_wp2_with fail
    go_meet
    case rel=>exact⟨by simp[q1,q2],rfl⟩
 case rest=>
 obtain⟨rfl,rfl⟩:=hcut
 go_upto_if 17 with fail
 go_cut [] (λwx=>xK p o T w.heap.size k t y body R wx)
 case first=>
  by_cases hq:g=0\/P=4
  .have eQ:decide (g=0\/P=4)=true:=by simpa using hq
   have HQ:=bR hq;clear hq
   go_wp2_with fail
   clear cb;generalize w.alloc (.cells #[.int .u8 k,Y t,y] 110)=A at U c0 c1 ad am an cc bm B a4 cd ⊢
   go_region_law (first
    |(refine lO rfl 131 _ _ _ rfl func131 (by kernel_rfl) (by kernel_rfl) _ (by simp[Act.eval];rfl) ?_;refine Nk g _ (bm.out.kept (Kp.dr _ _)) (by have:=bl.out;omega) ?_;intro v1 w1 co d1;have ew:=bR co;have bf:Hid (An A w1):=(Kp.dr (λ_=>False) A).trans d1 (λ_ _ h=>h);have d0:w1.cell? ⟨p,o,none⟩=some (.slice Q g cap):=(bf.out.cell (a:=⟨p,o,none⟩) (bH _ _ c0) (λe=>e)).trans c0;have ex:∀ob,(w1.alloc ob).cell? ⟨p,o,none⟩=some (.slice Q g cap):=λob=>sJ d0 ob;obtain⟨g1,cT,rfl⟩:=co.form (by simp[fJ,cQ]);clear co d1;refine⟨_,rfl,?_⟩)
    |(refine Qe rfl _ _ rfl (.slice Q g cap) g lv (by simp[Act.eval]) ((dR B.out bf.out (λ_ _ e=>e)).alloc _) w1.heap.size (.slice (some ⟨g1,0,none⟩) (fJ g).length cT) (by simp[Act.eval]) (by go_simp) rfl bl.out ?_;intro fd w2 cm ck a9;have et:=bR cm;have eg:=bR ck;have eh:=bR a9;have W:w2.heap[p]?=some (.cells cs T (0,0)):=(ck.block p (bH _ _ (sJ d0 _)) cv.out).trans (((Kp.al (λ_=>False) _ _).block p (bH _ _ d0) (λe=>e)).trans ((bf.out.block p (bH _ _ c0) (λe=>e)).trans cc.out));have es:=bR W;have d2:w2.cell? ⟨p,o,none⟩=some (.slice Q g cap):=(ct W _).trans b7.out;have d3:w2.cell? ⟨p,o+1,none⟩=some (.int .i64 P):=(ct W _).trans ca.out;have e2:w2.frozen? ⟨p,o,none⟩=false:=dA W _;have e3:w2.frozen? ⟨p,o+1,none⟩=false:=dA W _;obtain⟨g2,C,a7,rfl,N,eV⟩:=iz cm (by omega);have a3:=bR N;clear W N eV cm ck a9))
   all_goals
    clear d0 c0 c1 ex
    go_wp2_with fail
    go_meet
    case rel=>clear d2 d3 e2 e3;exact Mz ce.out cz.out b6 HQ.out U.out ad.out am.out an.out B.out bm.out a4.out cd.out cv.out el.out b7.out ca.out bl.out eu.out ev.out HN.out ew.out bf.out et.out eg.out eh.out es.out a3.out
  .have eQ:decide (g=0\/P=4)=false:=by simpa using hq
   have HQ:=bR hq;clear hq
   go_wp2_with fail
   go_meet
   case rel=>exact cb.out HQ.out
 case rest=>
  clear cb;obtain⟨c3,g2,C,m,j,v,f,d8,M⟩:=hcut;have HM:=bR M;have d0:wc.cell? ⟨p,o,none⟩=some (ag g2 (m+1) C):=(ct M.hp _).trans M.c0;have ba:j.length=m:=by have:=M.row.1;simp at this;omega
  have cu:=bR ba;have e0:wc.cell? ⟨g2,m,none⟩=some v:=ng M.row m v (by rw[<- ba];simp);obtain⟨a7,N⟩:=nc M.row (b:=g2) rfl;obtain⟨gv,l,rfl⟩:=M.br.form M.KC;obtain⟨e5,ci⟩:=M.br.block (b:=gv) rfl;have er:=bR (j5 ci M.hp (Ne.symm ce.out));have eo:=bR (j5 N M.hp (Ne.symm cz.out));have bA:=bR (j5 ci N (by decide));have a3:=bR N;have a0:=M.b0;have a1:=M.b1;have a2:=M.b2;have fa:(m:Int)<=1000001:=by have:=M.m1;omega
  have fb:(m:Int)<(m:Int)+1:=by omega
  have e8:(d8:Int)<=100:=by have:=M.i1;omega
  clear M ba N ci c0 c1
  go_wp2_with fail
  go_region_law (refine lO rfl 132 _ _ _ rfl func132 (by kernel_rfl) (by kernel_rfl) _ (by simp[Act.eval];rfl) ?_;refine Hb (ag gv f.length l) f k t y body _ (HM.out.li.kept (Kp.dr _ _)) ey (HM.out.rc.kept (Kp.dr _ _)) HB.out (HM.out.br.kept (Kp.dr _ _)) HM.out.fl ?_;intro v5 w5 cq bq d4;have cA:=bR cq;have cr:=bR bq;have ek:=bR d4;have be:w5.heap[p]?=some (.cells c3 T (0,0)):=(bq.block p (aO.1 HM.out.hp).1 (λe=>er.out (by simpa [Value.ownBlock]using e))).trans HM.out.hp;have bp:w5.heap[g2]?=some (.cells a7 48 (0,0)):=(bq.block g2 (aO.1 a3.out).1 (λe=>bA.out (by simpa [Value.ownBlock]using e))).trans a3.out;have cw:=bR be;have d9:=bR bp;have x0:w5.cell? ⟨g2,m,none⟩=some (ag gv f.length l):=((ct bp m).trans ((ct a3.out m).symm)).trans e0;have x1:w5.frozen? ⟨g2,m,none⟩=false:=dA bp _;have x2:w5.cell? ⟨p,o+1,none⟩=some (Y d8):=(ct be _).trans HM.out.c1;have x3:w5.frozen? ⟨p,o+1,none⟩=false:=dA be _;have x4:w5.cell? ⟨p,o,none⟩=some (ag g2 (m+1) C):=(ct be _).trans HM.out.c0;have bb:g2≠p:=eo.out;obtain⟨g5,bB,rfl⟩:=cq.form (by simp[dv,cQ]);clear cq bq d4 be bp;refine⟨_,rfl,?_⟩)
  all_goals
   clear d0 e0 a0 a1 a2
   go_wp2_with fail
   go_end0
   rw[<- aj];refine HM.out.go (ag g5 (f++dv body).length bB) _ ?_ ?_ ?_ ek.out ?_
   .rw[cZ (i:=o+1) (cs:=c3) ((Below.heap_setCell w5 _ _ p (Ne.symm bb)).trans cw.out)];rfl
   .have h1:w5.ownsRow 0 48 1 (ag g2 (m+1) C) (m+1) (j++[ag gv f.length l]):=dR HM.out.row ((Kp.dr (λb=>gv=b) _).trans cr.out (λb _ e=>by simpa [Value.ownBlock]using e)) (λb e=>by simp[Value.ownBlock]at e;subst e;exact bA.out);have h2:=Np h1 m (ag g5 (f++dv body).length bB);rw[PK _ _ _ _ cu.out]at h2;exact dR h2 (S:=λb=>b=p) (Kp.sc _ _ _ rfl) (λb e=>by simp[Value.ownBlock]at e;subst e;exact bb)
   .have ez:∃bS,w5.heap[g5]?=some (.cells bS 5 (0,0)):=cA.out.block rfl;obtain⟨bS,a8⟩:=ez;refine BR.kp (S:=λb=>b=g2\/b=p) cA.out ((Kp.sc (S:=λb=>b=g2\/b=p) w5 _ _ (Or.inl rfl)).trans (Kp.sc (S:=λb=>b=g2\/b=p) _ _ _ (Or.inr rfl)) (λ_ _ h=>h)) (λb e=>?_);simp[Value.ownBlock]at e;subst e;rintro(e|e)
    .exact j5 a8 d9.out (by decide) e
    .exact j5 a8 cw.out (Ne.symm ce.out) e
   .refine(((Kp.dr (λb=>b=p\/b=g2\/(ag gv f.length l).ownBlock=some b) _).trans cr.out (λb _ e=>Or.inr (Or.inr e))).trans (Kp.sc (S:=λb=>b=p\/b=g2\/(ag gv f.length l).ownBlock=some b) w5 _ _ (Or.inr (Or.inl rfl))) (λ_ _ h=>h)).trans (Kp.sc (S:=λb=>b=p\/b=g2\/(ag gv f.length l).ownBlock=some b) _ _ _ (Or.inl rfl)) (λ_ _ h=>h)
end
end
section
open Go.RowKit Go.Maps
def yi (s:Ac)(w:Z)(f:s.size<=maxLen)(a:s.size<=281474976710656) :
  Calls prog 70 #[.string s] w λe w'=>e = .returned (.string s)/\Below w.heap.size w w':=by
 go_enter func70,ntmps70
 go_wp2_with (go_at_call 124;refine(stringslite_Clone _ _ a).mono ?_;rintro e w' ⟨rfl,hb⟩)
 go_ret
 exact⟨rfl,hb⟩
section
variable {R:Al}
def RM (pt o n:Nat)(f:D->Option D)(key val:Ac)(g:Bool)(w:Z)(c1:w.cell? ⟨pt,1,none⟩=some (.map (some o)))(j:cH w prog 9 o n f)
  (a:key.size<=maxLen) (r:f (.string key)=none) (C:(10:Int)<=n)
  (B:∀w',An w w'->R (.returned (Y 3)) w') :
  Calls prog 69 #[ab pt,.string key,.agg #[.string val,.bool g]] w R:=by
 have l:Hid _:=WideMaps.keyOf_string_mk underlying9 a;have y:pt<w.heap.size:=World.block_lt_of_cell? w _ c1;clear a
 go_enter func69,ntmps69
 go_wp2_with (first
  |(at_lookup;refine lP _ rfl _ _ 130 rfl 9 138 gS underlying130 (ux _) o n f rfl (j.alloc _) (.string key) _ rfl l.out _ r ?_)
  |(at_len;refine rN _ rfl _ 130 rfl 9 138 underlying130 o n f rfl ((j.alloc _).alloc _) ?_)
  |go_in)
 exact(Kp.al _ _ _).trans (Kp.al _ _ _) (λ_ _ h=>h)
def RL(pt r n:Nat)(f:D->Option D)(key val:Ac)(g:Bool)(w:Z)(c1:w.cell? ⟨pt,1,none⟩=some (.map (some r)))(l:cH w prog 9 r n f)
  (C:key.size<=8) (N:Ac) (g0:Bool) (hf:f (.string key)=some (.agg #[.string N,.bool g0])) (hn:(n:Int)<=10)
   (hp:jc f (.string key) (.agg #[.string val,.bool g]) f')
  (hR:∀w',Kp (λb=>b=r) w w'->cH w' prog 9 r n f'->R (.returned (Y 0)) w') :
  Calls prog 69 #[ab pt,.string key,.agg #[.string val,.bool g]] w R:=by
 have y:Hid _:=WideMaps.keyOf_string_mk underlying9 (show key.size<=maxLen by unfold maxLen;omega);have ad:pt<w.heap.size:=World.block_lt_of_cell? w _ c1;have U:Hid _:=hR;have HL:Hid _:=C;have HP:Hid _:=hp;clear hR C hp
 go_enter func69,ntmps69
 go_wp2_with (first
  |(at_lookup;refine lP _ rfl _ _ 130 rfl 9 138 gS underlying130 (ux _) r n f rfl (l.alloc _) (.string key) _ rfl y.out _ hf ?_)
  |(at_len;refine rN _ rfl _ 130 rfl 9 138 underlying130 r n f rfl ((l.alloc _).alloc _) ?_)
  |go_in)
 have P:Hid (Kp (λb=>b=r) w ((w.alloc (Obj.cells #[Value.string val,Value.bool g] 138)).alloc (Obj.cells #[Value.string N,Value.bool g0] 138))):=(Kp.al _ _ _).trans (Kp.al _ _ _) (λ_ _ h=>h);have a:=(l.alloc (Obj.cells #[Value.string val,Value.bool g] 138)).alloc (Obj.cells #[Value.string N,Value.bool g0] 138);have M:((w.alloc (Obj.cells #[Value.string val,Value.bool g] 138)).alloc (Obj.cells #[Value.string N,Value.bool g0] 138)).cell? ⟨pt,1,none⟩=some (.map (some r)):=by go_simp
 have d0:((w.alloc (Obj.cells #[Value.string val,Value.bool g] 138)).alloc (Obj.cells #[Value.string N,Value.bool g0] 138)).cell? ⟨w.heap.size,0,none⟩=some (.string val):=by go_simp
 have d1:((w.alloc (Obj.cells #[Value.string val,Value.bool g] 138)).alloc (Obj.cells #[Value.string N,Value.bool g0] 138)).cell? ⟨w.heap.size,1,none⟩=some (.bool g):=by go_simp
 generalize hW:(w.alloc (Obj.cells #[Value.string val,Value.bool g] 138)).alloc (Obj.cells #[Value.string N,Value.bool g0] 138)=W at *;clear hW
 go_region_with (go_at_call 70;refine(yi _ _ (by have:=HL.out;unfold maxLen;omega) (by have:=HL.out;omega)).mono ?_;rintro e w1 ⟨rfl,o⟩;have k1:=(o.cell (p:=⟨pt,1,none⟩) (World.block_lt_of_cell? W _ M)).trans M;have k2:=(o.cell (p:=⟨w.heap.size,0,none⟩) (World.block_lt_of_cell? W _ d0)).trans d0;have k3:=(o.cell (p:=⟨w.heap.size,1,none⟩) (World.block_lt_of_cell? W _ d1)).trans d1;obtain⟨w2,Q,j,B⟩:=(a.drew.of_block (o.block r a.lt)).store gS underlying130 (by unfold maxLen;omega) y.out (.agg #[.string val,.bool g]) HP.out;clear y)
 all_goals
  rw[hf]at j
  replace U:=U.out w2 (((P.out.trans (Kp.dr (λb=>b=r) W) (λ_ _ h=>h)).trans (Kp.qW o (λb=>b=r)) (λ_ _ h=>h)).trans (Kp.ml (S:=λb=>b=r) B rfl) (λ_ _ h=>h)) j
  clear Q j B o k1 k2 k3 d0 d1 M a P ad hf l c1
  go_wp2
  exact U
def RN(pt r n:Nat)(f:D->Option D)(key val:Ac)(g:Bool)(w:Z)(c1:w.cell? ⟨pt,1,none⟩=some (.map (some r)))(l:cH w prog 9 r n f)
  (C:key.size<=8) (U:f (.string key)=none) (hn:(n:Int)<10)
   (hp:jc f (.string key) (.agg #[.string val,.bool g]) f')
  (hR:∀w',Kp (λb=>b=r) w w'->cH w' prog 9 r (n+1) f'->R (.returned (Y 0)) w') :
  Calls prog 69 #[ab pt,.string key,.agg #[.string val,.bool g]] w R:=by
 have y:Hid _:=WideMaps.keyOf_string_mk underlying9 (show key.size<=maxLen by unfold maxLen;omega);have ad:pt<w.heap.size:=World.block_lt_of_cell? w _ c1;have Q:Hid _:=hR;have HL:Hid _:=C;have HP:Hid _:=hp;clear hR C hp
 go_enter func69,ntmps69
 go_wp2_with (first
  |(at_lookup;refine lP _ rfl _ _ 130 rfl 9 138 gS underlying130 (ux _) r n f rfl (l.alloc _) (.string key) _ rfl y.out _ U ?_)
  |(at_len;refine rN _ rfl _ 130 rfl 9 138 underlying130 r n f rfl ((l.alloc _).alloc _) ?_)
  |go_in)
 have N:Hid (Kp (λb=>b=r) w ((w.alloc (Obj.cells #[Value.string val,Value.bool g] 138)).alloc (Obj.cells #[Value.string ByteArray.empty,Value.bool false] 138))):=(Kp.al _ _ _).trans (Kp.al _ _ _) (λ_ _ h=>h);have a:=(l.alloc (Obj.cells #[Value.string val,Value.bool g] 138)).alloc (Obj.cells #[Value.string ByteArray.empty,Value.bool false] 138);have M:((w.alloc (Obj.cells #[Value.string val,Value.bool g] 138)).alloc (Obj.cells #[Value.string ByteArray.empty,Value.bool false] 138)).cell? ⟨pt,1,none⟩=some (.map (some r)):=by go_simp
 have d0:((w.alloc (Obj.cells #[Value.string val,Value.bool g] 138)).alloc (Obj.cells #[Value.string ByteArray.empty,Value.bool false] 138)).cell? ⟨w.heap.size,0,none⟩=some (.string val):=by go_simp
 have d1:((w.alloc (Obj.cells #[Value.string val,Value.bool g] 138)).alloc (Obj.cells #[Value.string ByteArray.empty,Value.bool false] 138)).cell? ⟨w.heap.size,1,none⟩=some (.bool g):=by go_simp
 generalize hW:(w.alloc (Obj.cells #[Value.string val,Value.bool g] 138)).alloc (Obj.cells #[Value.string ByteArray.empty,Value.bool false] 138)=W at *;clear hW
 go_region_with (go_at_call 70;refine(yi _ _ (by have:=HL.out;unfold maxLen;omega) (by have:=HL.out;omega)).mono ?_;rintro e w1 ⟨rfl,o⟩;have k1:=(o.cell (p:=⟨pt,1,none⟩) (World.block_lt_of_cell? W _ M)).trans M;have k2:=(o.cell (p:=⟨w.heap.size,0,none⟩) (World.block_lt_of_cell? W _ d0)).trans d0;have k3:=(o.cell (p:=⟨w.heap.size,1,none⟩) (World.block_lt_of_cell? W _ d1)).trans d1;obtain⟨w2,P,j,B⟩:=(a.drew.of_block (o.block r a.lt)).store gS underlying130 (by unfold maxLen;omega) y.out (.agg #[.string val,.bool g]) HP.out;clear y)
 all_goals
  rw[U]at j
  replace Q:=Q.out w2 (((N.out.trans (Kp.dr (λb=>b=r) W) (λ_ _ h=>h)).trans (Kp.qW o (λb=>b=r)) (λ_ _ h=>h)).trans (Kp.ml (S:=λb=>b=r) B rfl) (λ_ _ h=>h)) j
  clear P j B o k1 k2 k3 d0 d1 M a N ad U l c1
  go_wp2
  exact Q
end
end
section
open Go.RowKit Go.Maps
section
variable {R:Al}
def Oh (p mo n:Nat)(f:D->Option D)(tx:Int)(key val:Ac)(w:Z)(c2:w.cell? ⟨p,7,none⟩=some (.map (some mo)))(g:cH w prog 3 mo n f)(h:(Lit.int .i64 tx).wf=true)(l:f (Y tx)=none)
  (j:R (.returned (Y 2)) w) :
  Calls prog 35 #[ab p,Y tx,.string key,.string val] w R:=by
 have a:Hid _:=keyOf_int_mk underlying3 h
 go_enter func35,ntmps35
 go_wp2_with (first
  |(at_lookup;refine lP _ rfl _ _ 99 rfl 3 129 jP underlying99 (oY _) mo n f rfl g (.int .i64 tx) _ rfl a.out _ l ?_)
  |go_in)
 exact j
def Of (p mo n:Nat)(f:D->Option D)(tx:Int)(key val:Ac)(w:Z)(c2:w.cell? ⟨p,7,none⟩=some (.map (some mo)))(j:cH w prog 3 mo n f)(l:(Lit.int .i64 tx).wf=true)(a:Addr)(y:f (Y tx)=some (.pointer (some a)))
  (B:key.size<=maxLen) (hv:val.size<=maxLen) (g:(dy key && decide (val.size<=20))=false)
  (r:R (.returned (Y 1)) w) :
  Calls prog 35 #[ab p,Y tx,.string key,.string val] w R:=by
 have h:Hid _:=keyOf_int_mk underlying3 l;have o:Hid _:=B;have M:Hid _:=hv;clear B hv l;cases N:dy key
 .clear g
  go_enter func35,ntmps35
  go_wp2_with (first
   |(at_lookup;refine lP _ rfl _ _ 99 rfl 3 129 jP underlying99 (oY _) mo n f rfl j (.int .i64 tx) _ rfl h.out _ y ?_)
   |(go_at_call 67;refine(kU _ _ o.out).mono ?_;rintro e C ⟨rfl,rfl⟩)
   |go_in)
  exact r
 .have P:decide (val.size<=20)=false:=by rw[N]at g;simpa using g
  clear g
  go_enter func35,ntmps35
  go_wp2_with (first
   |(at_lookup;refine lP _ rfl _ _ 99 rfl 3 129 jP underlying99 (oY _) mo n f rfl j (.int .i64 tx) _ rfl h.out _ y ?_)
   |(go_at_call 67;refine(kU _ _ o.out).mono ?_;rintro e C ⟨rfl,rfl⟩)
   |(go_at_call 68;refine(vN _ _ M.out).mono ?_;rintro e C ⟨rfl,rfl⟩)
   |go_in)
  exact r
def jB (s:Ac)(h:dy s=true):s.size<=8:=by unfold dy at h;simp at h;exact h.2.1
def Og (p mo n pt:Nat)(f:D->Option D)(tx:Int)(key val:Ac)(w:Z)(c2:w.cell? ⟨p,7,none⟩=some (.map (some mo)))(g:cH w prog 3 mo n f)(h:(Lit.int .i64 tx).wf=true)(M:f (Y tx)=some (ab pt))
  (h1:dy key=true) (hv:val.size<=20)
  (o:∀w1,An w w1->Calls prog 69 #[ab pt,.string key,.agg #[.string val,.bool false]] w1 λe y=>∃r,e = .returned (Y r)/\R (.returned (Y r)) y) :
  Calls prog 35 #[ab p,Y tx,.string key,.string val] w R:=by
 have a:Hid _:=keyOf_int_mk underlying3 h;have N:=jB key h1;have B:Hid (key.size<=maxLen):=by show key.size<=maxLen;unfold maxLen;omega
 have j:Hid (val.size<=20):=hv;have S:decide (val.size<=20)=true:=by simpa using hv
 have C:Hid _:=o;clear hv h N o
 go_enter func35,ntmps35
 go_wp2_with (first
  |(at_lookup;refine lP _ rfl _ _ 99 rfl 3 129 jP underlying99 (oY _) mo n f rfl g (.int .i64 tx) _ rfl a.out _ M ?_)
  |(go_at_call 67;refine(kU _ _ B.out).mono ?_;rintro e Q ⟨rfl,rfl⟩)
  |(go_at_call 68;refine(vN _ _ (by have:=j.out;unfold maxLen;omega)).mono ?_;rintro e Q ⟨rfl,rfl⟩)
  |(go_at_call 70;refine(yi _ _ (by have:=j.out;unfold maxLen;omega) (by have:=j.out;omega)).mono ?_;rintro e w1 ⟨rfl,l⟩)
  |(go_at_call 69;refine(C.out _ (Kp.qW l _)).mono ?_;rintro e y ⟨r,rfl,P⟩)
  |go_in)
 exact P
def Jq (p mo n:Nat)(f:D->Option D)(tx:Int)(key:Ac)(w:Z)(c2:w.cell? ⟨p,7,none⟩=some (.map (some mo)))(g:cH w prog 3 mo n f)(h:(Lit.int .i64 tx).wf=true)(l:f (Y tx)=none)
  (j:R (.returned (Y 2)) w) :
  Calls prog 73 #[ab p,Y tx,.string key] w R:=by
 have a:Hid _:=keyOf_int_mk underlying3 h
 go_enter func73,ntmps73
 go_wp2_with (first
  |(at_lookup;refine lP _ rfl _ _ 99 rfl 3 129 jP underlying99 (oY _) mo n f rfl g (.int .i64 tx) _ rfl a.out _ l ?_)
  |go_in)
 exact j
def Jo (p mo n:Nat)(f:D->Option D)(tx:Int)(key:Ac)(w:Z)(c2:w.cell? ⟨p,7,none⟩=some (.map (some mo)))(h:cH w prog 3 mo n f)(j:(Lit.int .i64 tx).wf=true)(a:Addr)(y:f (Y tx)=some (.pointer (some a)))
  (l:key.size<=maxLen) (h1:dy key=false)
  (r:R (.returned (Y 1)) w) :
  Calls prog 73 #[ab p,Y tx,.string key] w R:=by
 have g:Hid _:=keyOf_int_mk underlying3 j;have o:Hid _:=l;clear l j
 go_enter func73,ntmps73
 go_wp2_with (first
  |(at_lookup;refine lP _ rfl _ _ 99 rfl 3 129 jP underlying99 (oY _) mo n f rfl h (.int .i64 tx) _ rfl g.out _ y ?_)
  |(go_at_call 67;refine(kU _ _ o.out).mono ?_;rintro e B ⟨rfl,rfl⟩)
  |go_in)
 exact r
def Jp (p mo n pt:Nat)(f:D->Option D)(tx:Int)(key:Ac)(w:Z)(c2:w.cell? ⟨p,7,none⟩=some (.map (some mo)))(g:cH w prog 3 mo n f)(h:(Lit.int .i64 tx).wf=true)(B:f (Y tx)=some (ab pt))
  (h1:dy key=true)
  (j:Calls prog 69 #[ab pt,.string key,.agg #[.string { data:=#[] },.bool true]] w λe l=>∃r,e = .returned (Y r)/\R (.returned (Y r)) l) :
  Calls prog 73 #[ab p,Y tx,.string key] w R:=by
 have a:Hid _:=keyOf_int_mk underlying3 h;have C:=jB key h1;have o:Hid (key.size<=maxLen):=by show key.size<=maxLen;unfold maxLen;omega
 have y:Hid _:=j;clear h C j
 go_enter func73,ntmps73
 go_wp2_with (first
  |(at_lookup;refine lP _ rfl _ _ 99 rfl 3 129 jP underlying99 (oY _) mo n f rfl g (.int .i64 tx) _ rfl a.out _ B ?_)
  |(go_at_call 67;refine(kU _ _ o.out).mono ?_;rintro e N ⟨rfl,rfl⟩)
  |(go_at_call 69;refine Calls.mono y.out ?_;rintro e l ⟨r,rfl,M⟩)
  |go_in)
 exact M
end
end
section
open Go.RowKit Go.Maps
section
variable {R:Al}
def QU (ph Q mm n nv:Nat)(f fv:D->Option D)(key:Ac)(t:Int)(w:Z)(c0:w.cell? ⟨ph,0,none⟩=some (.map (some Q)))(c1:w.cell? ⟨ph,1,none⟩=some (.map (some mm)))
  (M:cH w prog 9 mm n f) (y:cH w prog 225 Q nv fv)
  (ad:key.size<=8) (g cap:Nat) (zs:List Int) (hf:(f (.string key)).getD (ae) = ag g zs.length cap) (hl:zs.length<1000000)
  (hc:∀j,j<zs.length->w.cell? ⟨g,j,none⟩=some (Y (zs.getD j 0))) (hs:zs.Pairwise (·<·))
  (a:Nat) (C:zs.countP (λm=>decide (m<=t))=a+1)
  (m:Int) (hm:zs.getD a 0=m) (a3:(Lit.int .i64 m).wf=true) (val:Ac) (r:Bool) (hv:fv (.agg #[.string key,Y m])=some (.agg #[.string val,.bool r]))
  (hR:∀w',An w w'->R (.returned (.tuple #[.string val,.bool (!r)])) w') :
  Calls prog 91 #[ab ph,.string key,Y t] w R:=by
 have S:Hid _:=WideMaps.keyOf_string_mk underlying9 (show key.size<=maxLen by unfold maxLen;omega);have HR:=bR hR;have hB:=bR (λ(R:Al)=>AQ (R:=R) g cap zs t w (a+1) hl hc hs C);have am:a<zs.length:=by have:=List.countP_le_length (p:=λm=>decide (m<=t)) (l:=zs);omega
 have N:=hc a am;rw[hm]at N;obtain⟨kl,U⟩:=yY key m (by unfold maxLen;omega) a3;have P:Hid (∀W:Z,W.heap[Q]?=w.heap[Q]?->(Instr.lookup 206 (.map (some Q)) (.agg #[.string key,Y m]) false).run prog W = .ok (.agg #[.string val,.bool r]) W):=λW B=>by have:=(y.of_block B).look false yX underlying206 (ux W) U;rw[hv]at this;simpa using this
 have a4:=y.lt;have an:(a:Int)<zs.length:=by omega
 have a8:(a:Int)<=1000000:=by omega
 clear ad hR hc hs C hm a3 hv U y am hl;generalize zs.length=L at hf hB an;have a7:((a:Int)+1 == 0)=false:=by simp;omega
 go_enter func91,ntmps91
 go_wp2_with (first
  |(at_lookup;refine us _ rfl _ _ 207 rfl 9 26 gS underlying207 (qk _) mm n f rfl M (.string key) _ rfl S.out _ hf ?_)
  |(go_at_call 134;refine hB.out _ (λq=>?_);rw[show((a+1:Nat):Int)=(a:Int)+1 from rfl])
  |go_in)
 generalize B:w.drewN q=W;have a0:W.cell? ⟨ph,0,none⟩=some (.map (some Q)):=by rw[<- B];exact c0
 have a1:W.cell? ⟨g,a,none⟩=some (Y m):=by rw[<- B];exact N
 have l1:=P.out W.drew (by rw[<- B];rfl);have l2:∀o,(Instr.lookup 206 (.map (some Q)) (.agg #[.string key,Y m]) false).run prog (W.alloc o).drew = .ok (.agg #[.string val,.bool r]) (W.alloc o).drew:=λo=>P.out (W.alloc o).drew (by rw[<- B];exact Below.heap_alloc _ _ _ a4)
 have kk:An w W:=by rw[<- B];exact Kp.drewN _ _ _
 have b0:ph<W.heap.size:=World.block_lt_of_cell? W _ a0;have b1:g<W.heap.size:=World.block_lt_of_cell? W _ a1;clear P B M c0 c1 N
 go_region
 clear l1 l2 b0 b1 a0 a1
 go_wp2
 go_region
 all_goals
  try go_wp2
  exact HR.out _ (((kk.trans (Kp.al (λ_=>False) _ _) (λ_ _ h=>h)).trans (Kp.dr (λ_=>False) _) (λ_ _ h=>h)).trans (Kp.dr (λ_=>False) _) (λ_ _ h=>h))
end
end
section
open Go.RowKit Go.Maps
def fg (v:Ac × Bool):D:=.agg #[.string v.1,.bool v.2]
def encS (g:Ac->Option D)(v:D):Option D:=match v with | .string s=>g s|_=>none
def encI (g:Int->Option D)(v:D):Option D:=match v with | .int .i64 n=>g n|_=>none
def iu (g:Ac->Int->Option D)(v:D):Option D:=match v with | .agg cs=>(match cs.toList with | [.string s,.int .i64 n]=>g s n|_=>none)|_=>none
def cV(g:Ac->α)(k:Ac)(v:α):Ac->α:=λs=>if s=k then v else g s
def cN(g:Int->α)(k:Int)(v:α):Int->α:=λs=>if s=k then v else g s
def jv(g:Ac->Int->α)(k:Ac)(m:Int)(v:α):Ac->Int->α:=λs t=>if s=k/\t=m then v else g s t
def kj(g:Ac->α)(k:Ac)(v:α):cV g k v k=v:=by simp[cV]
def jI(g:Ac->α){k s:Ac}(h:s≠k)(v:α):cV g k v s=g s:=by simp[cV,h]
def gH(g:Int->α)(k:Int)(v:α):cN g k v k=v:=by simp[cN]
def xk(g:Int->α){k s:Int}(h:s≠k)(v:α):cN g k v s=g s:=by simp[cN,h]
def Eu (g:Ac->Option D)(k:Ac)(v:D):jc (encS g) (.string k) v (encS (cV g k (some v))):=by
 refine⟨by simp[encS,cV],λx a=>?_⟩;cases x<;>simp[encS]
 rename_i s
 have:s≠k:=λe=>a (by rw[e])
 simp[cV,this]
def Es (g:Int->Option D)(k:Int)(v:D):jc (encI g) (.int .i64 k) v (encI (cN g k (some v))):=by
 refine⟨by simp[encI,cN],λx a=>?_⟩;unfold encI;split
 .rename_i n
  have:n≠k:=λe=>a (by rw[e])
  simp[cN,this]
 .rfl
def BW (g:Int->Option D)(k:Int):rZ (encI g) (.int .i64 k) (encI (cN g k none)):=by
 refine⟨by simp[encI,cN],λx a=>?_⟩;unfold encI;split
 .rename_i n
  have:n≠k:=λe=>a (by rw[e])
  simp[cN,this]
 .rfl
def Et (g:Ac->Int->Option D)(k:Ac)(m:Int)(v:D):jc (iu g) (.agg #[.string k,.int .i64 m]) v (iu (jv g k m (some v))):=by
 refine⟨by simp[iu,jv],λx f=>?_⟩;unfold iu;split
 .rename_i cs
  split
  .rename_i s n a
   have:¬(s=k/\n=m):=λ⟨e1,e2⟩=>f (by
    subst e1;subst e2;have:cs=#[.string s,.int .i64 n]:=by apply Array.toList_inj.1;simpa using a
    rw[this])
   simp[jv,this]
  .rfl
 .rfl
structure da where
 c:Nat
 k:Nat
 i:Int
 s:Ac
structure XT where
 ft:Int
 wr:Ac->Option (Ac × Bool)
 nw:Nat
structure XL where
 lf:D
 lv:List D
 lg:List (Aj)
 sy:Nat
structure XB where
 MK:Int
 pb:Nat
 pt:Nat
structure XK where
 mu:Nat
 taken:Int
 un:Int->Option XB
 nb:Nat
structure XS where
 now:Int
 cJ:Int
 begun:Int
 cx:Int->Option XT
 dm:Nat
 bU:Ac->List Int
 cE:Ac->Int->Option (Ac × Bool)
 nv:Nat
 nm:Nat
 log:XL
 bk:XK
def eb:Ac:=⟨#[]⟩
structure po (own:Nat->da)(c:Nat)(w:Z)(l:XL):Prop where
 jD:∀b,l.lf.ownBlock=some b->own b=⟨c,8,0,eb⟩
 nz:w.ownsRow 0 48 1 l.lf (cG l.lg).length l.lv
 jT:∀(i:Nat) v,l.lv[i]?=some v->∀b,v.ownBlock=some b->own b=⟨c,9,(i:Int),eb⟩
 my:∀(i:Nat) v f,l.lv[i]?=some v->(cG l.lg)[i]?=some f->BR 0 w v f
structure rR (own:Nat->da)(c:Nat)(w:Z)(k:XK):Prop where
 lH:own k.mu=⟨c,10,0,eb⟩
 ll:cH w prog 3 k.mu k.nb (encI λn=>(k.un n).map λb=>.pointer (some ⟨b.pb,0,none⟩))
 jT:∀n b,k.un n=some b->own b.pb=⟨c,11,n,eb⟩
 blk:∀n b,k.un n=some b->w.heap[b.pb]?=some (.cells #[.int .i64 b.MK,.pointer (some ⟨b.pt,0,none⟩)] 151 (0,0))
structure XR (own:Nat->da)(c:Nat)(w:Z)(p:Nat)(s:XS)(mo ph mv mm:Nat)(pt mw:Int->Nat)(sl:Ac->D):Prop where
 dc:own p=⟨c,0,0,eb⟩
 dQ:own mo=⟨c,1,0,eb⟩
 fS:own ph=⟨c,2,0,eb⟩
 fh:own mv=⟨c,3,0,eb⟩
 gi:own mm=⟨c,4,0,eb⟩
 store:w.heap[p]?=some (.cells #[.pointer (some ⟨ph,0,none⟩),.int .i64 s.cJ,.int .i64 s.now,s.log.lf,.int .i64 (gQ s.log.lg.length:Nat),.int .i64 (s.log.sy:Nat),.int .i64 s.begun,.map (some mo),.int .i64 s.bk.taken,.map (some s.bk.mu)] 102 (0,0))
 dJ:w.heap[ph]?=some (.cells #[.map (some mv),.map (some mm)] 209 (0,0))
 opn:cH w prog 3 mo s.dm (encI λn=>(s.cx n).map λ_=>.pointer (some ⟨pt n,0,none⟩))
 ed:∀n t,s.cx n=some t->own (pt n)=⟨c,5,n,eb⟩/\own (mw n)=⟨c,6,n,eb⟩
 tx:∀n t,s.cx n=some t->w.heap[pt n]?=some (.cells #[.int .i64 t.ft,.map (some (mw n))] 132 (0,0))
 wr:∀n t,s.cx n=some t->cH w prog 9 (mw n) t.nw (encS λk=>(t.wr k).map fg)
 gn:cH w prog 225 mv s.nv (iu λk m=>(s.cE k m).map fg)
 e9:cH w prog 9 mm s.nm (encS λk=>if s.bU k=[]then none else some (sl k))
 ib:∀k,s.bU k≠[]->∀b,(sl k).ownBlock=some b->own b=⟨c,7,0,k⟩
 row:∀k,s.bU k≠[]->w.ownsRow 0 3 1 (sl k) (s.bU k).length ((s.bU k).map (Value.int .i64))
 log:po own c w s.log
 gV:rR own c w s.bk
def bX{w:Z}{b:Nat}{o:Obj}(h:w.heap[b]?=some o):b<w.heap.size:=(aO.1 h).1
def sY {w:Z}{b:Nat}{cs:Ak}{e:Af}(h:w.heap[b]?=some (.cells cs e (0,0)))(i:Nat):w.frozen? ⟨b,i,none⟩=false:=by simp[World.frozen?,h]
section
variable {own own':Nat->da}{c:Nat}{w w':Z}{p:Nat}{s:XS}{mo ph mv mm:Nat}{pt mw:Int->Nat}{sl:Ac->D}
def po.len {l:XL}(h:po own c w l):l.lv.length=(cG l.lg).length:=by simpa using h.nz.1
def ra {base e size m:Nat}{v:D}{xs:List D}(f:w.ownsRow base e size v m xs)(l:∀b,v.ownBlock=some b->w'.heap[b]?=w.heap[b]?):w'.ownsRow base e size v m xs:=by
 refine⟨f.1,?_⟩;rcases f.2 with h|⟨g,cap,a,rfl,hb,j,r⟩
 .exact Or.inl h
 .exact Or.inr ⟨g,cap,a,rfl,hb,(l g rfl).trans j,r⟩
def po.frame {l:XL}(h:po own c w l)(hb:∀b,b<w.heap.size->(own b).c=c->((own b).k=8\/(own b).k=9)->w'.heap[b]?=w.heap[b]?)(j:∀b,b<w.heap.size->(own b).c=c->((own b).k=8\/(own b).k=9)->own' b=own b):po own' c w' l:=by
 refine⟨λb e=>?_,?_,λi v hv b e=>?_,λi v f hv o=>?_⟩
 .have a:=h.jD b e;rw[j b (h.nz.lt b e).2 (by rw[a]) (by rw[a];simp)];exact a
 .exact ra h.nz (λb e=>hb b (h.nz.lt b e).2 (by rw[h.jD b e]) (by rw[h.jD b e];simp))
 .have a:=h.jT i v hv b e;have r:i<(cG l.lg).length:=by rw[<- h.len];exact(ak.1 hv).1
  rw[j b ((h.my i v _ hv (aQ r)).lt b e).2 (by rw[a]) (by rw[a];simp)];exact a
 .have g:=h.my i v f hv o;exact ra g (λb e=>hb b (g.lt b e).2 (by rw[h.jT i v hv b e]) (by rw[h.jT i v hv b e];simp))
def oB {a b:Nat}{k:Nat}{i:Int}{s:Ac}(h:own b=⟨c,k,i,s⟩)(f:(own a).k=8\/(own a).k=9)(g:k<8):a≠b:=λe=>by subst e;rw[h]at f;simp at f;omega
def qT {a b:Nat}{k:Nat}{i:Int}{s:Ac}(h:own b=⟨c,k,i,s⟩)(f:10<=(own a).k)(g:k<10):a≠b:=λe=>by subst e;rw[h]at f;simp at f;omega
def rR.frame {k:XK}(h:rR own c w k)(hb:∀b,b<w.heap.size->(own b).c=c->10<=(own b).k->w'.heap[b]?=w.heap[b]?)(f:∀b,b<w.heap.size->(own b).c=c->10<=(own b).k->own' b=own b):rR own' c w' k:=by
 have g:=h.ll.lt;refine⟨?_,?_,λn b e=>?_,λn b e=>?_⟩
 .rw[f k.mu g (by rw[h.lH]) (by rw[h.lH];simp)];exact h.lH
 .exact h.ll.of_block (hb k.mu g (by rw[h.lH]) (by rw[h.lH];simp))
 .have a:=h.jT n b e;rw[f b.pb (bX (h.blk n b e)) (by rw[a]) (by rw[a];simp)];exact a
 .have a:=h.jT n b e;rw[hb b.pb (bX (h.blk n b e)) (by rw[a]) (by rw[a];simp)];exact h.blk n b e
def XR.frame (h:XR own c w p s mo ph mv mm pt mw sl)(hb:∀b,b<w.heap.size->(own b).c=c->w'.heap[b]?=w.heap[b]?)(a:∀b,b<w.heap.size->(own b).c=c->own' b=own b):XR own' c w' p s mo ph mv mm pt mw sl:=by
 have P:=bX h.store;have N:=bX h.dJ;have lo:=h.opn.lt;have lv:=h.gn.lt;have lm:=h.e9.lt;refine⟨?_,?_,?_,?_,?_,?_,?_,?_,?_,?_,?_,?_,?_,?_,?_,h.log.frame (λb l j _=>hb b l j) (λb l j _=>a b l j),h.gV.frame (λb l j _=>hb b l j) (λb l j _=>a b l j)⟩
 .rw[a p P (by rw[h.dc])];exact h.dc
 .rw[a mo lo (by rw[h.dQ])];exact h.dQ
 .rw[a ph N (by rw[h.fS])];exact h.fS
 .rw[a mv lv (by rw[h.fh])];exact h.fh
 .rw[a mm lm (by rw[h.gi])];exact h.gi
 .rw[hb p P (by rw[h.dc])];exact h.store
 .rw[hb ph N (by rw[h.fS])];exact h.dJ
 .exact h.opn.of_block (hb mo lo (by rw[h.dQ]))
 .intro n t e;have f:=h.ed n t e;rw[a (pt n) (bX (h.tx n t e)) (by rw[f.1]),a (mw n) ((h.wr n t e).lt) (by rw[f.2])];exact f
 .intro n t e;rw[hb (pt n) (bX (h.tx n t e)) (by rw[(h.ed n t e).1])];exact h.tx n t e
 .intro n t e;exact(h.wr n t e).of_block (hb (mw n) ((h.wr n t e).lt) (by rw[(h.ed n t e).2]))
 .exact h.gn.of_block (hb mv lv (by rw[h.fh]))
 .exact h.e9.of_block (hb mm lm (by rw[h.gi]))
 .intro k o b e;have f:=h.ib k o b e;rw[a b ((h.row k o).lt b e).2 (by rw[f])];exact f
 .intro k o;have D:=h.row k o;refine⟨D.1,?_⟩;rcases D.2 with f|⟨g,cap,y,e,B,M,r⟩
  .exact Or.inl f
  .have C:=bX M;exact Or.inr ⟨g,cap,y,e,B,(hb g C (by rw[h.ib k o g (by rw[e];rfl)])).trans M,r⟩
def oo (g:Int->Option D)(n:Int):encI g (.int .i64 n)=g n:=rfl
def iv (g:Ac->Option D)(k:Ac):encS g (.string k)=g k:=rfl
def JN (g:Ac->Int->Option D)(k:Ac)(m:Int):iu g (.agg #[.string k,.int .i64 m])=g k m:=rfl
end
end
section
open Go.RowKit Go.Maps
section
variable {own own':Nat->da}{c:Nat}{w w':Z}{p:Nat}{s:XS}{mo ph mv mm:Nat}{pt mw:Int->Nat}{sl:Ac->D}
def dK {a b:Nat}(h:own a≠own b):a≠b:=λe=>h (by rw[e])
def XR.Pe (h:XR own c w p s mo ph mv mm pt mw sl)(hb:∀b,b≠mo->w'.heap[b]?=w.heap[b]?)(txs':Int->Option XT)(f:Nat)
  (l:cH w' prog 3 mo f (encI λn=>(txs' n).map λ_=>.pointer (some ⟨pt n,0,none⟩))) (a:∀n t,txs' n=some t->s.cx n=some t) :
  XR own c w' p { s with cx:=txs',dm:=f } mo ph mv mm pt mw sl:=by
 have N:p≠mo:=dK (own:=own) (by rw[h.dc,h.dQ];simp);have M:ph≠mo:=dK (own:=own) (by rw[h.fS,h.dQ];simp);have nv:mv≠mo:=dK (own:=own) (by rw[h.fh,h.dQ];simp);have nm:mm≠mo:=dK (own:=own) (by rw[h.gi,h.dQ];simp);refine⟨h.dc,h.dQ,h.fS,h.fh,h.gi,(hb p N).trans h.store,(hb ph M).trans h.dJ,l,λn t e=>h.ed n t (a n t e),λn t e=>?_,λn t e=>?_,h.gn.of_block (hb mv nv),h.e9.of_block (hb mm nm),h.ib,λk j=>?_,h.log.frame (λb _ _ j=>hb b (oB h.dQ j (by omega))) (λ_ _ _ _=>rfl),h.gV.frame (λb _ _ j=>hb b (qT h.dQ j (by omega))) (λ_ _ _ _=>rfl)⟩
 .exact(hb _ (dK (own:=own) (by rw[(h.ed n t (a n t e)).1,h.dQ];simp))).trans (h.tx n t (a n t e))
 .exact(h.wr n t (a n t e)).of_block (hb _ (dK (own:=own) (by rw[(h.ed n t (a n t e)).2,h.dQ];simp)))
 .have B:=h.row k j;refine⟨B.1,?_⟩;rcases B.2 with C|⟨g,cap,o,e,y,D,r⟩
  .exact Or.inl C
  .exact Or.inr ⟨g,cap,o,e,y,(hb g (dK (own:=own) (by rw[h.ib k j g (by rw[e];rfl),h.dQ];simp))).trans D,r⟩
def Mp {F:Int->D}(g:Int->Option XT)(k:Int)(v:Option XT):(λn=>((cN g k v) n).map λ_=>F n)=cN (λn=>(g n).map λ_=>F n) k (v.map λ_=>F k):=by
 funext n
 by_cases e:n=k
 .subst e;simp[cN]
 .simp[cN,e]
variable {R:Al}
def vF {w:Z}{b i:Nat}{cs:Ak}{e:Af}{fz:Nat × Nat}(h:w.heap[b]?=some (.cells cs e fz))(v:D):(w.setCell ⟨b,i,none⟩ v).heap[b]?=some (.cells (cs.setIfInBounds i v) e fz):=by simp[World.setCell,aV,h]
def Nl (pt:Int->Nat)(cx:Int->Option XT)(k:Int)(x:Nat)(t:XT):(encI λn=>((cN cx k (some t)) n).map λ_=>Value.pointer (some ⟨cN pt k x n,0,none⟩))=encI (cN (λn=>(cx n).map λ_=>Value.pointer (some ⟨pt n,0,none⟩)) k (some (ab x))):=by
 congr 1
 funext n
 by_cases e:n=k
 .subst e;simp[cN]
 .simp[cN,e]
def RV (h:XR own c w p s mo ph mv mm pt mw sl)(N:0<=s.begun)(l:s.begun<9223372036854775807)(o:s.cx (s.begun+1)=none)
  (h0:8<=s.dm->R (.returned (.tuple #[Y 0,Y 3])) w)
  (h1:s.dm<8->∀w' own',Kp (λb=>(own b).c=c) w w'->(∀b,b<w.heap.size->own' b=own b)->(∀b,w.heap.size<=b->b<w'.heap.size->(own' b).c=c)->
   XR own' c w' p { s with begun:=s.begun+1,cx:=cN s.cx (s.begun+1) (some ⟨s.now,λ_=>none,0⟩),dm:=s.dm+1 } mo ph mv mm (cN pt (s.begun+1) (w.heap.size+1)) (cN mw (s.begun+1) w.heap.size) sl->
   R (.returned (.tuple #[Y (s.begun+1),Y 0])) w') :
  Calls prog 34 #[ab p] w R:=by
 have c2:w.cell? ⟨p,7,none⟩=some (.map (some mo)):=ct h.store 7;have np:p≠mo:=dK (own:=own) (by rw[h.dc,h.dQ];simp)
 by_cases hn:8<=s.dm
 .exact Hm p mo s.dm _ w c2 h.opn (by omega) (h0 hn)
 .refine Hn p mo s.dm _ w s.now s.begun (ct h.store 2) (ct h.store 6) c2 (sY h.store 6) N l h.opn (by omega) (by rw[oo,o];rfl) (Es _ _ _) (λw' Z ht=>?_);rw[<- Nl (t:=⟨s.now,λ_=>none,0⟩)]at Z;have W:(((w.setCell ⟨p,6,none⟩ (Y (s.begun+1))).alloc (.map #[] 0)).alloc (.cells #[Y s.now,.map (some w.heap.size)] 132)).drew.heap.size=w.heap.size+2:=by simp[World.setCell]
  have ad:w'.heap.size=w.heap.size+2:=(Dw ht).trans W;have old:∀b,b<w.heap.size->b≠p->b≠mo->w'.heap[b]?=w.heap[b]?:=λb Q h1 h2=>by rw[lG ht b h2,CS w ⟨p,6,none⟩ _ _ _ b Q h1]
  have an:=h.opn.lt;have C:w'.heap[p]?=some (.cells #[ab ph,Y s.cJ,Y s.now,s.log.lf,Y (gQ s.log.lg.length:Nat),Y s.log.sy,Y (s.begun+1),.map (some mo),Y s.bk.taken,.map (some s.bk.mu)] 102 (0,0)):=by
   rw[lG ht p np];show(((w.setCell ⟨p,6,none⟩ (Y (s.begun+1))).alloc (.map #[] 0)).alloc _).heap[p]?=_;have lp:=bX h.store;have hs:(w.setCell ⟨p,6,none⟩ (Y (s.begun+1))).heap.size=w.heap.size:=by simp[World.setCell]
   rw[Below.heap_alloc _ _ _ (by simp;omega),Below.heap_alloc _ _ _ (by omega),vF h.store]
   rfl
  have y:(w.setCell ⟨p,6,none⟩ (Y (s.begun+1))).heap.size=w.heap.size:=by simp[World.setCell]
  have B:w'.heap[w.heap.size]?=some (.map #[] 0):=by rw[lG ht _ (by omega)];show(((w.setCell ⟨p,6,none⟩ (Y (s.begun+1))).alloc (.map #[] 0)).alloc _).heap[w.heap.size]?=_;rw[Below.heap_alloc _ _ _ (by simp<;>omega),<- y];exact bI _ _
  have D:w'.heap[w.heap.size+1]?=some (.cells #[Y s.now,.map (some w.heap.size)] 132 (0,0)):=by
   rw[lG ht _ (by omega)];have U:((w.setCell ⟨p,6,none⟩ (Y (s.begun+1))).alloc (.map #[] 0)).heap.size=w.heap.size+1:=by simp[y]
   show(((w.setCell ⟨p,6,none⟩ (Y (s.begun+1))).alloc (.map #[] 0)).alloc _).heap[w.heap.size+1]?=_;rw[<- U];exact bI _ _
  have a:∀b,b<w.heap.size->(λb=>if b=w.heap.size then(⟨c,6,s.begun+1,eb⟩:da)else if b=w.heap.size+1 then⟨c,5,s.begun+1,eb⟩else own b) b=own b:=λb hb=>by
   have e1:b≠w.heap.size:=by omega
   have e2:b≠w.heap.size+1:=by omega
   simp[e1,e2]
  refine h1 (by omega) w' (λb=>if b=w.heap.size then⟨c,6,s.begun+1,eb⟩else if b=w.heap.size+1 then⟨c,5,s.begun+1,eb⟩else own b) ?_ a ?_ ?_
  .refine((((Kp.sc w _ _ (S:=λb=>(own b).c=c) (by show(own p).c=c;rw[h.dc])).trans (Kp.al (λb=>(own b).c=c) _ _) (λ_ _ h=>h)).trans (Kp.al (λb=>(own b).c=c) _ _) (λ_ _ h=>h)).trans (Kp.dr (λb=>(own b).c=c) _) (λ_ _ h=>h)).trans (Kp.ml (S:=λb=>(own b).c=c) ht (by rw[h.dQ])) (λ_ _ h=>h)
  .intro b l am;rcases(by omega:b=w.heap.size\/b=w.heap.size+1)with e|e
   .subst e;simp
   .subst e;simp
  .have lp:=bX h.store;have lh:=bX h.dJ;have lo:=h.opn.lt;have lv:=h.gn.lt;have lm:=h.e9.lt;refine⟨(a p lp).trans h.dc,(a mo lo).trans h.dQ,(a ph lh).trans h.fS,(a mv lv).trans h.fh,(a mm lm).trans h.gi,C,?_,Z,?_,?_,?_,?_,?_,?_,?_,h.log.frame (λb j _ f=>old b j (oB h.dc f (by omega)) (oB h.dQ f (by omega))) (λb j _ _=>a b j),h.gV.frame (λb j _ f=>old b j (qT h.dc f (by omega)) (qT h.dQ f (by omega))) (λb j _ _=>a b j)⟩
   .exact(old ph lh (dK (own:=own) (by rw[h.fS,h.dc];simp)) (dK (own:=own) (by rw[h.fS,h.dQ];simp))).trans h.dJ
   .intro n t e
    by_cases en:n=s.begun+1
    .subst en;simp[cN]
    .simp only[cN,en,if_false]at e ⊢;have h1:=h.ed n t e;exact⟨(a _ (bX (h.tx n t e))).trans h1.1,(a _ (h.wr n t e).lt).trans h1.2⟩
   .intro n t e
    by_cases en:n=s.begun+1
    .subst en;simp[cN]at e ⊢;subst e;exact D
    .simp only[cN,en,if_false]at e ⊢;exact(old _ (bX (h.tx n t e)) (dK (own:=own) (by rw[(h.ed n t e).1,h.dc];simp)) (dK (own:=own) (by rw[(h.ed n t e).1,h.dQ];simp))).trans (h.tx n t e)
   .intro n t e
    by_cases en:n=s.begun+1
    .subst en;simp[cN]at e ⊢;subst e;have:=(vu w prog 9).of_block (w':=w') (by rw[B];exact(bI w _).symm);refine(show(encS λk=>Option.map fg none)=λ_=>none from ?_) ▸ this
     funext v;cases v<;>rfl
    .simp only[cN,en,if_false]at e ⊢;exact(h.wr n t e).of_block (old _ (h.wr n t e).lt (dK (own:=own) (by rw[(h.ed n t e).2,h.dc];simp)) (dK (own:=own) (by rw[(h.ed n t e).2,h.dQ];simp)))
   .exact h.gn.of_block (old mv lv (dK (own:=own) (by rw[h.fh,h.dc];simp)) (dK (own:=own) (by rw[h.fh,h.dQ];simp)))
   .exact h.e9.of_block (old mm lm (dK (own:=own) (by rw[h.gi,h.dc];simp)) (dK (own:=own) (by rw[h.gi,h.dQ];simp)))
   .intro k f b e;exact(a b ((h.row k f).lt b e).2).trans (h.ib k f b e)
   .intro k f;have h0:=h.row k f;refine⟨h0.1,?_⟩;rcases h0.2 with h1|⟨g,cap,M,e,P,hg,r⟩
    .exact Or.inl h1
    .have j:=h.ib k f g (by rw[e];rfl);exact Or.inr ⟨g,cap,M,e,P,(old g (bX hg) (dK (own:=own) (by rw[j,h.dc];simp)) (dK (own:=own) (by rw[j,h.dQ];simp))).trans hg,r⟩
end
end
section
open Go.RowKit Go.Maps
def gI (t:XT)(key:Ac)(v:Ac × Bool):Option XT:=
 if(t.wr key).isSome then some { t with wr:=cV t.wr key (some v) } else if t.nw<10 then some { t with wr:=cV t.wr key (some v),nw:=t.nw+1 } else none
section
variable {own own':Nat->da}{c:Nat}{w w':Z}{p:Nat}{s:XS}{mo ph mv mm:Nat}{pt mw:Int->Nat}{sl:Ac->D}
def XR.rewrite (h:XR own c w p s mo ph mv mm pt mw sl)(tx:Int)(t t':XT)(e:s.cx tx=some t)(hb:∀b,b<w.heap.size->b≠mw tx->w'.heap[b]?=w.heap[b]?)(M:t'.ft=t.ft)
  (N:cH w' prog 9 (mw tx) t'.nw (encS λk=>(t'.wr k).map fg)):XR own c w' p { s with cx:=cN s.cx tx (some t') } mo ph mv mm pt mw sl:=by
 have Q:=bX h.store;have P:=bX h.dJ;have lo:=h.opn.lt;have lv:=h.gn.lt;have lm:=h.e9.lt;have a:=(h.ed tx t e).2;have C:(λn=>((cN s.cx tx (some t')) n).map λ_=>Value.pointer (some ⟨pt n,0,none⟩))=λn=>(s.cx n).map λ_=>Value.pointer (some ⟨pt n,0,none⟩):=by
  funext n
  by_cases en:n=tx
  .subst en;simp[cN,e]
  .simp[cN,en]
 refine⟨h.dc,h.dQ,h.fS,h.fh,h.gi,?_,?_,?_,?_,?_,?_,?_,?_,h.ib,λk j=>?_,h.log.frame (λb f _ j=>hb b f (oB a j (by omega))) (λ_ _ _ _=>rfl),h.gV.frame (λb f _ j=>hb b f (qT a j (by omega))) (λ_ _ _ _=>rfl)⟩
 .exact(hb p Q (dK (own:=own) (by rw[h.dc,a];simp))).trans h.store
 .exact(hb ph P (dK (own:=own) (by rw[h.fS,a];simp))).trans h.dJ
 .show cH w' _ _ _ _ (encI λn=>((cN s.cx tx (some t')) n).map λ_=>Value.pointer (some ⟨pt n,0,none⟩));rw[C];exact h.opn.of_block (hb mo lo (dK (own:=own) (by rw[h.dQ,a];simp)))
 .intro n t1 e1
  by_cases en:n=tx
  .subst en;exact h.ed n t e
  .simp only[cN,en,if_false]at e1;exact h.ed n t1 e1
 .intro n t1 e1
  by_cases en:n=tx
  .subst en;simp only[gH,aH]at e1;subst e1;rw[M];exact(hb _ (bX (h.tx n t e)) (dK (own:=own) (by rw[(h.ed n t e).1,a];simp))).trans (h.tx n t e)
  .simp only[cN,en,if_false]at e1;exact(hb _ (bX (h.tx n t1 e1)) (dK (own:=own) (by rw[(h.ed n t1 e1).1,a];simp))).trans (h.tx n t1 e1)
 .intro n t1 e1
  by_cases en:n=tx
  .subst en;simp only[gH,aH]at e1;subst e1;exact N
  .simp only[cN,en,if_false]at e1;exact(h.wr n t1 e1).of_block (hb _ (h.wr n t1 e1).lt (dK (own:=own) (by rw[(h.ed n t1 e1).2,a];simp[en])))
 .exact h.gn.of_block (hb mv lv (dK (own:=own) (by rw[h.fh,a];simp)))
 .exact h.e9.of_block (hb mm lm (dK (own:=own) (by rw[h.gi,a];simp)))
 .have y:=h.row k j;refine⟨y.1,?_⟩;rcases y.2 with D|⟨g,cap,l,e,o,B,r⟩
  .exact Or.inl D
  .exact Or.inr ⟨g,cap,l,e,o,(hb g (bX B) (dK (own:=own) (by rw[h.ib k j g (by rw[e];rfl),a];simp))).trans B,r⟩
def XR.kept (h:XR own c w p s mo ph mv mm pt mw sl)(a:An w w'):XR own c w' p s mo ph mv mm pt mw sl:=
 h.frame (λb hb _=>a.block b hb (λe=>e)) (λ_ _ _=>rfl)
def Mq (g:Ac->Option (Ac × Bool))(k:Ac)(v:Ac × Bool):(λn=>((cV g k (some v)) n).map fg)=cV (λn=>(g n).map fg) k (some (fg v)):=by
 funext n
 by_cases e:n=k
 .subst e;simp[cV]
 .simp[cV,e]
variable {R:Al}
def Gz (h:XR own c w p s mo ph mv mm pt mw sl)(tx:Int)(t:XT)(e:s.cx tx=some t)(key val:Ac)(g:Bool)(f:dy key=true)(D:t.nw<=10)
  (h0:gI t key (val,g)=none->∀w',An w w'->R (.returned (Y 3)) w')
  (h1:∀t',gI t key (val,g)=some t'->∀w',Kp (λb=>b=mw tx) w w'->XR own c w' p { s with cx:=cN s.cx tx (some t') } mo ph mv mm pt mw sl->R (.returned (Y 0)) w') :
  Calls prog 69 #[.pointer (some ⟨pt tx,0,none⟩),.string key,.agg #[.string val,.bool g]] w R:=by
 have j:=jB key f;have c1:w.cell? ⟨pt tx,1,none⟩=some (.map (some (mw tx))):=ct (h.tx tx t e) 1;have y:=h.wr tx t e;have hp:jc (encS λk=>(t.wr k).map fg) (.string key) (.agg #[.string val,.bool g]) (encS λk=>((cV t.wr key (some (val,g))) k).map fg):=by rw[Mq];exact Eu _ _ _
 cases o:t.wr key with
 |some C=>
  have a:gI t key (val,g)=some { t with wr:=cV t.wr key (some (val,g)) }:=by simp[gI,o]
  refine RL (pt tx) (mw tx) t.nw _ key val g w c1 y j C.1 C.2 (by rw[iv,o];rfl) (by omega) hp (λw' f r=>h1 _ a w' f (h.rewrite tx t _ e (λb hb l=>f.block b hb l) rfl r))
 |none=>
  by_cases B:t.nw<10
  .have a:gI t key (val,g)=some { t with wr:=cV t.wr key (some (val,g)),nw:=t.nw+1 }:=by simp[gI,o,B]
   refine RN (pt tx) (mw tx) t.nw _ key val g w c1 y j (by rw[iv,o];rfl) (by omega) hp (λw' f r=>h1 _ a w' f (h.rewrite tx t _ e (λb hb l=>f.block b hb l) rfl r))
  .have a:gI t key (val,g)=none:=by simp[gI,o,B]
   refine RM (pt tx) (mw tx) t.nw _ key val g w c1 y (by unfold maxLen;omega) (by rw[iv,o];rfl) (by omega) (λw' f=>h0 a w' f)
def Kp.na {S:Nat->Prop}(a:Kp S w w')(f:∀b,S b->(own b).c=c):Kp (λb=>(own b).c=c) w w':=a.mono (λb _ h=>f b h)
def R8 (h:XR own c w p s mo ph mv mm pt mw sl)(tx:Int)(j:(Lit.int .i64 tx).wf=true)(key val:Ac)(o:key.size<=maxLen)(y:val.size<=maxLen)(r:∀n t,s.cx n=some t->t.nw<=10)
  (h0:s.cx tx=none->R (.returned (Y 2)) w)
  (h1:∀t,s.cx tx=some t->(dy key && decide (val.size<=20))=false->R (.returned (Y 1)) w)
  (D:∀t,s.cx tx=some t->(dy key && decide (val.size<=20))=true->gI t key (val,false)=none->∀w',Kp (λb=>(own b).c=c) w w'->XR own c w' p s mo ph mv mm pt mw sl->R (.returned (Y 3)) w')
  (M:∀t t',s.cx tx=some t->(dy key && decide (val.size<=20))=true->gI t key (val,false)=some t'->∀w',Kp (λb=>(own b).c=c) w w'->XR own c w' p { s with cx:=cN s.cx tx (some t') } mo ph mv mm pt mw sl->R (.returned (Y 0)) w') :
  Calls prog 35 #[ab p,Y tx,.string key,.string val] w R:=by
 have c2:w.cell? ⟨p,7,none⟩=some (.map (some mo)):=ct h.store 7;cases e:s.cx tx with
 |none=>exact Oh p mo s.dm _ tx key val w c2 h.opn j (by rw[oo,e];rfl) (h0 e)
 |some t=>
  cases hb:(dy key && decide (val.size<=20))with
  |false=>exact Of p mo s.dm _ tx key val w c2 h.opn j ⟨pt tx,0,none⟩ (by rw[oo,e];rfl) o y hb (h1 t e hb)
  |true=>
   have f:dy key=true/\val.size<=20:=by simpa using hb
   refine Og p mo s.dm (pt tx) _ tx key val w c2 h.opn j (by rw[oo,e];rfl) f.1 f.2 (λP g=>?_);have l:=h.kept g;refine Gz l tx t e key val false f.1 (r tx t e) (λN C a=>⟨3,rfl,?_⟩) (λt' ht C a B=>⟨0,rfl,?_⟩)
   .exact D t e hb N C ((g.trans a (λ_ _ h=>h)).na (λ_ h=>h.elim)) (l.kept a)
   .exact M t t' e hb ht C ((g.mono (S':=λb=>b=mw tx) (λ_ _ h=>h.elim)).trans a (λ_ _ h=>h) |>.na (λb hb=>by rw[hb,(h.ed tx t e).2])) B
def RZ (h:XR own c w p s mo ph mv mm pt mw sl)(tx:Int)(f:(Lit.int .i64 tx).wf=true)(key:Ac)(g:key.size<=maxLen)(j:∀n t,s.cx n=some t->t.nw<=10)
  (h0:s.cx tx=none->R (.returned (Y 2)) w)
  (h1:∀t,s.cx tx=some t->dy key=false->R (.returned (Y 1)) w)
  (r:∀t,s.cx tx=some t->dy key=true->gI t key (eb,true)=none->∀w',Kp (λb=>(own b).c=c) w w'->XR own c w' p s mo ph mv mm pt mw sl->R (.returned (Y 3)) w')
  (y:∀t t',s.cx tx=some t->dy key=true->gI t key (eb,true)=some t'->∀w',Kp (λb=>(own b).c=c) w w'->XR own c w' p { s with cx:=cN s.cx tx (some t') } mo ph mv mm pt mw sl->R (.returned (Y 0)) w') :
  Calls prog 73 #[ab p,Y tx,.string key] w R:=by
 have c2:w.cell? ⟨p,7,none⟩=some (.map (some mo)):=ct h.store 7;cases e:s.cx tx with
 |none=>exact Jq p mo s.dm _ tx key w c2 h.opn f (by rw[oo,e];rfl) (h0 e)
 |some t=>
  cases hb:dy key with
  |false=>exact Jo p mo s.dm _ tx key w c2 h.opn f ⟨pt tx,0,none⟩ (by rw[oo,e];rfl) g hb (h1 t e hb)
  |true=>
   refine Jp p mo s.dm (pt tx) _ tx key w c2 h.opn f (by rw[oo,e];rfl) hb ?_;refine Gz h tx t e key eb true hb (j tx t e) (λB o a=>⟨3,rfl,?_⟩) (λt' ht o a l=>⟨0,rfl,?_⟩)
   .exact r t e hb B o (a.na (λ_ h=>h.elim)) (h.kept a)
   .exact y t t' e hb ht o (a.na (λb hb=>by rw[hb,(h.ed tx t e).2])) l
end
end
end Go.Proofs.YthbdpfccfcceiaaGreatDoor
