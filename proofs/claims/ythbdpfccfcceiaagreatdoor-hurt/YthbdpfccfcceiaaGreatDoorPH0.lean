/-
  Of hurt_card.
-/
import Derived.Test.YthbdpfccfcceiaaGreatDoorZT4
import Derived.SizedLaws
import Derived.ChangeAlike
import Derived.Conc.Holds
set_option linter.all false
namespace Go.Proofs.YthbdpfccfcceiaaGreatDoor
set_option maxRecDepth 100000
open Go.Proofs.Tryz
open Go.ChangeShapes Go.WideShapes Go.ChangeAt Go.RowKit Go.Conc
variable {W w:Z}{v x:D}{n:Nat}{f:Nat->A3}
def yQ:prog.readableRec 3=true:=by kernel_rfl
def yR:3<prog.types.size:=of_decide_eq_true (by kernel_rfl)
def K6{z:Int}(h:(Lit.int .i64 z).wf=true):dY z:=by have m0:IntKind.i64.min = -9223372036854775808:=rfl;unfold dY;simp[Lit.wf]at h;omega
def sK{a:Addr}(h:W.cell? a=some x):(iH W).cell? a=some x:=by
 rw[<- h];refine World.cell?_of_block ?_;unfold World.cell? at h;split at h
 .rename_i hb
  rw[hb];exact PQ hb λe=>e
 .cases h
def DL{k i:Nat}{o:Obj}(h:W.cell? ⟨k,i,none⟩=some x)(a:W.heap[k]?=some o):¬ju o:=by unfold World.cell? at h;simp only[a]at h;cases o<;>first | (cases h;done)|exactλe=>e
def Qt(h:db W):db (iH W):=λi a=>⟨sK (h i a).1,sK (h i a).2⟩
def GV(h:mE W v n f):mE (iH W) v n f:=by obtain⟨a,cap,e,hm,h⟩:=h;refine⟨a,cap,e,hm,λo=>?_⟩;obtain⟨g,l,e2,k⟩:=h o;exact⟨g,l,e2,λi j=>sK (k.c0 i j),λi j=>sK (k.c1 i j),λi j=>sK (k.c2 i j),by rw[wQ];exact k.lt,k.ok⟩
def Qs(h:db w)(τ:Nat->Question->Nat)(d:Nat):db (on w τ d):=h
def GR(h:mE w v n f)(τ:Nat->Question->Nat)(d:Nat):mE (on w τ d) v n f:=by obtain⟨a,cap,e,hm,h⟩:=h;refine⟨a,cap,e,hm,λl=>?_⟩;obtain⟨g,j,e2,k⟩:=h l;exact⟨g,j,e2,k.c0,k.c1,k.c2,k.lt,k.ok⟩
structure GG (w w':Z):Prop where
 os:w'.os=w.os
 output:w'.output=w.output
 size:w.heap.size<=w'.heap.size
 block:∀k,k<w.heap.size->w'.heap[k]?=w.heap[k]?
def La(l:db W)(hv:mE W v n f){N P Q:Int}(h1:dY N)(R:dY P)(U:dY Q){Post:D->Z->Prop}
  (hP:∀w,An W (on w W.tape 0)->Post (.bool true) w) :
  Ends prog Post (solo (G (Frame.enter prog 9 #[v,Y N,Y P,Y Q] .normal) []) W) #[]:=by
 have C:2<=W.heap.size:=l.lt.2;refine entry (r:=8) (fn:=f9) (PostQ:=λval v=>val = .bool true/\GG (iH W) v) (nx 9 rfl) func9 rfl (by kernel_rfl) (λi=>rfl) C (λk a o M=>?_) (λB=>?_) (λval v B d h=>⟨h.1,h.2.os,h.2.output,h.2.size,h.2.block⟩) ?_
 .obtain rfl|rfl:k=0\/k=1:=by omega
  .exact DL (l 0 (by omega)).1 M
  .exact DL (l 0 (by omega)).2 M
 .have h:ej (iH W):=yT _;refine(Oo (w:=on (iH W) B 0) ⟨h.iW,h.loop,h.kR,h.vw⟩ (Qs (Qt l) B 0) (GR (GV hv) B 0) h1 R U).mono λe w' g=>?_;exact⟨_,g.1,rfl,g.2.os,g.2.output,g.2.size,λk a=>g.2.block k a λe=>e⟩
 .rintro S w v val y ⟨rfl,a⟩;refine hP w ⟨?_,rfl,?_,?_,λk j _=>?_⟩
  .exact y.os.symm.trans a.os
  .exact y.output.symm.trans a.output
  .have:=a.size;rw[wQ,y.size]at this;exact this
  .have q:=LN y j (a.block k (by rw[wQ];exact j));exact q
def K9 (H:Type)(enc:Af × D->H)(W:Z)(base:Nat)(args:Ak)(ds gs:List (DataW H))(before:List MemPlace)
  (a:∀(j:Nat) t v,f9.params[j]?=some t->args[j]?=some v->Value.okWide prog W .any base t v)
  (C:DataW.Whole enc prog f9.params.toList Rows.hurtSpec.vars false W args.toList ds gs before) (hT:db W) :
  Ends prog (λv l=>Rows.hurtSpec.post enc prog f9 false true false false W args v l) (solo (G (Frame.enter prog 9 args .normal) []) W) #[]:=by
 have B:=C;have g:=C.lt;obtain⟨p,q,y,hV,rfl,a3,a4⟩:=C;have hA:DataW.TrodAll enc prog W 0 (λ_=>true) true f9.params.toList args.toList ds p:=y;rw[params9]at hA a;obtain⟨S,a7,d0,am,p0,q0,M,rfl,rfl,h0,r0⟩:=trodAll_cons hA;obtain⟨U,a8,d1,an,p1,q1,rfl,rfl,rfl,h1,r1⟩:=trodAll_cons r0;obtain⟨v2,a9,d2,a0,p2,q2,rfl,rfl,rfl,h2,r2⟩:=trodAll_cons r1;obtain⟨v3,ba,d3,a1,p3,q3,rfl,rfl,rfl,h3,r3⟩:=trodAll_cons r2;obtain⟨rfl,rfl,rfl⟩:=trodAll_nil r3;obtain rfl:args=#[S,U,v2,v3]:=by cases args;simp_all
 obtain⟨rfl,rfl⟩:=trodVars_none hV;clear y;simp only[bo]at B g;obtain⟨n,f,hs⟩:=Nj (okWide_slice underlying25 (a 0 25 S rfl rfl)) h0;have num:∀(j:Nat) (v:D) (d:DataW H) (o:List MemPlace),Value.okWide prog W .any base 3 v->DataW.Trod enc prog W 0 (λ_=>true) true 3 v d o->∃z,dY z/\v = Y z:=λ_ v d o hw ht=>by
  obtain⟨ad,hf⟩:=ht;obtain⟨z,q,_,wz⟩:=DataW.trod_int underlying3 hf;obtain⟨z',rfl⟩:=okWide_int underlying3 hw;have:z'=z:=by simpa [Value.cells]using q
  exact⟨z',this ▸ K6 wz,rfl⟩
 obtain⟨z1,N,rfl⟩:=num 1 U _ _ (a 1 3 U rfl rfl) h1;obtain⟨z2,Q,rfl⟩:=num 2 v2 _ _ (a 2 3 v2 rfl rfl) h2;obtain⟨z3,R,rfl⟩:=num 3 v3 _ _ (a 3 3 v3 rfl rfl) h3;refine La hT hs N Q R λl k=>?_;have st:∀{t:Af} {v:D} {d:DataW H} {o:List MemPlace},prog.readableRec t=true->t<prog.types.size->DataW.Trod enc prog W 0 (λ_=>true) true t v d o->(∀p∈o,p.block<W.heap.size)->DataW.Trod enc prog (on l W.tape 0) 0 (λb=>decide (b<W.heap.size)) true t v d o:=λhr ht h hb=>Go.WideElems.Trod_stays LK hr ht (sp':=λb=>decide (b<W.heap.size)) h (λp hp=>LW k p (hb p hp)) (λp hp=>by simpa using hb p hp)
 have r:Rows.hurtSpec.post enc prog f9 false true false false W #[S,Y z1,Y z2,Y z3] (.bool true) (on l W.tape 0):=by refine⟨[d0,d1,d2,d3],[],p0++(p1++(p2++p3)),[],p0++(p1++(p2++p3)),[],B,trodAll_cons_mk (shut_bool underlying4 _) trodAll_mk0,?_,rfl,LU k _,λh=>by cases h⟩;have s0:=st GS GU h0 (λp hp=>g p (by simp[hp]));have s1:=st yQ yR h1 (λp hp=>g p (by simp[hp]));have s2:=st yQ yR h2 (λp hp=>g p (by simp[hp]));have s3:=st yQ yR h3 (λp hp=>g p (by simp[hp]));have:=trodAll_cons_mk s0 (trodAll_cons_mk s1 (trodAll_cons_mk s2 (trodAll_cons_mk s3 (trodAll_mk0 (enc:=enc) (P:=prog) (w:=on l W.tape 0) (base:=0) (spare:=λb=>decide (b<W.heap.size)) (held:=true)))));show DataW.TrodAll enc prog (on l W.tape 0) 0 (λb=>decide (b<W.heap.size)) true f9.params.toList _ _ _;rw[params9];rw[bo]at this;exact this
 exact ChangeSpec.post_alike r ⟨rfl,rfl,rfl⟩
def KP{P:Ad}{Post a:D->Z->Prop}{m:Machine}{o:Outcome}{w':Z}{t':Trace}(h:Go.Conc.Good P Post m o w' t')(hp:∀v,Post v w'->a v w'):Go.Conc.Good P a m o w' t':=
 h.elim λv x=>⟨v,x.1,hp v x.2.1,x.2.2⟩
def Ld (os:Os)(a:os.Started)(H:Type)(enc:Af × D->H) :
  ReturnsInLeavingWide {} checked os 9 .any (λw args=>(Rows.hurtSpec.pre enc prog f9 [] false w args/\laidMetH prog pJ w)/\sizedMet enc prog f9 (OpenSpec.ofChange Rows.hurtSpec) false w args) (Rows.hurtSpec.post enc prog f9 false true false false):=by
 refine returnsInLeavingWide_of_good (C:=checked) LV a
  (ChangeSpec.witness_shaped (enc:=enc) (C:=checked) (os:=os) (X:=λw _=>laidMetH prog pJ w) false (World.doorLaid prog 400 os) #[ae,Y 0,Y 0,Y 0] 8 rfl (World.shaped_of_RefB (by kernel_rfl) (by kernel_rfl)) (by kernel_rfl) (by kernel_rfl) (by kernel_rfl) (JB os _)) ?_
 intro w tape i _ _ _ l g _;obtain⟨_,_,_,j,f,_,_,_,_,h⟩:=l;have e:j=f9:=aJ (f.symm.trans func9);subst e;obtain⟨⟨⟨B,N,before,U,hc⟩,W⟩,hz⟩:=g;have r:=DataW.Whole.of_heap (w':=w.forCall tape i) (by rfl) U;have y:laidMetH prog pJ (w.forCall tape i):=W.of_heap (by rfl);obtain⟨M,last,o,w',Z,P,Q,R,S⟩:=K9 H enc (w.forCall tape i) w.heap.size i.args B N before h r (Qr y);exact⟨M,last,o,w',Z,P,Q,R,KP S λv hp=>ChangeSpec.post_blind hp⟩
end Go.Proofs.YthbdpfccfcceiaaGreatDoor
