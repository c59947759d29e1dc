/-
  Of hurt_card.
-/
import Derived.Test.YthbdpfccfcceiaaGreatDoorZJ8x
set_option linter.all false
namespace Go.Proofs.YthbdpfccfcceiaaGreatDoor
open Go.Proofs.Tryz
variable {f i k r:Nat}{o:Obj}{m:Mark}{l:Loop}{R:D->Z->Prop}
section
open Go.Conc
open Relation (TransGen)
open Go.ConcN (sumTo upd sumTo_upd upd_ne upd_same)
structure uH (bW:Loc->Prop)(B δ:Nat)(t:Trace):Prop where
 clean:∀said,¬Race said t
 known:∀i a,touchAt t i=some a->a.loc.isMemory=true->Knows t 0 i\/(bW a.loc/\a.kind = .atomic)
 over:t.HandedOver
 hears:Deaf t 0=δ
 seen:∀op∈t,op.act.low B
def qm (bW:Loc->Prop)(B:Nat)(e:Event):Prop:=(∀x,(MemAct.ofEvent e).touch?=some x->bW x.loc->x.kind≠.plain)/\(MemAct.ofEvent e).low B
structure eK (P:Ad)(bW:Loc->Prop)(gs:Array Ah)(B δ:Nat)(t:Trace)(q:Nat->Nat)(a:Ah):Prop where
 zero:gs[0]?=some a
 leave:Leavers P t gs q
 fU:uH bW B δ t
section
variable {P:Ad}{bW:Loc->Prop}{B B' δ:Nat}{w w':Z}{t:Trace}{gs:Array Ah}{q:Nat->Nat}{a a':Ah}{sl:Option (Nat × Nat)}{es:Array Event}
def jX.deaf (h:jX P bW gs B t q a):eK P bW gs B 0 t q a:=⟨h.zero,h.leave,⟨h.fU.clean,h.fU.known,h.fU.over,h.fU.hears,h.fU.seen⟩⟩
def eK.hear (h:eK P bW gs B 0 t q a):jX P bW gs B t q a:=⟨h.zero,h.leave,⟨h.fU.clean,h.fU.known,h.fU.over,h.fU.hears,h.fU.seen⟩⟩
def eK.mono (h:eK P bW gs B δ t q a)(g:B<=B'):eK P bW gs B' δ t q a:=⟨h.zero,h.leave,⟨h.fU.clean,h.fU.known,h.fU.over,h.fU.hears,λop f=>MemAct.low_mono g (h.fU.seen op f)⟩⟩
def uH.own(h:uH bW B δ t){fn:Ag}{pos:String}(N:∀e∈es,qm bW B e):uH bW B (deafBehind δ es) (t++MemOp.ofEvents 0 fn pos es):=by
 have f:∀op∈MemOp.ofEvents 0 fn pos es,∃e∈es,op={ g:=0,fn:=fn,pos:=pos,act:=.ofEvent e }:=λop a=>Go.Conc.mem_ofEvents a
 have l:∀op∈MemOp.ofEvents 0 fn pos es,op.g=0:=λop a=>by obtain⟨e,_,rfl⟩:=f op a;rfl
 refine⟨λsaid=>noRace_append (h.clean said) l λi x r op a b hb Q=>?_,λi x r hm=>?_,handedOver_app h.over λop a=>.inl (l op a),by rw[Deaf_own,h.hears],seen_app h.seen λop a=>?_⟩
 .obtain⟨e,j,rfl⟩:=f op a;obtain⟨c1,c2,S,c4⟩:=Q;rcases h.known i x r c2 with o|⟨R,o⟩
  .exact o
  .rw[o]at c4;rcases c4 with y|y|⟨_,y,_⟩
   .cases y
   .exact bx y ((N e j).1 b hb (c1 ▸ R))
   .cases y
 .obtain⟨y,P,D⟩:=touch_of r;rcases getElem?_append_cases P with⟨_,C⟩|⟨_,M⟩
  .exact(h.known i x (by rw[touchAt_of C];exact D) hm).imp (·.app _) id
  .have:=knows_own P;rw[l y M]at this;exact .inl this
 .obtain⟨e,j,rfl⟩:=f op a;exact(N e j).2
def eK.go (h:eK P bW gs B δ t q a)(Q:stepG P true a w = .go a' w' es)(N:∀e∈es,qm bW B e) :
  ∃f,runT P (crowd gs w sl) 0=(.next (crowd f w' sl),gC a es)/\f.size=gs.size/\eK P bW f B (deafBehind δ es) (t++gC a es) q a':=by
 have l:=runT_crowd_go (P:=P) (sl:=sl) (i:=0) h.zero (show stepG P (0 == 0) a w=_ from Q);have r:0<gs.size:=(aO.1 h.zero).1;refine⟨_,l,by simp,⟨by simp[r],⟨λj x o M=>?_,λj o=>?_⟩,h.fU.own N⟩⟩
 .have C:0≠j:=by omega
  rw[aS C,Array.getElem?_map]at M;obtain⟨y,R,rfl⟩:=aB.1 M;have D:=h.leave.old j y o R;rw[woken_quitsD D,Deaf_other t (by omega) _ (λop g=>by obtain⟨e,_,rfl⟩:=Go.Conc.mem_ofEvents g;rfl)];exact D
 .rw[Deaf_other t (g':=0) (by simp at o;omega) _ (λop g=>by obtain⟨e,_,rfl⟩:=Go.Conc.mem_ofEvents g;rfl)];exact h.leave.above j (by simpa using o)
def eK.nF:∀(M:Nat) {gs:Array Ah} {w:Z} {sl:Option (Nat × Nat)} {t:Trace} {q:Nat->Nat},sumTo gs.size q<=M->eK P bW gs B δ t q a->a.status = .running->
  ∃N o w1 Q t1 q1 w2 ad,runNT P N (crowd gs w sl) t=(.next (crowd o w1 Q),t1)/\eK P bW o B δ t1 q1 a/\AtRel w w2/\stepT P (crowd o w1 Q)=runT P (crowd o w2 ad) 0:=by
 intro M
 induction M using Nat.strongRecOn with
 |ind M ih=>
  intro gs w sl t q hM h l;obtain⟨h0,hL,hP⟩:=h;have a3:∀g∈gs,awake g:=by
   intro g hg;obtain⟨i,hi,rfl⟩:=Array.mem_iff_getElem.1 hg;rcases Nat.eq_zero_or_pos i with rfl|C
   .have:gs[0]=a:=by simpa [aP hi]using h0
    rw[this];exact awake_of (.inl l)
   .exact awake_of ((hL.old i _ C (aP hi)).status.elim .inl λx=>.inr (.inr x))
  obtain⟨i,g,d,Y,hi,hg,a0⟩:=crowd_pick (P:=P) (w:=w) (sl:=sl) a3 ⟨0,a,h0,l⟩;rcases Nat.eq_zero_or_pos i with rfl|C
  .exact⟨0,gs,w,sl,t,q,w.at d,Y,rfl,⟨h0,hL,hP⟩,⟨d,rfl⟩,a0⟩
  .have hq:=hL.old i g C hi;have a4:(i == 0)=false:=by simp;omega
   have am:i<gs.size:=(aO.1 hi).1;cases S:q i with
   |zero=>rw[S]at hq;rw[hq.1]at hg;cases hg
   |succ k=>
    rw[S]at hq;rcases hq with⟨hf,_⟩|⟨_,g',es,hm,a1,a9⟩
    .rw[hf]at hg;cases hg
    have U:=runT_crowd_go (P:=P) (sl:=Y) (i:=i) hi (by rw[a4];exact a1 (w.at d));have ba:((gs.map (woken P g g' (w.at d))).setIfInBounds i g').size=gs.size:=by simp
    have bf:sumTo gs.size (upd q i k)+(k+1)=sumTo gs.size q+k:=by have:=sumTo_upd q k id am;simpa [S]using this
    have r:∀op∈MemOp.ofEvents i g.frame.fn g.frame.place es,∃e∈es,op={ g:=i,fn:=g.frame.fn,pos:=g.frame.place,act:=.ofEvent e }:=λop f=>Go.Conc.mem_ofEvents f
    have R:∀op∈MemOp.ofEvents i g.frame.fn g.frame.place es,op.g=i:=λop f=>by obtain⟨e,_,rfl⟩:=r op f;rfl
    have hn:∀op∈MemOp.ofEvents i g.frame.fn g.frame.place es,op.act.touch?=none:=λop f=>by obtain⟨e,he,rfl⟩:=r op f;exact touch_mute (hm e he)
    obtain⟨N,o,w1,Q,t1,q1,w2,ad,r1,r2,r3,r4⟩:=ih (sumTo gs.size (upd q i k)) (by omega) (gs:=(gs.map (woken P g g' (w.at d))).setIfInBounds i g') (w:=w.at d) (sl:=Y) (t:=t++MemOp.ofEvents i g.frame.fn g.frame.place es) (q:=upd q i k) (by rw[ba];omega) (by
     refine⟨?_,⟨λj x hj hx=>?_,λj hj=>?_⟩,⟨λsaid=>zr (hP.clean said) hn,λj x hx a7=>?_,handedOver_app hP.over λop f=>.inr (hn op f),(Deaf_other t (by omega) _ R).trans hP.hears,seen_app hP.seen λop f=>?_⟩⟩
     .have a8:i≠0:=by omega
      rw[aS a8,Array.getElem?_map,h0];simp[woken_run l]
     .by_cases D:i=j
      .subst D;rw[aT (by simpa using am)]at hx;obtain rfl:=aJ hx;rw[upd_same,Deaf_own];exact a9
      .rw[aS D,Array.getElem?_map]at hx;obtain⟨y,hy,rfl⟩:=aB.1 hx;have an:=hL.old j y hj hy;rw[woken_quitsD an,upd_ne q k (Ne.symm D),Deaf_other t D _ R];exact an
     .rw[Deaf_other t (g':=i) (by simp at hj;omega) _ R];exact hL.above j (by simpa using hj)
     .obtain⟨y,hy,W⟩:=touch_of hx;rcases getElem?_append_cases hy with⟨_,bb⟩|⟨_,be⟩
      .exact(hP.known j x (by rw[touchAt_of bb];exact W) a7).imp (·.app _) id
      .rw[hn y be]at W;cases W
     .obtain⟨e,he,rfl⟩:=r op f;exact low_mute (hm e he) B) l
    exact⟨N+1,o,w1,Q,t1,q1,w2,ad,by rw[runNT_succ_next (a0.trans U)];exact r1,r2,by obtain⟨d',rfl⟩:=r3;exact⟨d',rfl⟩,r4⟩
def lM:∀{N M:Nat} {m a:Machine} {t t':Trace} {r:Stepped × Trace},runNT P N m t=(.next a,t')->runNT P M a t'=r->runNT P (N+M) m t=r
 |0,M,m,a,t,t',r,h,k=>by simp only[runNT,Prod.mk.injEq,Stepped.next.injEq]at h;obtain⟨rfl,rfl⟩:=h;rw[ao];exact k
 |N+1,M,m,a,t,t',r,h,k=>by
  simp only[runNT]at h;rw[Nat.succ_add];simp only[runNT];cases f:stepT P m with
  |mk x g=>
   rw[f]at h;cases x with
   |next m1=>exact lM h k
   |ended o w=>cases h
def eK.walk {W:Z->Z->Array Event->Prop}{Stop:Ah->Z->Prop}(hD:∀w w' es,W w w' es->(∀e∈es,qm bW B e)/\deafBehind δ es=δ) :
  ∀(n:Nat) {a:Ah} {gs:Array Ah} {w:Z} {sl:Option (Nat × Nat)} {t:Trace} {q:Nat->Nat},eK P bW gs B δ t q a->Goes P true AtRel W Stop n a w->
   ∃N f a1 w1 r t1 q1,runNT P N (crowd gs w sl) t=(.next (crowd f w1 r),t1)/\eK P bW f B δ t1 q1 a1/\∀C,AtRel w1 C->Stop a1 C:=by
 intro n
 induction n with
 |zero=>intro a gs w sl t q h R;exact⟨0,gs,a,w,sl,t,q,rfl,h,R⟩
 |succ n ih=>
  intro a gs w sl t q h R;rcases R with l|⟨o,j⟩
  .exact⟨0,gs,a,w,sl,t,q,rfl,h,l⟩
  .obtain⟨N,f,w1,r,t1,q1,C,y,r1,r2,r3,r4⟩:=eK.nF _ (w:=w) (sl:=sl) (aW _) h o;have D:=j C r3;cases g:stepG P true a C with
   |go a' w' es=>rw[g,goes_go]at D;obtain⟨hd,S⟩:=D;obtain⟨he,Q⟩:=hD _ _ _ hd;obtain⟨ad,k1,_,Y⟩:=r2.go (sl:=y) g he;rw[Q]at Y;obtain⟨N2,M,a3,w3,U,t3,q3,m1,m2,m3⟩:=ih (sl:=y) Y S;refine⟨N+(N2+1),M,a3,w3,U,t3,q3,lM r1 ?_,m2,m3⟩;rw[runNT_succ_next (r4.trans k1)];exact m1
   |_=>rw[g]at D;exact D.elim
def yK {Stop:Ah->Z->Prop}:∀(n:Nat) {a:Ah} {w0 w:Z},AtRel w0 w->Goes P true AtRel DQ Stop n a w->Goes P true AtRel DQ (λg w1=>Stop g w1/\AtRel w0 w1) n a w
 |0,a,w0,w,l,h=>λw1 f=>⟨h w1 f,atRel_trans _ _ _ l f⟩
 |n+1,a,w0,w,l,h=>by
  rcases h with h|⟨r,h⟩
  .exact .inl λw1 f=>⟨h w1 f,atRel_trans _ _ _ l f⟩
  .refine .inr ⟨r,λw1 f=>?_⟩;have:=h w1 f;cases j:stepG P true a w1 with
   |go a' w' es=>rw[j,goes_go]at this;obtain⟨⟨e1,e2⟩,o⟩:=this;subst e1 e2;exact⟨⟨rfl,rfl⟩,yK n (atRel_trans _ _ _ l f) o⟩
   |_=>rw[j]at this;exact this.elim
end
section
variable {C:Cx}{xq xq':Ai × List Ai × Z}{gs:Array Ah}{w:Z}{t:Trace}{sl:Option (Nat × Nat)}{X:Ag->Prop}
def Bp {w w1:Z}(h:AtRel w w1):w1.heap.size=w.heap.size:=by
 obtain⟨d,rfl⟩:=h
 rfl
def Cx.End.LF (h:C.End xq gs w t)(H:C.Ok)(R:∀val,TS prog X C.T (C.fr.finish (.tuple val)::C.cs))(Q:∀v,Ht (df (imag prog C.F) C.T) v->Ht (df prog C.T) v) :
  ∃N j w' Y t' q' S' g v',runNT prog N (crowd gs w sl) t=(.next (crowd j w' Y),t')/\xH prog C.F X C.X C.T C.Fin C.G0 (λl=>C.bW l\/iJ C.A.Wg l) S' j w' t' q' g C.cs v'/\TransGen (Sub (imag prog C.F) C.Fin) (g,C.cs,v') xq:=by
 obtain⟨a',q',S,k,to,gr,an,m',h1,a,h3,h4,h5,h6,h7,h8⟩:=h;obtain⟨lB,hJ⟩:=H.H.J;have o:∀(B:Nat) (w w':Z) (es:Array Event),DQ w w' es->(∀e∈es,qm (λl=>C.bW l\/iJ C.A.Wg l) B e)/\deafBehind 0 es=0:=by rintro B w w' es ⟨_,rfl⟩;exact⟨by simp,rfl⟩
 obtain⟨N,a0,a1,D,ad,t1,q1,r1,r2,U⟩:=eK.walk (sl:=sl) (o _) m' h1.deaf (yK m' (atRel_refl w) h7);obtain⟨r3,r4⟩:=U D (atRel_refl D);subst r3;obtain⟨N2,P,a2,M,am,t2,q2,s1,s2,W⟩:=eK.walk (sl:=ad) (o _) C.K r2 (yK C.K (atRel_refl D) (h6 D));obtain⟨s3,s4⟩:=W M (atRel_refl M);subst s3;have f:=atRel_trans _ _ _ r4 s4;obtain⟨τ,d,hr⟩:=h5.ru hJ H.H.nt;have r:cM C.G0 0 S M (on xq.2.2 τ d):=by obtain⟨d',rfl⟩:=f;exact⟨a.size,a.same,a.hole,a.eH,a.high,λi hi=>bx hi (by omega),a.os,a.output,a.fix⟩
 have y:=oR hr h4;refine⟨N+N2,P,M,am,t2,q2,S,_,on xq.2.2 τ d,lM r1 s1,⟨?_,r,h3,R _,Q _ y.unfold.1.ht,y,by rw[Bp f];exact aX H.G h8⟩,hr⟩;rw[Bp f];exact s2.hear
end
end
section
open Go.Conc Go.ConcX
open Relation (TransGen)
open Go.ConcN (sumTo)
open Go.ConcX (WgAt KK stA smA rd wr mk)
section
variable {bW:Loc->Prop}{n:Nat}
def DT (bW:Loc->Prop)(n:Nat)(x:MemAct):Prop:=(∀y,x.touch?=some y->bW y.loc->y.kind≠.plain)/\x.low (n+6)
abbrev PR (bW:Loc->Prop)(n:Nat)(hS:∀a:Addr,bW (.cell a)->a.block<n):Shy (n+5) n where
 ok:=DT bW n
 atomicWg a x h:=⟨λy f _=>by simp[MemAct.touch?]at f;rw[<- f];simp,by show a.block<n+6;omega⟩
 readWg a h:=⟨λy f _=>by simp[MemAct.touch?]at f;rw[<- f];simp,by show a.block<n+6;omega⟩
 writeWg a h:=⟨λy f _=>by simp[MemAct.touch?]at f;rw[<- f];simp,by show a.block<n+6;omega⟩
 theirs a x h:=⟨λy f g=>by simp[MemAct.touch?]at f;rw[<- f]at g;have:=hS a g;omega,by show a.block<n+6;omega⟩
 disable:=⟨λy f=>by simp[MemAct.touch?]at f,trivial⟩
 enable:=⟨λy f=>by simp[MemAct.touch?]at f,trivial⟩
 relMerge:=⟨λy f=>by simp[MemAct.touch?]at f,by show n+5<n+6;omega⟩
 acquire:=⟨λy f=>by simp[MemAct.touch?]at f,by show n+5<n+6;omega⟩
 go1:=⟨λy f=>by simp[MemAct.touch?]at f,trivial⟩
 start:=⟨λy f=>by simp[MemAct.touch?]at f,trivial⟩
 stop:=λ_ _=>True
end
section
variable {P:Ad}{F:Array Func}{Fin:Ai->Z->Prop}{jf:Ag}{G0:Base}{S:Nat->Prop}{w:Z}{xq:Ai × List Ai × Z}{c:Nat}{z:Ai}{zs:List Ai}
def qU(nt:eF Fin)(h:fu (imag P F) Fin jf xq c z zs)(r:cM G0 0 S w xq.2.2)(hG:G0.m<=w.heap.size)(j:(∀a l,o≠.number a l)/\∀a t,o≠.view a t)(g:(c:Int)<iS) :
  ∃f,TransGen (Sub (imag P F) Fin) f xq/\fu (imag P F) Fin jf f (c+1) z zs/\cM G0 0 (λk=>S k\/k=w.heap.size) (cy w o) f.2.2:=by
 obtain⟨f,D,d,y,B,C⟩:=h.push nt g;refine⟨f,y,B,?_⟩;rw[C];exact r.zJ hG j D d
def LX (nt:eF Fin)(h:fu (imag P F) Fin jf xq 0 z zs)(R:cM G0 0 S w xq.2.2)(hG:G0.m<=w.heap.size)(en:D) :
  ∃f,TransGen (Sub (imag P F) Fin) f xq/\fu (imag P F) Fin jf f 6 z zs/\cM G0 0 (λk=>S k\/(w.heap.size<=k/\k<w.heap.size+6)) (fB w en) f.2.2:=by
 have j:∀c t,(∀a l,Obj.cells c t≠.number a l)/\∀a o,Obj.cells c t≠.view a o:=λc t=>⟨λ_ _ e=>(by cases e),λ_ _ e=>(by cases e)⟩
 have r:(∀a l,Obj.chan 0 #[] false 0 0 false≠.number a l)/\∀a o,Obj.chan 0 #[] false 0 0 false≠.view a o:=⟨λ_ _ e=>(by cases e),λ_ _ e=>(by cases e)⟩;have g:∀k:Nat,k<=6->((k:Nat):Int)<iS:=λk hk=>by unfold iS;omega
 obtain⟨x1,y,b1,U⟩:=qU nt h R hG (j #[en] 159) (g 0 (by omega));obtain⟨x2,a2,b2,W⟩:=qU nt b1 U (by rw[dW];omega) r (g 1 (by omega));obtain⟨x3,B,M,Y⟩:=qU nt b2 W (by simp only[dW];omega) (j #[.chan (some (w.heap.size+1))] 284) (g 2 (by omega));obtain⟨x4,C,b4,Z⟩:=qU nt M Y (by simp only[dW];omega) r (g 3 (by omega));obtain⟨x5,a5,N,s5⟩:=qU nt b4 Z (by simp only[dW];omega) (j #[.chan (some (w.heap.size+3))] 285) (g 4 (by omega));obtain⟨x6,a6,Q,s6⟩:=qU nt N s5 (by simp only[dW];omega) (j #[.int .u64 0,.int .u32 0] 294) (g 5 (by omega));refine⟨x6,mB a6 (mB a5 (mB C (mB B (mB a2 y)))),Q,?_⟩;have e:(λk=>S k\/(w.heap.size<=k/\k<w.heap.size+6))=(λk=>(((((S k\/k=w.heap.size)\/k=(cy w (.cells #[en] 159)).heap.size)\/k=(cy (cy w (.cells #[en] 159)) (.chan 0 #[] false 0 0 false)).heap.size)\/k=(cy (cy (cy w (.cells #[en] 159)) (.chan 0 #[] false 0 0 false)) (.cells #[.chan (some (w.heap.size+1))] 284)).heap.size)\/k=(cy (cy (cy (cy w (.cells #[en] 159)) (.chan 0 #[] false 0 0 false)) (.cells #[.chan (some (w.heap.size+1))] 284)) (.chan 0 #[] false 0 0 false)).heap.size)\/k=(gh w en).heap.size):=by
  funext k
  simp only[dW,oP,eq_iff_iff]
  by_cases hS:S k
  .simp[hS]
  .simp only[hS,false_or];omega
 rw[e];exact s6
end
end
section
open Go.Conc Go.ConcX
open Relation (TransGen)
open Go.ConcN (sumTo)
open Go.ConcX (WgAt KK stA smA rd wr mk)
def og (w:Z)(ea:Addr)(j:Nat):Ak:=#[(w.cell? ((ea.add (j*4)).add 0)).getD undef,(w.cell? ((ea.add (j*4)).add 1)).getD undef,(w.cell? ((ea.add (j*4)).add 2)).getD undef,(w.cell? ((ea.add (j*4)).add 3)).getD undef]
def eE (w:Z)(bs:Option Addr)(n cap:Nat):Lay where
 lo:=w.heap.size+6
 b4:=w.heap.size
 b8:=w.heap.size+2
 b9:=w.heap.size+4
 cS:=w.heap.size+1
 cD:=w.heap.size+3
 Wg:=w.heap.size+5
 tWg:=294
 en:=.slice bs n cap
 n:=n
 bs:=bs
 V:=λj=>og w (bs.getD ⟨0,0,none⟩) j
section
variable {w:Z}{bs:Option Addr}{n cap:Nat}
def rV (w:Z)(bs:Option Addr)(n:Nat):Prop:=∀j,j<n->∃ea,bs=some ea/\rU w (ea.add (j*4))
def BH {ea:Addr}{j:Nat}(h:rU w (ea.add (j*4))):∃s m a d,og w ea j=#[.string s,Y m,.string a,.bool d]:=by obtain⟨s,m,a,d,f,g,l,o⟩:=h;exact⟨s,m,a,d,by simp only[og,f,g,l,o,aC]⟩
def xW{a:Addr}{x:D}(h:w.cell? a=some x):a.block<w.heap.size:=by
 unfold World.cell? at h;split at h
 .exact tk ‹_›
 .cases h
def Df (h:rV w bs n):(eE w bs n cap).Ok:=by
 have f:∀ea,bs=some ea->0<n->ea.block<w.heap.size:=λea a g=>by obtain⟨o,e,s,m,l,d,r,_⟩:=h 0 g;rw[a]at e;cases e;have:=xW r;rw[iq,iq]at this;exact this
 refine⟨by simp[eE],by simp[eE],by simp[eE],by simp[eE],by simp[eE],by simp[eE],λea a g=>?_,?_,λea a g=>?_,λm=>by simp[eE],λj D i C m=>?_⟩
 .have:=f ea a g;show ea.block<w.heap.size+6;omega
 .simp only[eE];omega
 .have:=f ea a g;simp only[eE];omega
 .obtain⟨ea,e,y⟩:=h j D;obtain⟨s,M,l,d,B⟩:=BH y;have:(eE w bs n cap).V j=#[.string s,Y M,.string l,.bool d]:=by rw[<- B];simp only[eE,e,aC]
  rw[this]
  match i,C with
  |0,_=>simp
  |1,_=>simp
  |2,_=>simp
  |3,_=>simp
def De (h:rV w bs n):∀j,j<n->((eE w bs n cap).V j).size=4/\∀v∈(eE w bs n cap).V j,v.oneCell'=true:=by
 intro j g;obtain⟨ea,e,a⟩:=h j g;obtain⟨s,l,o,d,f⟩:=BH a;have:(eE w bs n cap).V j=#[.string s,Y l,.string o,.bool d]:=by rw[<- f];simp only[eE,e,aC]
 rw[this];refine⟨rfl,λv hv=>?_⟩;simp at hv;rcases hv with rfl|rfl|rfl|rfl<;>rfl
def LZ (h:rV w bs n)(d:Nat):(eE w bs n cap).Ks (((fB w (.slice bs n cap)).setCell (stA (w.heap.size+5)) (.int .u64 KK)).at d)/\Sh (eE w bs n cap) false false 0 (((fB w (.slice bs n cap)).setCell (stA (w.heap.size+5)) (.int .u64 KK)).at d):=by
 have r:∀k,k<w.heap.size->(fB w (.slice bs n cap)).heap[k]?=w.heap[k]?:=λk l=>by simp only[fB,gh];rw[gD _ _ (by simp only[dW];omega),gD _ _ (by simp only[dW];omega),gD _ _ (by simp only[dW];omega),gD _ _ (by simp only[dW];omega),gD _ _ (by simp only[dW];omega),gD _ _ l]
 have y:WgAt 294 (w.heap.size+5) (fB w (.slice bs n cap)) 0 0:=by have:=rB (gh w (.slice bs n cap)) (.cells #[.int .u64 0,.int .u32 0] 294);rw[oP]at this;exact this
 have f:=y.setSt KK;have B:jy (w.heap.size+5) (fB w (.slice bs n cap)) ((fB w (.slice bs n cap)).setCell (stA (w.heap.size+5)) (.int .u64 KK)):=oS y rfl f;have a:∀(k:Nat) o,k<w.heap.size+5->(gh w (.slice bs n cap)).heap[k]?=o->((fB w (.slice bs n cap)).setCell (stA (w.heap.size+5)) (.int .u64 KK)).heap[k]?=o:=λk o l ho=>by rw[B.rest k (by omega),fB,gD _ _ (by rw[oP];exact l)];exact ho
 have g0:(gh w (.slice bs n cap)).heap[w.heap.size]?=some (.cells #[.slice bs n cap] 159):=by simp only[gh];rw[gD _ _ (by simp only[dW];omega),gD _ _ (by simp only[dW];omega),gD _ _ (by simp only[dW];omega),gD _ _ (by simp only[dW];omega),rB]
 have nx:∀(x:Z) (o:Obj) (k:Nat),k=x.heap.size->(cy x o).heap[k]?=some o:=λx o k l=>by rw[l];exact rB x o
 have g1:(gh w (.slice bs n cap)).heap[w.heap.size+1]?=some (.chan 0 #[] false 0 0 false):=by simp only[gh];rw[gD _ _ (by simp only[dW];omega),gD _ _ (by simp only[dW];omega),gD _ _ (by simp only[dW];omega),nx _ _ _ (by simp only[dW])]
 have g2:(gh w (.slice bs n cap)).heap[w.heap.size+2]?=some (.cells #[.chan (some (w.heap.size+1))] 284):=by simp only[gh];rw[gD _ _ (by simp only[dW];omega),gD _ _ (by simp only[dW];omega),nx _ _ _ (by simp only[dW])]
 have g3:(gh w (.slice bs n cap)).heap[w.heap.size+3]?=some (.chan 0 #[] false 0 0 false):=by simp only[gh];rw[gD _ _ (by simp only[dW];omega),nx _ _ _ (by simp only[dW])]
 have g4:(gh w (.slice bs n cap)).heap[w.heap.size+4]?=some (.cells #[.chan (some (w.heap.size+3))] 285):=by simp only[gh];rw[nx _ _ _ (by simp only[dW])]
 have sz:((fB w (.slice bs n cap)).setCell (stA (w.heap.size+5)) (.int .u64 KK)).heap.size=w.heap.size+6:=by rw[B.size,fB,dW,oP]
 refine⟨⟨Nat.le_of_eq sz.symm,a _ _ (by show w.heap.size<_;omega) g0,a _ _ (by show w.heap.size+2<_;omega) g2,a _ _ (by show w.heap.size+4<_;omega) g4,λea C j hj i Y=>?_,KK,0,f⟩,⟨⟨0,0,a _ _ (by show w.heap.size+1<_;omega) g1⟩,⟨0,0,a _ _ (by show w.heap.size+3<_;omega) g3⟩,f⟩⟩;obtain⟨P,e,W⟩:=h j hj;have g:bs=some ea:=C;rw[g]at e;cases e;have U:(eE w bs n cap).V j=og w ea j:=by simp only[eE,g,aC]
 obtain⟨s,m,s',dd,N,Q,R,S⟩:=W;have M:ea.block<w.heap.size:=by have:=xW N;rw[iq,iq]at this;exact this
 have D:(((fB w (.slice bs n cap)).setCell (stA (w.heap.size+5)) (.int .u64 KK)).at d).cell? ((ea.add (j*4)).add i)=w.cell? ((ea.add (j*4)).add i):=by refine Iw ?_;rw[iq,iq];exact(B.rest _ (by omega)).trans (r _ M)
 rw[D,U]
 match i,Y with
 |0,_=>simp[og,N]
 |1,_=>simp[og,Q]
 |2,_=>simp[og,R]
 |3,_=>simp[og,S]
end
end
section
open Go.Conc Go.ConcX
open Relation (TransGen)
open Go.ConcN (sumTo)
open Go.ConcX (WgAt KK stA smA rd wr)
section
variable {P:Ad}{bW:Loc->Prop}{B δ:Nat}{w:Z}{t:Trace}{gs:Array Ah}{q:Nat->Nat}{a:Ah}{sl:Option (Nat × Nat)}
def eK.mark(c:eK P bW gs B δ t q a){Next:Ah->Z->Prop}(C:∀l,AtRel w l->AtMkS P m Next a l)(M:qm bW B (Go.ConcX.mk m)) :
  ∃N f a1 w1 h t1 y,runNT P N (crowd gs w sl) t=(.next (crowd f w1 h),t1)/\eK P bW f B (deafBehind δ #[Go.ConcX.mk m]) t1 y a1/\Next a1 w1:=by
 obtain⟨N,f,w1,h,t1,y,l,j,U,W,Y,r4⟩:=eK.nF _ (w:=w) (sl:=sl) (aW _) c (C w (atRel_refl w)).1;obtain⟨_,D,r,Q⟩:=C l Y;obtain⟨o,R,_,S⟩:=W.go (sl:=j) r (λe g=>by simp at g;subst g;exact M);refine⟨N+1,o,D,l,j,_,y,lM U ?_,S,Q⟩;rw[runNT_succ_next (r4.trans R)]
 rfl
def Dy{e:Event}(h:e.loc = .mark m):MemAct.ofEvent e = .mark m:=by
 obtain⟨l,x,y⟩:=e;dsimp only at h;subst h
 rfl
end
section
variable {F:Array Func}{X X':Ag->Prop}{T:dq}{Fin:Ai->Z->Prop}{G0:Base}{I:Ins}{qf xf:Ag}{fn xfn:Func}{xc:Code}
def JX {P:Ad}{f:Ag}{fn:Func}{c:Code}(h:P.funcs[f]?=some fn)(hb:fn.body=some c)(a:fn.ntmps=37)(to en mo:D):Frame.enter P f #[to,en,mo] .normal=(base f).at ⟨#[to,en,mo,undef,undef,undef,undef,undef,undef,undef,undef,undef,undef,undef,undef,undef,undef,undef,undef,undef,undef,undef,undef,undef,undef,undef,undef,undef,undef,undef,undef,undef,undef,undef,undef,undef,undef],[]⟩ [.code c]:=by
 have e:(#[to,en,mo]:Ak)++Array.replicate (37-(#[to,en,mo]:Ak).size) undef=#[to,en,mo,undef,undef,undef,undef,undef,undef,undef,undef,undef,undef,undef,undef,undef,undef,undef,undef,undef,undef,undef,undef,undef,undef,undef,undef,undef,undef,undef,undef,undef,undef,undef,undef,undef,undef]:=by apply Array.toList_inj.1;simp[List.replicate]
 rw[enter_at _ h hb,a,e]
def Bu:f138.body=some (f138.body.getD .skip):=by
 cases h:f138.body with
 |none=>simp[f138]at h
 |some c=>rfl
def JV (to en mo:D):Frame.enter prog 138 #[to,en,mo] .normal=(base 138).at ⟨#[to,en,mo,undef,undef,undef,undef,undef,undef,undef,undef,undef,undef,undef,undef,undef,undef,undef,undef,undef,undef,undef,undef,undef,undef,undef,undef,undef,undef,undef,undef,undef,undef,undef,undef,undef,undef],[]⟩ [.code (f138.body.getD .skip)]:=
 JX func138 Bu rfl to en mo
def QA{bW:Loc->Prop}{gs:Array Ah}{w:Z}{sl:Option (Nat × Nat)}{t:Trace}{q:Nat->Nat}{bs:Option Addr}{n cap:Nat}{to:D}{cn:Int}{fr:Ai}{cs:List Ai}(hS:∀a:Addr,bW (.cell a)->a.block<w.heap.size)(hn:n<2 ^ 40)(f:rV w bs n)
  (r:jX prog bW gs w.heap.size t q (G (Frame.enter prog 138 #[to,.slice bs n cap,Y cn] .normal) (fr::cs))) :
  ∃N l a1 w1 o t1 q1,runNT prog N (crowd gs w sl) t=(.next (crowd l w1 o),t1)/\eK prog bW l (w.heap.size+6) 0 t1 q1 a1/\
   ∀w2,AtRel w1 w2->xM prog (eE w bs n cap).meet 200 w.heap.size (w.heap.size+2) (w.heap.size+4) cn fr cs to ((fB w (.slice bs n cap)).setCell (stA (w.heap.size+5)) (.int .u64 KK)) a1 w2:=by
 have O:=Df (cap:=cap) f;have hV:=De (cap:=cap) f;obtain⟨ea,S⟩:∃ea,0<n->bs=some ea:=by
  by_cases h0:0<n
  .obtain⟨ea,e,_⟩:=f 0 h0;exact⟨ea,λ_=>e⟩
  .exact⟨⟨0,0,none⟩,λh=>bx h h0⟩
 letI g:Shy (eE w bs n cap).meet.Wg w.heap.size:=PR bW w.heap.size hS
 have hk:∀j,j<6->DT bW w.heap.size (.access ⟨.cell ⟨w.heap.size+j,0,none⟩,true,false⟩):=λj hj=>⟨λy hy hs=>by simp[MemAct.touch?]at hy;rw[<- hy]at hs;have:=hS _ hs;dsimp only at this;omega,by show w.heap.size+j<w.heap.size+6;omega⟩
 have U:=O8 (M:=(eE w bs n cap).meet) ((eE w bs n cap).yv O S hV) (w:=w) ((eE w bs n cap).boxes rfl) hn rfl rfl rfl rfl (C:=w.heap.size) rfl (hk 2 (by omega)) (hk 4 (by omega)) (en:=.slice bs n cap) (to:=to) rfl (cn:=cn) (K:=200) (by omega) fr cs;have R:∀(δ:Nat) (w1 w':Z) (B:Array Event),DE (EvS (eE w bs n cap).meet.Wg w.heap.size) w1 w' B->(∀e∈B,qm bW (w.heap.size+6) e)/\deafBehind δ B=δ:=by intro δ w1 w' B h;refine⟨λe P=>(h e P).2.2.2.2.2,deafBehind_still (λe P=>⟨λx=>(h e P).2.2.2.1 (Dy x),λx=>(h e P).2.2.2.2.1 (Dy x)⟩) δ⟩
 have c0:=r.deaf.mono (Nat.le_add_right w.heap.size 6);rw[JV]at c0;obtain⟨N1,l,a1,w1,o,t1,q1,r1,c1,s1⟩:=eK.walk (sl:=sl) (R 0) 60 c0 U;obtain⟨N2,a0,a2,w2,W,t2,q2,r2,c2,n2,g2⟩:=eK.mark (sl:=o) c1 s1 g.disable;obtain⟨N3,a7,a3,w3,ad,t3,q3,r3,c3,s3⟩:=eK.walk (sl:=W) (R _) n2 c2 g2;obtain⟨N4,a8,a4,w4,am,t4,q4,r4,c4,n4,g4⟩:=eK.mark (sl:=ad) c3 s3 g.enable;obtain⟨N5,Q,a5,w5,an,t5,q5,r5,c5,s5⟩:=eK.walk (sl:=am) (R _) n4 c4 g4;exact⟨_,Q,a5,w5,an,t5,q5,lM r1 (lM r2 (lM r3 (lM r4 r5))),c5,s5⟩
end
end
section
open Go.Conc Go.ConcX
open Relation (TransGen)
open Go.ConcN (sumTo)
open Go.ConcX (WgAt KK stA smA rd wr)
section
variable {F:Array Func}{X X':Ag->Prop}{T:dq}{Fin:Ai->Z->Prop}{G0:Base}{I:Ins}{qf xf:Ag}{fn xfn:Func}{xc:Code}
def KD{P:Ad}{bW:Loc->Prop}{gs:Array Ah}{B:Nat}{t:Trace}{q:Nat->Nat}{a a2 child:Ah}(h:eK P bW gs B 0 t q a)(f1 f2:Ag)(p1 p2:String):eT P ((gs.setIfInBounds 0 a2).push child) (t++iw gs.size f1 f2 p1 p2) q gs.size a2 child:=by
 have f:0<gs.size:=(aO.1 h.zero).1;refine⟨?_,?_,f,λj g l o r=>?_,λj l=>?_⟩
 .rw[aq,if_neg (by simp;omega)];exact aT f
 .rw[aq,if_pos (by simp)]
 .rw[aq,if_neg (by simpa using o),aS (λe=>l e.symm)]at r;rw[(sM f1 f2 p1 p2 j).2];exact h.leave.old j g (by omega) r
 .rw[(sM f1 f2 p1 p2 j).2];exact h.leave.above j (by simp at l;omega)
def Hf {args:Ak}(h:args.size=3):∃to en mo,args=#[to,en,mo]:=by
 obtain⟨l⟩:=args
 match l,h with
 |[a,b,c],_=>exact⟨a,b,c,rfl⟩
def Oa (HI : rY prog F I Fin G0)(hq : I.ι 186 = some qf)(hQ : se (imag prog F) I.jf qf xf 138 fn)(hx : X' xf)(ci : (imag prog F).funcs[xf]? = some xfn)(ck : (xfn.name == "runtime.NumGoroutine") = false)(ch : xfn.body = some xc)(har : ∀ c k,T.ar c 138 k = true -> k = 3)
  (cc:∀fn,prog.funcs[186]?=some fn->2<=fn.ntmps) (cb:∀v,Ht (df (imag prog F) T) v->Ht (df prog T) v):uI prog F X X' T Fin G0 138:=by
 intro bW S gs w sl t q fr cs v args be f Z bA cd bb cA y bw;obtain⟨to,en,mo,rfl⟩:=Hf (har _ _ bb);obtain⟨bs,n,cap,cn,rfl,rfl,hn,an,x4,x5,x6,x7,x8,x9,x10,x11,x12,ce⟩:=Kj HI.hb HI.hG HI.hF HI.nt (cs:=fr::cs) (by simp) hQ hx ci ck ch bw;have o:rV w bs n:=λj hj=>by obtain⟨ea,e,s,m,s',d,M,h1,h2,h3⟩:=an j hj;exact⟨ea,e,s,m,s',d,(pB f M).1,(pB f h1).1,(pB f h2).1,(pB f h3).1⟩
 have bl:∀ea,bs=some ea->0<n->¬S ea.block:=λea U M=>by obtain⟨a8,e,s,m,s',d,M,_⟩:=an 0 M;rw[U]at e;cases e;have:=(pB f M).2;rw[iq,iq]at this;exact this
 have N:∀j,S j->j<w.heap.size:=λj hj=>by obtain⟨fz,e⟩:=f.hole j hj;have:=(aO.1 e).1;rw[f.size]at this;exact this
 have am:∀a:Addr,bW (.cell a)->a.block<w.heap.size:=λa hs=>by obtain⟨b,e,hb⟩:=Z _ hs;cases e;exact N _ hb
 have a3:n<2 ^ 40:=by omega
 obtain⟨N1,cv,D,w1,cm,t1,q1,r1,c1,s1⟩:=QA (sl:=sl) am a3 o be;obtain⟨N2,r,c3,cT,t2,q2,w2,a7,r2,c2,e2,cr⟩:=eK.nF _ (w:=w1) (sl:=cm) (aW _) c1 (s1 w1 (atRel_refl w1)).1;obtain⟨_,⟨d,ad⟩,g2,cf,a9⟩:=s1 w2 e2;have Q:=runT_crowd_spawn (P:=prog) (sl:=a7) (i:=0) c2.zero (show stepG prog (0 == 0) D w2=_ from cf);obtain⟨lB,hJ⟩:=HI.J;have bq:kG (imag prog F) Fin (Frame.enter (imag prog F) 138 #[to,.slice bs n cap,Y cn] .normal,fr::cs,v) ((base 138).at ⟨#[to,.slice bs n cap,Y cn,Y n,x4,x5,x6,x7,x8,x9,x10,x11,x12],[]⟩ [.code (dC I.jf),.code (lK I.jf qf)],fr::cs,v):=by
  obtain⟨τ,d,h⟩:=ce;rcases h with e|h
  .exfalso
   have e1:=congrArg (λx=>x.1.todo.length) e;dsimp only at e1;rw[enter_at _ hQ.at_ hQ.body]at e1;simp[Frame.at]at e1
  .exact⟨τ,d,h⟩
 obtain⟨cu,de,d0,p1,p2,p3⟩:=fu.start hJ HI.nt (base_kind 138) (by simp) bq;obtain⟨z0,cl,b7⟩:=Ki (F:=F) (Fin:=Fin) (jf:=I.jf) (qf:=qf) (en:=.slice bs n cap) (to:=to) (n:=n) (cs:=fr::cs) HI.nt (by simp) (x4:=x4) (x5:=x5) (x6:=x6) (x7:=x7) (x8:=x8) (x9:=x9) (x10:=x10) (x11:=x11) (x12:=x12) (mo:=Y cn);have ba:cM G0 0 S w cu.2.2:=by rw[p3];exact⟨f.size,f.same,f.hole,f.eH,f.high,λi hi=>bx hi (by omega),f.os,f.output,f.fix⟩
 obtain⟨B,p4,p5,p6⟩:=LX HI.nt (p2.more HI.nt b7) ba y (.slice bs n cap);have a4:Tr (imag prog F) X' T Fin B.1 B.2.1 B.2.2:=oR p4 (oR p1 bw);have O:=Df (cap:=cap) o;have hV:=De (cap:=cap) o;obtain⟨ks,sh⟩:=LZ (cap:=cap) o d;have bB:WgAt 294 (w.heap.size+5) (fB w (.slice bs n cap)) 0 0:=by have:=rB (gh w (.slice bs n cap)) (.cells #[.int .u64 0,.int .u32 0] 294);rw[oP]at this;exact this
 have hT:jy (w.heap.size+5) (fB w (.slice bs n cap)) ((fB w (.slice bs n cap)).setCell (stA (w.heap.size+5)) (.int .u64 KK)):=oS bB rfl (bB.setSt KK);have cg:w2.heap.size=w.heap.size+6:=by rw[ad];show((fB w (.slice bs n cap)).setCell (stA (w.heap.size+5)) (.int .u64 KK)).heap.size=_;rw[hT.size,fB,dW,oP]
 have bS:=(cM.nF p6 (.inr ⟨by omega,by omega⟩) (by omega) hT);have bm:((MemOp.ofEvents 0 D.frame.fn D.frame.place #[]).push { g:=0,fn:=D.frame.fn,pos:=D.frame.place,act:=.go r.size }).push { g:=r.size,fn:=(born prog (jA (eE w bs n cap).meet w.heap.size (w.heap.size+2) (w.heap.size+4))).frame.fn,pos:=D.frame.place,act:=.start }=iw r.size D.frame.fn (born prog (jA (eE w bs n cap).meet w.heap.size (w.heap.size+2) (w.heap.size+4))).frame.fn D.frame.place D.frame.place:=by simp[ofEvents_eq,iw]
 rw[bm]at Q;obtain⟨ea,U⟩:∃ea,0<n->bs=some ea:=by
  by_cases M:0<n
  .obtain⟨ea,e,_⟩:=o 0 M;exact⟨ea,λ_=>e⟩
  .exact⟨⟨0,0,none⟩,λh=>bx h M⟩
 let C:Cx:={ F,X:=X',T,Fin,G0,A:=eE w bs n cap,bW,z:=r.size,I,qf,K:=200,cn,cap,fr,cs,B0:=58+20*n }
 have H:C.Ok:=by
  refine⟨O,?_,HI,hq,⟨xf,fn,hQ⟩,rfl,λh=>⟨ea,U h⟩,λj hj=>(hV j hj).1,hn,?_,cc⟩
  .show G0.m<=w.heap.size+6;omega
  .show((58+20*n:Nat):Int)<iS;unfold iS;omega
 have R:(eE w bs n cap).Ks w2:=by rw[ad];exact ks
 have hA:C.Any B (dD n 0 0+ee n 0 0) (202+2*200+2*sumTo ((r.setIfInBounds 0 g2).push (born prog (jA (eE w bs n cap).meet w.heap.size (w.heap.size+2) (w.heap.size+4)))).size q2) ((r.setIfInBounds 0 g2).push (born prog (jA (eE w bs n cap).meet w.heap.size (w.heap.size+2) (w.heap.size+4)))) w2 (t2++iw r.size D.frame.fn (born prog (jA (eE w bs n cap).meet w.heap.size (w.heap.size+2) (w.heap.size+4))).frame.fn D.frame.place D.frame.place) q2:=by
  refine⟨g2,_,λk=>S k\/(w.heap.size<=k/\k<w.heap.size+6),λ_=>False,0,false,false,0,0,0,false,6,z0,fr::cs,0,202,0,200,⟨⟨KD c2 _ _ _ _,?_,?_,a4,R,⟨λl hl hr=>?_,λl hl hg=>?_,λa ha=>?_,λl h=>h.elim⟩,λl hl=>?_,λl h=>h.elim,.inr ⟨?_,?_⟩,.inr ⟨?_,?_⟩,.inr ⟨?_,?_⟩,aX y (Nat.le_add_right _ _),aX y (Nat.le_add_right _ _),aX y (Nat.le_add_right _ _)⟩,⟨?_,?_,λh=>by cases h⟩,by rw[ad];exact sh,p5,⟨to,200,⟨cl,rfl⟩,rfl,a9 w2 R⟩,⟨rfl,λ_=>.inl rfl,λh=>by omega,λh=>by omega,rfl,by decide⟩,?_,⟨aZ _,rfl,rfl,λh=>by omega,λ_=>rfl,λh=>by omega,λ_=>aZ _,λh=>by omega,λh=>by omega,λh=>by omega,by decide⟩,λh=>bx h.1 (by decide),rfl,rfl,?_,λea he M hs=>?_⟩⟩
  .rw[cg];exact PT.fork ⟨c2.fU.clean,c2.fU.known,c2.fU.over,c2.fU.hears,c2.fU.seen⟩ (c2.leave.above _ (aW _)) _ _ _ _
  .rw[ad];exact rI bS
  .obtain⟨b,rfl,hb⟩:=Z l hl;have W:=N _ hb;obtain⟨b',e,hr⟩:=hr;cases e;rcases hr with rfl|rfl|rfl|⟨a8,j,i,he,hj,hi,rfl⟩
   .have a0:w.heap.size<w.heap.size:=W;omega
   .have a0:w.heap.size+2<w.heap.size:=W;omega
   .have a0:w.heap.size+4<w.heap.size:=W;omega
   .rw[iq,iq]at hb;exact bl a8 he (Nat.lt_of_le_of_lt (aZ _) hj) hb
  .obtain⟨b,rfl,hb⟩:=Z l hl;have W:=N _ hb;obtain⟨b',e,hg⟩:=hg;cases e;have cz:b.block=w.heap.size+5:=hg;omega
  .have:=am a ha;show a.block<w.heap.size+6;omega
  .obtain⟨b,e,hb⟩:=Z l hl;exact⟨b,e,.inl hb⟩
  .show w.heap.size<=w.heap.size+5;omega
  .show w.heap.size+5<w.heap.size+6;omega
  .show w.heap.size<=w.heap.size+1;omega
  .show w.heap.size+1<w.heap.size+6;omega
  .show w.heap.size<=w.heap.size+3;omega
  .show w.heap.size+3<w.heap.size+6;omega
  .rw[(sM _ _ _ _ _).2];exact c2.fU.hears
  .rw[(sM _ _ _ _ _).2];exact c2.leave.above _ (aW _)
  .exact Lay.Fi O (aW _) a3 U rfl rfl hV w2 R
  .show 6+(31+10*(n-0)+(21+10*(n-0)))<=58+20*n;omega
  .rcases hs with hs|hs
   .exact bl ea he M hs
   .obtain⟨a8,e,s,m,s',dd,g0,_⟩:=o 0 M;have ca:bs=some ea:=he;rw[ca]at e;cases e;have:=xW g0;rw[iq,iq]at this;omega
 obtain⟨N3,cw,w3,co,t3,c7,r3,bf,bp⟩:=QH H B (A9 a4) _ _ _ w2 a7 _ q2 hA;obtain⟨N4,b5,w4,cq,t4,q4,S4,b3,v4,r4,b6,bv⟩:=bf.LF (sl:=co) H (X:=X) (λval=>TS.top bA (bA.1.finish (by rw[cd];trivial)) (qJ _ _) (qK _ _)) cb;refine⟨N1+(N2+((N3+N4)+1)),b5,w4,cq,t4,q4,_,S4,b3,cs,v4,lM r1 (lM r2 ?_),b6,?_⟩
 .rw[runNT_succ_next (cr.trans Q)];exact lM r3 r4
 .refine mB bv ?_;have h6:TransGen (Sub (imag prog F) Fin) B (Frame.enter (imag prog F) 138 #[to,.slice bs n cap,Y cn] .normal,fr::cs,v):=mB p4 p1;rcases bp with rfl|h
  .exact h6
  .exact mB h h6
end
end
section
open Go.Conc
def rP:List Nat:=[0,1,138,182,183,185,187,224,225,226,227,228,229,232,235,236,237,238,240,241,255,256,257,258,259,262,263,264,265,266,267,268,269,270,271,272,273,274,275,276,277,278,279,280,281]
def xB (f:Nat):Bool:=rP.contains f || decide (283<=f)
def Xp (f:Ag):Prop:=xB f=true
def Xq (f:Ag):Prop:=(rP.contains f && f != 138)=true
def Iq:Ins:=⟨283,284,48,λf=>if f=186 then some 285 else if f=210 then some 286 else if f=140 then some 287 else if f=209 then some 288 else none⟩
def js (f s:Nat):Nat:=match f,s with
 |72,14|84,16|126,0|126,4|171,0|171,3|203,1|203,6|127,2|127,3|137,2|137,3=>1
 |172,0|172,10|181,0|181,10=>2
 |_,_=>0
def tH (c:Nat):Bool:=c == 138 || decide (283<=c)
def Tq:dq:=⟨js,λf=>f == 127 || f == 137,λf=>f == 172 || f == 181,203,λc f n=>(tH c || decide (f<283)) && (f != 138 || n == 3)⟩
def tT : Func := { (default : Func)with results := #[],body := some (.refuse ""),name := "" }
def pT:Func:={ (default:Func)with ntmps:=13,results:=#[.tmp 0,.tmp 4],body:=some (nk 283 285 183) }
def lB:Func:={ (default:Func)with ntmps:=3,results:=#[],body:=some vO }
def oQ:Func:={ (default:Func)with ntmps:=4,results:=#[],body:=some (uj 48 9) }
def fi (fn:Func):Func:={ fn with ntmps:=fn.ntmps+1,body:=some (.seq (dC 283) (gy Iq fn.ntmps (fn.body.getD .skip))) }
def other (i:Nat)(fn:Func):Func:=bif xB i then(bif i == 138 then pT else tT)else fn
def gF (P:Ad)(k:Nat):Func:=P.funcs.getD k default
def dH (P:Ad):Array Func:=(P.funcs.mapIdx other)++#[lB,oQ,fi (gF P 186),fi (gF P 210),fi (gF P 140),fi (gF P 209)]
def vC{fn:Func}(h:prog.funcs[k]?=some fn):gF prog k=fn:=by simp[gF,h]
def tB:prog.funcs.size=283:=by kernel_rfl
def sQ(h:f<283):(dH prog)[f]?=(prog.funcs[f]?).map (other f):=by unfold dH;rw[Array.getElem?_append_left (by simp[tB,h])];simp
def Ck(h:283<=f):(dH prog)[f]?=(#[lB,oQ,fi f186,fi f210,fi f140,fi f209]:Array Func)[f-283]?:=by unfold dH;rw[vC func186,vC func210,vC func140,vC func209];rw[Array.getElem?_append_right (by simp[tB,h])];simp[tB]
def jN (f:Ag)(h:¬Xp f):(dH prog)[f]?=prog.funcs[f]?:=by
 have g:xB f=false:=by simpa [Xp]using h
 have a:f<283:=by simp only[xB,Bool.or_eq_false_iff,decide_eq_false_iff_not]at g;exact Nat.lt_of_not_le g.2
 rw[sQ a];cases e:prog.funcs[f]? with
 |none=>rfl
 |some fn=>simp[other,g]
def u6 (P:Ad)(x:Bool)(o:Option Func)(i:Nat):Bool:=x || match o with
 |some fn=>match fn.body with
  | some c => codeOk P Tq i c && fn.name != "runtime.NumGoroutine"
  |none=>false
 |none=>false
def ID (P:Ad)(i:Nat):Bool:=u6 P (xB i) P.funcs[i]? i
def IG{P : Ad}{fn : Func}(h : u6 P false (some fn) i = true) : ∃ c,fn.body = some c /\ codeOk P Tq i c = true /\ fn.name ≠ "runtime.NumGoroutine" := by
 unfold u6 at h;dsimp only at h;cases hb:fn.body with
 |none=>rw[hb]at h;cases h
 |some c=>rw[hb]at h;simp only[Bool.false_or,av,bne_iff_ne,ne_eq]at h;exact⟨c,rfl,h.1,h.2⟩
def IC (P:Ad):Bool:=(List.range 283).all (ID P)
def IH:IC prog=true:=by kernel_rfl
def oi{f : Ag}{fn : Func}(h : ¬ Xp f)(l : prog.funcs[f]? = some fn) : ∃ c,fn.body = some c /\ codeOk prog Tq f c = true /\ fn.name ≠ "runtime.NumGoroutine" := by
 have g:xB f=false:=by simpa [Xp]using h
 have a:f<283:=by simp only[xB,Bool.or_eq_false_iff,decide_eq_false_iff_not]at g;exact Nat.lt_of_not_le g.2
 have j:u6 prog (xB f) prog.funcs[f]? f=true:=List.all_eq_true.1 IH f (List.mem_range.2 a);rw[g,l]at j;exact IG j
end
section
open Go.Conc
def GD {f:Ag}(h:Xp f):Xq f\/f=138\/283<=f:=by
 simp only[Xp,xB,bz,bC]at h;rcases h with h|h
 .by_cases e:f=138
  .exact .inr (.inl e)
  .exact .inl (by simp only[Xq,h,Bool.true_and];exact bne_iff_ne.2 e)
 .exact .inr (.inr h)
def nx (f:Ag)(h:xB f=false):¬Xp f:=by simp[Xp,h]
def qI (k:Nat):(dH prog)[283+k]?=(#[lB,oQ,fi f186,fi f210,fi f140,fi f209]:Array Func)[k]?:=by rw[Ck (Nat.le_add_right _ _),Nat.add_sub_cancel_left]
def yy:(dH prog)[283]?=some lB:=qI 0
def vp:(dH prog)[284]?=some oQ:=qI 1
def yz:(dH prog)[285]?=some (fi f186):=qI 2
def vq:(dH prog)[286]?=some (fi f210):=qI 3
def yA:(dH prog)[287]?=some (fi f140):=qI 4
def yB:(dH prog)[288]?=some (fi f209):=qI 5
def zp{f:Ag}{fn:Func}(h:283<=f)(a:(dH prog)[f]?=some fn):(f=283/\fn=lB)\/(f=284/\fn=oQ)\/(f=285/\fn=fi f186)\/(f=286/\fn=fi f210)\/(f=287/\fn=fi f140)\/(f=288/\fn=fi f209):=by
 rw[Ck h]at a;obtain⟨k,g⟩:∃k,f=283+k:=⟨f-283,(Nat.add_sub_cancel' h).symm⟩;subst g;rw[Nat.add_sub_cancel_left]at a
 match k,a with
 |0,a=>exact .inl ⟨rfl,(aJ a).symm⟩
 |1,a=>exact .inr (.inl ⟨rfl,(aJ a).symm⟩)
 |2,a=>exact .inr (.inr (.inl ⟨rfl,(aJ a).symm⟩))
 |3,a=>exact .inr (.inr (.inr (.inl ⟨rfl,(aJ a).symm⟩)))
 |4,a=>exact .inr (.inr (.inr (.inr (.inl ⟨rfl,(aJ a).symm⟩))))
 |5,a=>exact .inr (.inr (.inr (.inr (.inr ⟨rfl,(aJ a).symm⟩))))
 |k+6,a=>simp at a
def pz:prog.info? bad=none:=by kernel_rfl
def sZ:prog.globals.size=2:=by kernel_rfl
def zl : ("" != "runtime.NumGoroutine") = true /\ (f138.name != "runtime.NumGoroutine") = true /\ (f140.name != "runtime.NumGoroutine") = true /\ (f186.name != "runtime.NumGoroutine") = true /\ (f209.name != "runtime.NumGoroutine") = true /\ (f210.name != "runtime.NumGoroutine") = true :=
 ⟨by kernel_rfl,by kernel_rfl,by kernel_rfl,by kernel_rfl,by kernel_rfl,by kernel_rfl⟩
def mb:lq (dH prog):=by
 obtain⟨B,C,l,D,M,N⟩:=zl;intro f fn a
 by_cases h:283<=f
 .rcases zp h a with⟨_,rfl⟩|⟨_,rfl⟩|⟨_,rfl⟩|⟨_,rfl⟩|⟨_,rfl⟩|⟨_,rfl⟩
  .exact⟨rfl,bne_iff_ne.1 l⟩
  .exact⟨rfl,bne_iff_ne.1 l⟩
  .exact⟨rfl,bne_iff_ne.1 D⟩
  .exact⟨rfl,bne_iff_ne.1 N⟩
  .exact⟨rfl,bne_iff_ne.1 l⟩
  .exact⟨rfl,bne_iff_ne.1 M⟩
 .by_cases g:Xp f
  .rw[sQ (Nat.lt_of_not_le h)]at a;obtain⟨o,_,rfl⟩:=aB.1 a;have j:xB f=true:=g;simp only[other,j,cond_true];cases hb:f == 138 with
   |true=>exact⟨rfl,bne_iff_ne.1 C⟩
   |false=>exact⟨rfl,bne_iff_ne.1 B⟩
  .rw[jN f g]at a;obtain⟨c,r,_,y⟩:=oi g a;exact⟨by rw[r];rfl,y⟩
def pE{G0:Base}(o:2<=G0.n):Env prog (dH prog) Xp Tq G0 where
 hb:=pz
 hG:=by rw[sZ];exact o
 hF _ f _ _ _:=mb f
 hS g _:=mb g
 kept:=jN
 code f fn c h hf hb:=by obtain⟨B,l,o,_⟩:=oi h hf;rw[hb]at l;cases l;exact o
 fD f fn h hr hf:=by
  have j:(f == 127 || f == 137)=true:=hr;simp only[bz,bD]at j;rcases j with rfl|rfl
  .rw[func127]at hf;cases hf;exact⟨2,rfl,rfl⟩
  .rw[func137]at hf;cases hf;exact⟨2,rfl,rfl⟩
 jr g hg:=by
  have a:(g == 172 || g == 181)=true:=hg;simp only[bz,bD]at a;rcases a with rfl|rfl
  .exact⟨nx _ rfl,rfl,rfl,rfl⟩
  .exact⟨nx _ rfl,rfl,rfl,rfl⟩
 pK:=nx _ rfl
 oC h:=by obtain⟨c,l,_,y⟩:=oi (nx 203 rfl) func203;exact h _ func203 ⟨by rw[l];rfl,y⟩
 oX f hf:=by
  have r:xB f=true:=hf;cases h:(f == 127 || f == 137)with
  |false=>exact h
  |true=>simp only[bz,bD]at h;rcases h with rfl|rfl<;>cases r
def vy{f f' : Ag}{fn : Func}(l : prog.funcs[f]? = some fn)(a : (fn.name == "runtime.NumGoroutine") = false)(hb : fn.body = some (fn.body.getD .skip))(j : fn.results = #[.tmp r])(g : r < fn.ntmps)(h : kN prog Iq fn.ntmps (fn.body.getD .skip) = true)(o : (dH prog)[f']? = some (fi fn)) : rX prog (imag prog (dH prog)) Iq f f' fn (fi fn) (fn.body.getD .skip) r :=
 ⟨l,a,hb,j,g,h,o,a,rfl,rfl,j⟩
def Li{Fin:Ai->Z->Prop}{G0:Base}(g:2<=G0.n)(nt:eF Fin):rY prog (dH prog) Iq Fin G0 where
 hb:=pz
 hG:=by rw[sZ];exact g
 hF:=mb
 nt:=nt
 J:=⟨lB,yy,by kernel_rfl,rfl,rfl,rfl⟩
 L:=⟨oQ,9,5,vp,by kernel_rfl,rfl,rfl,rfl,by kernel_rfl,by kernel_rfl,by kernel_rfl,Option.isSome_iff_exists.1 (by kernel_rfl),by kernel_rfl⟩
 yG f f' h:=by
  have a:(if f=186 then some 285 else if f=210 then some 286 else if f=140 then some 287 else if f=209 then some 288 else none)=some f':=h;split at a
  .cases a;subst_vars;exact⟨_,_,_,_,vy func186 (by kernel_rfl) (by kernel_rfl) (r:=4) (by kernel_rfl) (by decide) (by kernel_rfl) yz⟩
  .split at a
   .cases a;subst_vars;exact⟨_,_,_,_,vy func210 (by kernel_rfl) (by kernel_rfl) (r:=4) (by kernel_rfl) (by decide) (by kernel_rfl) vq⟩
   .split at a
    .cases a;subst_vars;exact⟨_,_,_,_,vy func140 (by kernel_rfl) (by kernel_rfl) (r:=4) (by kernel_rfl) (by decide) (by kernel_rfl) yA⟩
    .split at a
     .cases a;subst_vars;exact⟨_,_,_,_,vy func209 (by kernel_rfl) (by kernel_rfl) (r:=4) (by kernel_rfl) (by decide) (by kernel_rfl) yB⟩
     .cases a
end
section
open Go.Conc
section
variable {P:Ad}{F:Array Func}{T:dq}
def FL (o:Op):ig (imag P F) o=ig P o:=by cases o<;>rfl
def D3 (fn:Ag)(o:Oper):j6 (imag P F) T fn o=j6 P T fn o:=by unfold j6;rw[FL]
def kO (fn:Ag):∀c:Code,codeOk (imag P F) T fn c=codeOk P T fn c:=by
 have h:j6 (imag P F) T fn=j6 P T fn:=funext λo=>D3 fn o
 intro c
 induction c with
 |region id r d=>simp only[codeOk,h]
 |seq a b g j=>simp only[codeOk,g,j]
 |cond o a b g j=>simp only[codeOk,g,j]
 |block id c l=>simp only[codeOk,l]
 |loop c l=>simp only[codeOk,l]
 |rangeFunc f y a b g j=>simp only[codeOk,g,j]
 |_=>rfl
def Mm(h:df (imag P F) T l):df P T l:=
 ⟨h.fn,by rw[<- kO (F:=F)];exact h.assign,by rw[<- kO (F:=F)];exact h.body,λc a=>by rw[<- kO (F:=F)];exact h.iW c a,h.fO,h.params⟩
def K7{v:Z}(h:Ht (df (imag P F) T) v):Ht (df P T) v:=⟨h.iW,λk l a=>Mm (h.loop k l a),h.kR,h.vw⟩
end
def f138:(dH prog)[138]?=some pT:=by
 rw[sQ (by decide),func138]
 rfl
def f183:(dH prog)[183]?=some tT:=by
 rw[sQ (by decide),func183]
 rfl
def Ov:se (imag prog (dH prog)) 283 285 183 138 pT:=⟨f138,by kernel_rfl,rfl,rfl,rfl⟩
def GC:Xq 183:=by
 show(rP.contains 183 && (183:Nat) != 138)=true
 decide
def He (c k:Nat)(h:Tq.ar c 138 k=true):k=3:=by have a:((tH c || decide (138<283)) && ((138:Nat) != 138 || k == 3))=true:=h;simp only[av,bne_self_eq_false,Bool.false_or,bD]at a;exact a.2
def N9{Fin:Ai->Z->Prop}{G0:Base}(f:2<=G0.n)(nt:eF Fin):uI prog (dH prog) Xp Xq Tq Fin G0 138:=
 Oa (Li f nt) rfl Ov GC f183 (by kernel_rfl) rfl He (λfn a=>by rw[func186]at a;cases a;decide) (λv h=>K7 h)
def H4:¬gL prog 138:=λh=>h _ func138 ⟨by rw[Bu];rfl,bne_iff_ne.1 zl.2.1⟩
def JY{Fin:Ai->Z->Prop}{G0:Base}(o:2<=G0.n)(nt:eF Fin)(f:Ag)(y:Xp f)(l:∃c n,¬Xp c/\Tq.ar c f n=true):Xq f\/(¬gL prog f/\uI prog (dH prog) Xp Xq Tq Fin G0 f):=by
 rcases GD y with h|rfl|h
 .exact .inl h
 .exact .inr ⟨H4,N9 o nt⟩
 .exfalso
  obtain⟨c,n,r,l⟩:=l;have a:tH c=false:=by
   have g:xB c=false:=by simpa [Xp]using r
   simp only[xB,Bool.or_eq_false_iff,decide_eq_false_iff_not]at g;simp only[tH,Bool.or_eq_false_iff,decide_eq_false_iff_not];refine⟨?_,g.2⟩;refine beq_eq_false_iff_ne.2 λe=>?_;rw[e]at g;exact bx g.1 (by decide)
  have j:((tH c || decide (f<283)) && (f != 138 || n == 3))=true:=l;rw[a]at j;simp only[Bool.false_or,av,bC]at j;exact bx j.1 (Nat.not_lt.2 h)
end
section
open Go.Conc
def cj (P:Ad):Ad:=imag P (dH P)
def No:codeOk prog Tq 138 (nk 283 285 183)=true/\codeOk prog Tq 283 vO=true/\codeOk prog Tq 284 (uj 48 9)=true/\codeOk prog Tq 285 (.seq (dC 283) (gy Iq f186.ntmps (f186.body.getD .skip)))=true/\
  codeOk prog Tq 286 (.seq (dC 283) (gy Iq f210.ntmps (f210.body.getD .skip)))=true/\codeOk prog Tq 287 (.seq (dC 283) (gy Iq f140.ntmps (f140.body.getD .skip)))=true/\codeOk prog Tq 288 (.seq (dC 283) (gy Iq f209.ntmps (f209.body.getD .skip)))=true:=
 ⟨by kernel_rfl,by kernel_rfl,by kernel_rfl,by kernel_rfl,by kernel_rfl,by kernel_rfl,by kernel_rfl⟩
def MU {f:Ag}(h:¬Xq f):¬Xp f\/f=138\/283<=f:=by
 by_cases a:Xp f
 .exact .inr ((GD a).resolve_left h)
 .exact .inl a
def uw {f:Ag}(h:Xq f):Xp f/\f≠138/\f<283:=by
 have a:(rP.contains f && f != 138)=true:=h;simp only[av,bne_iff_ne,ne_eq]at a;have hm:f∈rP:=by simpa using a.1
 refine⟨by simp only[Xp,xB,a.1,Bool.true_or],a.2,?_⟩;have:∀x∈rP,x<283:=by decide
 exact this f hm
def J3{G0:Base}(j:2<=G0.n):Env (cj prog) (cj prog).funcs Xq Tq G0 where
 hb:=pz
 hG:=by show prog.globals.size<=G0.n;rw[sZ];exact j
 hF _ f _ _ _:=mb f
 hS g _:=mb g
 kept f _:=rfl
 code f fn c h hf hb:=by
  obtain⟨C,D,M,N,P,Q,R⟩:=No;have a:(dH prog)[f]?=some fn:=hf;show codeOk (imag prog (dH prog)) Tq f c=true;rw[kO];rcases MU h with r|rfl|l
  .rw[jN f r]at a;exact(pE j).code f fn c r a hb
  .rw[f138]at a;cases a;cases hb;exact C
  .rcases zp l a with⟨rfl,rfl⟩|⟨rfl,rfl⟩|⟨rfl,rfl⟩|⟨rfl,rfl⟩|⟨rfl,rfl⟩|⟨rfl,rfl⟩
   .cases hb;exact D
   .cases hb;exact M
   .cases hb;exact N
   .cases hb;exact P
   .cases hb;exact Q
   .cases hb;exact R
 fD f fn h hr hf:=by
  have o:(f == 127 || f == 137)=true:=hr;simp only[bz,bD]at o;have r:¬Xp f:=by rcases o with rfl|rfl<;>exact nx _ rfl
  have a:(dH prog)[f]?=some fn:=hf;rw[jN f r]at a;exact(pE j).fD f fn r hr a
 jr g hg:=by obtain⟨y,j⟩:=(pE j).jr g hg;exact⟨λh=>y (uw h).1,j⟩
 pK h:=nx 203 rfl (uw h).1
 oC h:=by obtain⟨c,y,_,B⟩:=oi (nx 203 rfl) func203;exact h _ (show(dH prog)[203]?=_ from(jN 203 (nx _ rfl)).trans func203) ⟨by rw[y];rfl,B⟩
 oX f hf:=(pE j).oX f (uw hf).1
def KJ {f:Ag}(h:Xq f):(dH prog)[f]?=some tT:=by
 obtain⟨l,o,j⟩:=uw h;rw[sQ j];have a:f<prog.funcs.size:=by rw[tB];exact j
 rw[aP a];have r:xB f=true:=l;have g:(f == 138)=false:=beq_eq_false_iff_ne.2 o;simp only[Option.map_some,other,r,g,cond_true,cond_false]
def ER:xO (cj prog) Xq:=by
 intro f g args cs v;have a:(cj prog).funcs[f]?=some tT:=KJ g;rw [enter_at _ a (c := .refuse "") rfl]
 exact⟨_,_,_,rfl⟩
end
section
open Go.Conc
def ud:Obj->Bool
 |.pending .. | .loop _ | .deferred _ | .view ..=>true
 |_=>false
def FE (o:Obj):ud o=true↔ju o:=by cases o<;>simp[ud,ju]
def ua (k:Nat):Obj->Obj
 |.pending .. | .loop _ | .deferred _=>.cells #[] bad
 |.view ..=>.view ⟨k,0,none⟩ bad
 |o=>o
def Av(h:¬ju o):ua k o=o:=by cases o<;>first|rfl|exact bx trivial h
def PP(h:ju o):blank (ua k o):=by cases o<;>first|exact h.elim|exact⟨rfl,rfl⟩|trivial
def iH (W:Z):Z:={ W with heap:=W.heap.mapIdx ua }
def ub (W:Z)(k:Nat):(iH W).heap[k]?=(W.heap[k]?).map (ua k):=by simp[iH]
def wQ (W:Z):(iH W).heap.size=W.heap.size:=by simp[iH]
def PQ{W:Z}(h:W.heap[k]?=some o)(a:¬ju o):(iH W).heap[k]?=some o:=by rw[ub,h,Option.map_some,Av a]
def vY{W:Z}(h:(W.heap[k]?).filter ud=some o):W.heap[k]?=some o/\ju o:=by rw[Option.filter_eq_some_iff]at h;exact⟨h.1,(FE o).1 h.2⟩
def DR{W:Z}(h:W.heap[k]?=some o)(a:ju o):(W.heap[k]?).filter ud=some o:=by rw[Option.filter_eq_some_iff];exact⟨h,(FE o).2 a⟩
def sF (W:Z)(h:2<=W.heap.size):Base:=⟨2,W.heap.size,h,λk=>(W.heap[k]?).filter ud,λ_ _ e=>(vY e).2,λ_ _ e=>(aO.1 (vY e).1).1⟩
def S0 (W:Z)(k:Nat):Prop:=∃o,W.heap[k]?=some o/\ju o/\∀a t,o≠.view a t
section
variable {W:Z}
def PU (r:2<=W.heap.size)(h0:∀k,k<2->∀o,W.heap[k]?=some o->¬ju o):cM (sF W r) 0 (S0 W) W (iH W):=by
 refine⟨wQ W,λk j=>?_,λk j=>?_,λk j=>?_,λk j=>⟨?_,λ_=>?_⟩,λi y=>bx y (by omega),rfl,rfl,λk o f=>.inl (vY f).1⟩
 .rw[ub];cases f:W.heap[k]? with
  |none=>exact .inl rfl
  |some o=>
   by_cases g:ju o
   .cases o with
    |view a t=>exact .inr ⟨⟨_,_,rfl⟩,_,_,rfl⟩
    |_=>exact bx ⟨_,f,g,λ_ _ e=>(by cases e)⟩ j
   .exact .inl (by rw[Option.map_some,Av g])
 .obtain⟨o,f,g,hv⟩:=j;rw[ub,f];cases o<;>first|exact g.elim|exact bx rfl (hv _ _)|exact⟨_,rfl⟩
 .obtain⟨o,f,g,hv⟩:=j;rw[f];exact⟨λa l e=>(by cases e;exact g),λa t e=>(by cases e;exact hv _ _ rfl)⟩
 .obtain⟨o,f,g,_⟩:=j;exact Nat.le_of_not_lt λh=>h0 k h o f g
 .obtain⟨o,f,g,_⟩:=j;exact⟨o,DR f g⟩
def yT (Lk:Loop->Prop):Ht Lk (iH W):=by
 have key:∀k o,(iH W).heap[k]?=some o->∃f,o=ua k f:=λk o h=>by rw[ub]at h;obtain⟨f,_,e⟩:=aB.1 h;exact⟨f,e.symm⟩
 refine⟨λk c e h=>?_,λk l h=>?_,λk g h=>?_,λk a t h=>?_⟩
 all_goals
  obtain⟨f,e⟩:=key _ _ h;cases f<;>first | (cases e;done)|skip
 cases e;exact⟨rfl,rfl⟩
def LN{j:2<=W.heap.size}{S:Nat->Prop}{w v:Z}(h:cM (sF W j) 0 S w v)(g:k<W.heap.size)(hv:v.heap[k]?=(iH W).heap[k]?):w.heap[k]?=W.heap[k]?:=by
 have a:W.heap[k]?=some W.heap[k]:=aP g;rw[ub,a,Option.map_some]at hv
 by_cases f:ju W.heap[k]
 .rcases h.fix k _ (DR a f)with e|⟨l,e,nb⟩
  .rw[e,a]
  .rw[hv]at e;cases e;exact bx (PP f) nb
 .rw[Av f]at hv;have hS:¬S k:=λhS=>by obtain⟨o,e⟩:=(h.high k hS).2 g;obtain⟨e1,e2⟩:=vY e;rw[a]at e1;cases e1;exact f e2
  have:=(h.same k hS).eq λx t e=>by rw[hv]at e;have:=aJ e;exact f (by rw[this];trivial)
  rw[<- this,hv,a]
end
def entry{f:Ag}{args:Ak}{W:Z}{PostQ Post:D->Z->Prop}{fn:Func}(j:¬Xp f)(g:prog.funcs[f]?=some fn)(hr:fn.results=#[.tmp r])(hi:prog.inits.idxOf? f=none)(an:∀i,js f i=0)
  (Y:2<=W.heap.size) (h0:∀k,k<2->∀o,W.heap[k]?=some o->¬ju o)
  (hQ:∀τ,Calls (cj prog) f args (on (iH W) τ 0) λe w'=>∃val,e = .returned val/\PostQ val w')
  (hT:∀val v τ d,PostQ val v->PostQ val (on v τ d))
  (hP:∀(S:Nat->Prop) (w v:Z) (val:D),cM (sF W Y) 0 S w v->PostQ val v->Post val w) :
  Ends prog Post (solo (G (Frame.enter prog f args .normal) []) W) #[]:=by
 let Fin:Ai->Z->Prop:=λfr v=>fr.fn=f/\fr.mode = .returning/\fr.defers=[]/\fr.kind = .normal/\PostQ (fr.tmps.getD r undef) v
 have nt:eF Fin:=λfr v τ d h=>⟨h.1,h.2.1,h.2.2.1,h.2.2.2.1,hT _ _ τ d h.2.2.2.2⟩
 have N:(cj prog).funcs[f]?=some fn:=(jN f j).trans g;have R:=pE (G0:=sF W Y) (aW 2);have eQ:=J3 (G0:=plain 2) (aW 2);have hB:¬gL prog f:=sG R (mb f) j (by rw[jN f j,g];simp);have Q:∀i x,args[i]?=some x->jd Tq (Tq.sl f i) x:=λi x _=>by
  rw[show Tq.sl f i=0 from an i]
  trivial
 have a0:=TF.enter R (args:=args) j hB Q;have y:¬Xq f:=λh=>j (uw h).1
 have ad:¬gL (cj prog) f:=sG eQ (mb f) y (by rw[N];simp);have a1:=TF.enter eQ (args:=args) y ad Q;have U:Frame.enter (cj prog) f args .normal=Frame.enter prog f args .normal:=vn R j args .normal;have tr:Tr (cj prog) Xq Tq Fin (Frame.enter (cj prog) f args .normal) [] (iH W):=by refine QD eQ ER nt (λ_ _ h=>h.2.1) ⟨⟨a1,trivial,λc hc=>(by cases hc),λ_=>rfl⟩,yT _,.inl rfl⟩ λτ=>?_;obtain⟨e,w',fr,⟨val,rfl,hp⟩,⟨n,hn⟩,B,hm,hd,hk,a3,C,a⟩:=hQ τ [dF (cj prog)];refine⟨n,fr,w',hn,B,hm,hd,hk,?_⟩;rw[B,N]at C;cases C;rw[fo hr]at a;cases a;exact hp
 rw[U]at tr;have l:∀(S:Nat->Prop) (w v:Z) (fr:Ai),Fin fr v->cM (sF W Y) 0 S w v->TS prog Xp Tq [fr]->∃val U,stepG prog true (G fr []) w = .ended (.done val) w U/\(∀e∈U,fX S w.heap.size e)/\Post val w:=by
  rintro S w v fr ⟨B,hm,hd,hk,hp⟩ hs _;refine⟨fr.tmps.getD r undef,#[],?_,by simp,hP S w v _ hs hp⟩;have P:(results fn fr.tmps).runT prog w #[]=(.ok (fr.tmps.getD r undef) w,#[]):=by
   unfold results;rw[hr,aF]
   rfl
  have M:prog.funcs[fr.fn]?=some fn:=by rw[B];exact g
  have am:prog.inits.idxOf? fr.fn=none:=by rw[B];exact hi
  simp only[G,stepG,unwind,hm,hd,M,P,doReturn,hk,am]
  rfl
 refine IX R (JY (aW 2) nt) l (Frame.enter prog f args .normal,[],iH W) (A9 tr) _ (λ_=>False) (S0 W) #[G (Frame.enter prog f args .normal) []] W none #[] (λ_=>0) (aW _) ?_;exact⟨⟨rfl,leavers_one _ _,⟨past_nil.clean,past_nil.known,past_nil.over,past_nil.hears,by simp⟩⟩,PU Y h0,λ_ h=>h.elim,⟨a0,trivial,λc hc=>(by cases hc),λ_=>rfl⟩,yT _,tr,aW _⟩
end
section
open Go.Conc
section
variable {P:Ad}{F:Array Func}{X:Ag->Prop}{T:dq}{n0:Nat}{fr fr':Ai}{cs cs':List Ai}{v v':Z}
def MT {f:Ag}(h:F[f]?=P.funcs[f]?):gL (imag P F) f↔gL P f:=by unfold gL;rw[show(imag P F).funcs[f]?=F[f]? from rfl,h]
def Ly (fn:Ag)(it:Item):ix (imag P F) T fn it=ix P T fn it:=by
 have h:j6 (imag P F) T fn=j6 P T fn:=funext λo=>D3 fn o
 cases it<;>first|exact kO fn _|rfl | (unfold ix;rw[h]) | (unfold ix;simp only[kO])
def TF.imag (E:Env P F X T (plain n0))(h:TF P X T fr):TF (imag P F) X T fr:=
 ⟨h.nX,λhb=>h.bd ((MT (E.kept _ h.nX)).1 hb),λf a=>(Ly fr.fn f).trans (h.todo f a),h.fO,h.iP,h.kind,h.ms⟩
def TS.imag (E:Env P F X T (plain n0)):∀{l:List Ai},TS P X T l->TS (imag P F) X T l
 |[],_=>trivial
 |_::_,h=>⟨h.1.imag E,TS.imag E h.2.1,h.2.2.1,h.2.2.2⟩
def Mn(h:df P T l):df (imag P F) T l:=
 ⟨h.fn,by rw[kO];exact h.assign,by rw[kO];exact h.body,λc a=>by rw[kO];exact h.iW c a,h.fO,h.params⟩
def CU (h:Ht (df P T) v):Ht (df (imag P F) T) v:=⟨h.iW,λk l a=>Mn (h.loop k l a),h.kR,h.vw⟩
def mG (P : Ad)(f : Ag) : Prop := (∃ fn,P.funcs[f]? = some fn /\ fn.body.isSome = true /\ fn.name ≠ "runtime.NumGoroutine") /\ ∀ args cs v,∃ o v' a,stepG P true (G (Frame.enter P f args .normal) cs) v = .ended o v' a
def Env.self (E:Env P F X T (plain n0))(a:∀c f k,¬X c->T.ar c f k=true->¬X f\/(mG P f/\mG (imag P F) f)):Env P P.funcs X T (plain n0) where
 hb:=E.hb
 hG:=E.hG
 hF c f k hc ha:=by
  intro fn h;rcases a c f k hc ha with j|j
  .exact E.hF c f k hc ha fn (by rw[E.kept f j];exact h)
  .obtain⟨⟨⟨l,e,o,r⟩,_⟩,_⟩:=j;rw[h]at e;cases e;exact⟨o,r⟩
 hS g hg:=λfn h=>E.hS g hg fn (by rw[E.kept g (E.jr g hg).1];exact h)
 kept _ _:=rfl
 code:=E.code
 fD:=E.fD
 jr:=E.jr
 pK:=E.pK
 oC:=E.oC
 oX:=E.oX
def It(E:Env P F X T (plain n0))(Z:∀c f k,¬X c->T.ar c f k=true->¬X f\/(mG P f/\mG (imag P F) f))(S:TS P X T (fr::cs))(ht:Ht (df P T) v)(C:fr.mode = .run\/fr.mode = .returning){n:Nat}{m:Machine}
  (l:runN (imag P F) (n+1) (lone fr (cs++[dF (imag P F)]) v) = .next m) (hm:uz (imag P F) m) :
  ∃fr' cs' v',TS P X T (fr'::cs')/\Ht (df P T) v'/\(fr'.mode = .run\/fr'.mode = .returning)/\runN (imag P F) n (lone fr' (cs'++[dF (imag P F)]) v') = .next m/\∀R,∃es,stepG P true (G fr (cs++R)) v = .go (G fr' (cs'++R)) v' es:=by
 have M:cs≠[]\/fr.mode = .run\/fr.defers≠[]:=by refine Classical.byContradiction λhn=>?_;simp only[not_or,Decidable.not_not]at hn;obtain⟨rfl,h1,h2⟩:=hn;exact By ⟨S.imag E,CU ht,C⟩ (C.resolve_left h1) h2 l hm
 have gY:=λ(N:Nat) (R:List Ai)=>tc (R1:=[dF (imag P F)]) (R2:=R) E (mz (G0:=n0) N v) ht S C M
 simp only[runN]at l;cases y:stepG (imag P F) true (G fr (cs++[dF (imag P F)])) v with
 |go g' U es=>
  rw[y]at gY;rcases gY 0 []with⟨Y,a,rfl,hp,a3,B,a0⟩|⟨fr',cs',rfl,h⟩
  .exfalso
   rw[mA y rfl]at l;refine El (X:=X) (T:=T) n Y cs U m a hp ?_ a0 (S.imag E).2.1 (CU B) (TS.run S) l hm;rw[a3];cases hq:(imag P F).funcs[fr.fn]? with
   |none=>exact bx (λfn h=>by rw[hq]at h;cases h) (S.imag E).1.bd
   |some fn=>exact⟨fn,rfl⟩
  .rw[mA y rfl]at l;have D:∀f args,X f->T.ar fr.fn f args.size=true->fr'=Frame.enter (imag P F) f args .normal->False:=by
    intro f args g j e3;have hd:=((Z _ _ _ S.1.nX j).resolve_left λh=>h g).2.2;cases n with
    |zero=>simp only[runN,Stepped.next.injEq]at l;obtain⟨fz,vz,rfl,hz⟩:=hm;obtain⟨rfl,_,_⟩:=mX l;rw[e3]at hz;cases hz
    |succ n=>simp only[runN]at l;obtain⟨o,v2,a4,e4⟩:=hd args (cs'++[dF (imag P F)]) U;rw[e3,nB e4]at l;cases l
   rcases h with⟨c,hc,B,ad,r,_⟩|⟨f,args,g,e3,_,_,j,_⟩
   .refine⟨fr',cs',U,ad,B,r,l,λR=>?_⟩;rcases gY c R with⟨Y,a,e,hp,_⟩|⟨Q,W,e,h⟩
    .exfalso
     have:fr'=Y:=congrArg Goroutine.frame e;subst this;rcases r with h|h<;>(rw[hp]at h;cases h)
    .have e1:fr'=Q:=congrArg Goroutine.frame e;have e2:cs'=W:=List.append_cancel_right (congrArg Goroutine.callers e);subst e1 e2;rcases h with⟨c2,an,_,_,_,h⟩|⟨f,args,g,e3,_,_,j,_⟩
     .have:c2=c:=by have:=an.1;have:=hc.1;omega
      subst this;obtain⟨w',am,r1,r2,_,⟨r3,r4⟩,_⟩:=h (aW _);have hw:Ht (df P T) w':=by
       have g2:=tc (R1:=R) (R2:=R) (E.self Z) (mz (G0:=n0) 0 v) ht S C M;rw[vJ,r1]at g2;rcases g2 with⟨Y,a,e,hp,_⟩|⟨Q,W,e,h⟩
       .have e4:fr'=Y:=congrArg Goroutine.frame e;subst e4;rcases r with h|h<;>(rw[hp]at h;cases h)
       .have e4:fr'=Q:=congrArg Goroutine.frame e;subst e4;rcases h with⟨_,_,h,_⟩|⟨f,args,g,e3,_,_,j,_⟩
        .exact h
        .exact bx g (by have:=ad.1.nX;rw[e3]at this;exact this)
      have e5:=wR r2 B hw;have e6:w'=U:=by
       rw[e5,r3,r4];have a1:=hc.1;have a2:=hc.2;obtain⟨x1,x2,x3,x4,x5⟩:=U;simp only at a1 a2;subst a1 a2
       rfl
      exact⟨am,by rw[r1,e6]⟩
     .exact(D f args g j e3).elim
   .exact(D f args g j e3).elim
 |ended o U es=>rw[nB y]at l;cases l
 |_=>have:=gY 0 [];rw[y]at this;exact this.elim
def BE (E:Env P F X T (plain n0))(h:∀c f k,¬X c->T.ar c f k=true->¬X f\/(mG P f/\mG (imag P F) f)){g:Ai}{o:Z}(B:g.mode = .returning):∀(n:Nat) (fr:Ai) (cs:List Ai) (v:Z),TS P X T (fr::cs)->Ht (df P T) v->(fr.mode = .run\/fr.mode = .returning)->
  runN (imag P F) n (lone fr (cs++[dF (imag P F)]) v) = .next (lone g [dF (imag P F)] o)->(∀R,Steps P (lone fr (cs++R) v) (lone g R o))/\Ht (df P T) o/\TS P X T [g]
 |0,fr,cs,v,r,ht,_,l=>by
  simp only[runN,Stepped.next.injEq]at l;obtain⟨rfl,e,rfl⟩:=mX l;have:cs=[]:=by cases cs with
   |nil=>rfl
   |cons a b=>simp at e
  subst this;exact⟨λR=>⟨0,rfl⟩,ht,r⟩
 |n+1,fr,cs,v,r,ht,y,l=>by obtain⟨fr',cs',v',C,D,M,N,Q⟩:=It E h r ht y l ⟨g,o,rfl,B⟩;obtain⟨U,W,Y⟩:=BE E h B n fr' cs' v' C D M N;refine⟨λR=>?_,W,Y⟩;obtain⟨es,e⟩:=Q R;obtain⟨j,S⟩:=U R;exact⟨j+1,by simp only[runN];rw[mA e rfl];exact S⟩
def BD (E:Env P F X T (plain n0))(Q:∀c f k,¬X c->T.ar c f k=true->¬X f\/(mG P f/\mG (imag P F) f)){f:Ag}{args:Ak}(U:¬X f)(hB:¬gL P f)(o:∀i x,args[i]?=some x->jd T (T.sl f i) x)(ht:Ht (df P T) v){R:D->Z->Prop}
  (h:Calls (imag P F) f args v λe w'=>∃x,e = .returned x/\R x w'):Calls P f args v λe w'=>∃x,e = .returned x/\R x w'/\Ht (df P T) w':=by
 intro cs;obtain⟨e,w',fr,⟨x,rfl,hR⟩,⟨n,W⟩,hf,hl⟩:=h [dF (imag P F)];have C:Frame.enter (imag P F) f args .normal=Frame.enter P f args .normal:=vn E U args .normal;rw[C]at W;obtain⟨hm,hd,N,fn,M,l⟩:=hl;obtain⟨k1,r,k3⟩:=BE E Q hm n (Frame.enter P f args .normal) [] v ⟨TF.enter E U hB o,trivial,λc y=>(by cases y),λ_=>rfl⟩ ht (.inl rfl) W;have j:P.funcs[fr.fn]?=some fn:=by rw[<- E.kept _ k3.1.nX];exact M
 refine⟨.returned x,w',fr,⟨x,rfl,hR,r⟩,k1 cs,hf,hm,hd,N,fn,j,?_⟩;have key:=Tame.results (P:=P) (F:=F) (G0:=plain n0) (Lk:=df P T) E.hb fn fr.tmps (λ_=>False) 0 w' w' #[] (mz 0 w') r;rw[l]at key;obtain⟨c,y,_,N⟩:=key.resolve_left id;have B:c=0:=by have:=y.1;omega
 subst B;obtain⟨Y,ad,r1,r2,_,⟨r3,r4⟩,_⟩:=N (aW _);have a:(results fn fr.tmps).run P w' = .ok x Y:=by have:=congrArg Prod.fst r1;simpa using this
 have S:Ht (df P T) Y:=by have g:=Tame.results (P:=P) (F:=P.funcs) (G0:=plain n0) (Lk:=df P T) E.hb fn fr.tmps (λ_=>False) 0 w' w' #[] (mz 0 w') r;rw[show imag P P.funcs=P from rfl,a]at g;obtain⟨_,_,h,_⟩:=g.resolve_left id;exact h
 have e5:=wR r2 r S;rw[a,e5,r3,r4]
 rfl
end
end
section
open Go.Conc
def Sd:List Nat:=[2,3,4,5,7,8,9,10,23,30,31,49,64,85,184,230,231,233,234,239]
def cB (f:Nat):Bool:=!(xB f) && !(Sd.contains f)
def Xc (f:Ag):Prop:=cB f=false
def dB (f:Nat):Bool:=cB f || f == 9 || f == 23 || f == 49 || f == 85 || f == 138 || (decide (283<=f) && decide (f<289))
def Xd (f:Ag):Prop:=dB f=false
def Tc:dq:=⟨js,λf=>f == 127 || f == 137,λf=>f == 172 || f == 181,203,λc f _=>cB f || (!(cB c) && (dB f || f == 183))⟩
def u0 (P:Ad)(i:Nat):Bool:=!(cB i) || match P.funcs[i]? with
 |some fn=>match fn.body with
  |some c=>codeOk P Tc i c
  |none=>false
 |none=>false
def IE{P:Ad}{fn:Func}{c:Code}(a:cB i=true)(f:P.funcs[i]?=some fn)(hb:fn.body=some c)(h:u0 P i=true):codeOk P Tc i c=true:=by unfold u0 at h;rw[a,f]at h;dsimp only at h;rw[hb]at h;exact h
def IF:((List.range 283).all (u0 prog))=true:=by kernel_rfl
def sH {f:Ag}(h:¬Xc f):¬Xp f/\f<283:=by
 have g:cB f=true:=by simpa [Xc]using h
 simp only[cB,av,Bool.not_eq_true']at g;have a:=g.1;refine⟨by simp[Xp,a],?_⟩;simp only[xB,Bool.or_eq_false_iff,decide_eq_false_iff_not]at a;exact Nat.lt_of_not_le a.2
def Bo{c n:Nat}(l:¬Xc c)(h:Tc.ar c f n=true):¬Xc f:=by
 have a:cB c=true:=by simpa [Xc]using l
 have g:(cB f || (!(cB c) && (dB f || f == 183)))=true:=h;rw[a]at g;have j:cB f=true:=by simpa using g
 simp[Xc,j]
def tz {f:Ag}(h:cB f=true):¬Xc f:=by simp[Xc,h]
def vV {f:Ag}(h:dB f=true):¬Xd f:=by simp[Xd,h]
def qH:Env (cj prog) prog.funcs Xc Tc (plain 2) where
 hb:=pz
 hG:=by show prog.globals.size<=2;rw[sZ];exact aW _
 hF c f n D h:=by obtain⟨r,_⟩:=sH (Bo D h);intro fn l;obtain⟨c,o,_,y⟩:=oi r l;exact⟨by rw[o];rfl,y⟩
 hS g hg:=by have j:(g == 172 || g == 181)=true:=hg;simp only[bz,bD]at j;intro fn l;obtain⟨c,o,_,y⟩:=oi (f:=g) (by rcases j with rfl|rfl<;>exact nx _ rfl) l;exact⟨by rw[o];rfl,y⟩
 kept f h:=(jN f (sH h).1).symm
 code f fn c h l hb:=by
  obtain⟨r,M⟩:=sH h;have a:(dH prog)[f]?=some fn:=l;rw[jN f r]at a;have D:cB f=true:=by simpa [Xc]using h
  have o:u0 prog f=true:=List.all_eq_true.1 IF f (List.mem_range.2 M);have C:=IE D a hb o;show codeOk (imag prog (dH prog)) Tc f c=true;rw[kO];exact C
 fD f fn h hr l:=by
  have B:(f == 127 || f == 137)=true:=hr;simp only[bz,bD]at B;have r:¬Xp f:=by rcases B with rfl|rfl<;>exact nx _ rfl
  have a:(dH prog)[f]?=some fn:=l;rw[jN f r]at a;exact(pE (G0:=plain 2) (aW 2)).fD f fn r hr a
 jr g hg:=by obtain⟨_,C⟩:=(pE (G0:=plain 2) (aW 2)).jr g hg;have j:(g == 172 || g == 181)=true:=hg;simp only[bz,bD]at j;exact⟨by rcases j with rfl|rfl<;>exact tz (by decide),C⟩
 pK:=tz (f:=203) (by decide)
 oC h:=by obtain⟨c,o,_,y⟩:=oi (nx 203 rfl) func203;exact h _ (show(dH prog)[203]?=_ from(jN 203 (nx _ rfl)).trans func203) ⟨by rw[o];rfl,y⟩
 oX f l:=by
  have a:cB f=false:=l;cases h:(f == 127 || f == 137)with
  |false=>exact h
  |true=>simp only[bz,bD]at h;rcases h with rfl|rfl<;>cases a
abbrev ej (v:Z):Prop:=Ht (df (cj prog) Tc) v
def gM{f:Ag}{fn:Func}{args:Ak}{v:Z}(B:cB f=true)(a:prog.funcs[f]?=some fn)(g:∀i,js f i=0)(ht:ej v)
  (h:Calls prog f args v λe w'=>∃x,e = .returned x/\R x w'):Calls (cj prog) f args v λe w'=>∃x,e = .returned x/\R x w'/\ej w':=by
 have j:¬Xc f:=by simp[Xc,B]
 obtain⟨l,_⟩:=sH j;have y:¬gL (cj prog) f:=λhb=>by obtain⟨c,o,_,r⟩:=oi l a;exact hb fn (show(dH prog)[f]?=_ from(jN f l).trans a) ⟨by rw[o];rfl,r⟩
 exact BD (P:=cj prog) (F:=prog.funcs) qH (λc f k C h=>.inl (Bo C h)) j y (λi x _=>by rw[show Tc.sl f i=0 from g i];trivial) ht h
/-! ### the imagined program itself -/
def Jr:codeOk prog Tc 9 (f9.body.getD .skip)=true/\codeOk prog Tc 23 (f23.body.getD .skip)=true/\codeOk prog Tc 49 (f49.body.getD .skip)=true/\codeOk prog Tc 85 (f85.body.getD .skip)=true/\
  codeOk prog Tc 138 (nk 283 285 183)=true/\codeOk prog Tc 283 vO=true/\codeOk prog Tc 284 (uj 48 9)=true/\codeOk prog Tc 285 (.seq (dC 283) (gy Iq f186.ntmps (f186.body.getD .skip)))=true/\
  codeOk prog Tc 286 (.seq (dC 283) (gy Iq f210.ntmps (f210.body.getD .skip)))=true/\codeOk prog Tc 287 (.seq (dC 283) (gy Iq f140.ntmps (f140.body.getD .skip)))=true/\codeOk prog Tc 288 (.seq (dC 283) (gy Iq f209.ntmps (f209.body.getD .skip)))=true:=
 ⟨by kernel_rfl,by kernel_rfl,by kernel_rfl,by kernel_rfl,by kernel_rfl,by kernel_rfl,by kernel_rfl,by kernel_rfl,by kernel_rfl,by kernel_rfl,by kernel_rfl⟩
def BU {f:Ag}(h:dB f=true):cB f=true\/f=9\/f=23\/f=49\/f=85\/f=138\/(283<=f/\f<289):=by simpa [dB,or_assoc]using h
def J2:Env (cj prog) (cj prog).funcs Xd Tc (plain 2) where
 hb:=pz
 hG:=by show prog.globals.size<=2;rw[sZ];exact aW _
 hF _ f _ _ _:=mb f
 hS g _:=mb g
 kept _ _:=rfl
 code f fn c h hf hb:=by
  obtain⟨Q,R,S,U,W,Y,Z,o8,o9,r,y⟩:=Jr;have N:dB f=true:=by simpa [Xd]using h
  have a:(dH prog)[f]?=some fn:=hf;show codeOk (imag prog (dH prog)) Tc f c=true;rw[kO];have old:∀{k:Nat} {g:Func},f=k->prog.funcs[k]?=some g->xB k=false->codeOk prog Tc k (g.body.getD .skip)=true->codeOk prog Tc f c=true:=by rintro k g rfl o P B;rw[jN f (nx f P),o]at a;cases a;rw[hb]at B;exact B
  rcases BU N with M|rfl|rfl|rfl|rfl|rfl|⟨C,_⟩
  .have:=qH.code f fn c (tz M) hf hb;rw[show cj prog=imag prog (dH prog)from rfl,kO]at this;exact this
  .exact old rfl func9 rfl Q
  .exact old rfl func23 rfl R
  .exact old rfl func49 rfl S
  .exact old rfl func85 rfl U
  .rw[f138]at a;cases a;cases hb;exact W
  .rcases zp C a with⟨rfl,rfl⟩|⟨rfl,rfl⟩|⟨rfl,rfl⟩|⟨rfl,rfl⟩|⟨rfl,rfl⟩|⟨rfl,rfl⟩
   .cases hb;exact Y
   .cases hb;exact Z
   .cases hb;exact o8
   .cases hb;exact o9
   .cases hb;exact r
   .cases hb;exact y
 fD f fn h hr hf:=qH.fD f fn (by have l:(f == 127 || f == 137)=true:=hr;simp only[bz,bD]at l;rcases l with rfl|rfl<;>exact tz (by decide)) hr hf
 jr g o:=by obtain⟨_,D⟩:=qH.jr g o;have j:(g == 172 || g == 181)=true:=o;simp only[bz,bD]at j;exact⟨by rcases j with rfl|rfl<;>exact vV (by decide),D⟩
 pK:=vV (f:=203) (by decide)
 oC:=qH.oC
 oX f hf:=by
  have a:dB f=false:=hf;cases h:(f == 127 || f == 137)with
  |false=>exact h
  |true=>simp only[bz,bD]at h;rcases h with rfl|rfl<;>cases a
def BV:mG (cj prog) 183:=⟨⟨tT,f183,rfl,bne_iff_ne.1 zl.1⟩,λargs cs v=>ER 183 GC args cs v⟩
def LM{f:Ag}{args:Ak}{v:Z}(C:dB f=true)(y:∀i,js f i=0)(ht:ej v)
  (h:Calls (cj prog) f args v λe w'=>∃x,e = .returned x/\R x w'):Calls (cj prog) f args v λe w'=>∃x,e = .returned x/\R x w'/\ej w':=by
 have M:¬Xd f:=vV C;have D:¬gL (cj prog) f:=λhb=>by
  obtain⟨fn,a⟩:∃fn,(cj prog).funcs[f]?=some fn:=by
   obtain⟨e,w',fr,_,_,N,Q⟩:=h [];have r:f<289:=by
    rcases BU C with g|rfl|rfl|rfl|rfl|rfl|⟨_,h⟩
    .exact Nat.lt_trans (sH (tz g)).2 (by decide)
    .decide
    .decide
    .decide
    .decide
    .decide
    .exact h
   have B:(cj prog).funcs.size=289:=by show(dH prog).size=289;simp[dH,tB]
   exact⟨_,aP (by rw[B];exact r)⟩
  exact hb fn a (mb f fn a)
 refine BD (P:=cj prog) (F:=(cj prog).funcs) J2 (λc f k g h=>?_) M D (λi x _=>by rw[show Tc.sl f i=0 from y i];trivial) ht h;have j:(cB f || (!(cB c) && (dB f || f == 183)))=true:=h
 by_cases a:dB f=true
 .exact .inl (vV a)
 .have l:cB f=false:=by
   cases g:cB f with
   |false=>rfl
   |true=>exact bx (by simp[dB,g]) a
  have o:dB f=false:=by simpa using a
  rw[l,o]at j;simp only[Bool.false_or,av,bD]at j;obtain⟨_,rfl⟩:=j;exact .inr ⟨BV,BV⟩
end
end Go.Proofs.YthbdpfccfcceiaaGreatDoor
