/-
  Of hurt_card.
-/
import Derived.Test.YthbdpfccfcceiaaGreatDoorF18x
import Derived.ProofKit
import Derived.OpenShut
import Derived.WideKeyArgs
import Derived.Deep.Slices
import Derived.LaidMore
import Derived.Stop.Joined
import Derived.Test.YthbdpfccfcceiaaGreatDoorProg
import Derived.JoinedCond
import Derived.Leaving
import Derived.ClaimOpenTies
import Derived.SevenTiedAt
import Derived.Test.YthbdpfccfcceiaaGreatDoorChecked
import Derived.KernelRfl
set_option linter.all false
namespace Go.Proofs.YthbdpfccfcceiaaGreatDoor
set_option maxRecDepth 100000
set_option maxHeartbeats 4000000
open Go.Proofs.Tryz
variable {a ws:List W3}{a1 a2 a3 tx:Int}{t t':XT}{b:Bool}{α:Type}{A g k m:Nat}{l:XL}{pl:List MemPlace}{d:List (List W3)}{e:XS}
section
open Go.RowKit Go.Maps Go.Lib
def kC:List (Aj)->Nat->XS->XS->Prop
 |[],_,s,a=>a=s
 |f::r,n,s,a=>∃g,kE f n s g true/\kC r (n+1) g a
def kC.snoc {f:Aj}{l:XS}:∀{fs:List (Aj)} {n:Nat} {s g:XS},kC fs n s g->kE f (n+fs.length) g l true->kC (fs++[f]) n s l
 |[],n,s,g,h,j=>by have h:g=s:=h;subst h;exact⟨l,j,rfl⟩
 |a::fs,n,s,g,⟨q,o,r⟩,j=>⟨q,o,kC.snoc r (by rw[show n+1+fs.length=n+(a::fs).length by simp;omega];exact j)⟩
def qq (fs:List (Aj))(s a:XS):Prop:=
 (fs=[]/\a=s)\/∃l f g b,fs=l++[f]/\kC l 0 s g/\kE f l.length g a b
def rT (fs:List (Aj))(s:XS):Prop:=∃(i:Nat) (f:Aj) (a g:XS),fs[i]?=some f/\i+1<fs.length/\kC (fs.take i) 0 s a/\kE f i a g false
def pg (w:Z)(v:D)(fs:List (Aj))(N:Nat->Prop):Prop:=
 ∃a cap,v = .slice a fs.length cap/\fs.length<=1100000/\(fs≠[]->∃h j,a=some ⟨h,j,none⟩/\h<w.heap.size/\N h/\∀(i:Nat) f,fs[i]?=some f->∃(b:Option Addr) (n c g:Nat),w.cell? ⟨h,j+i,none⟩=some (.slice b n c)/\eS w (.slice b n c) f g/\N g/\f.length<=1100000)
def pg.kp{w w':Z}{v:D}{fs:List (Aj)}{N S:Nat->Prop}(h:pg w v fs N)(k:Kp S w w')(B:∀b,N b->¬S b):pg w' v fs N:=by obtain⟨a,cap,rfl,W,h⟩:=h;refine⟨a,cap,rfl,W,λl=>?_⟩;obtain⟨j,C,rfl,o,r,M⟩:=h l;refine⟨j,C,rfl,aR o k.size,r,λi f U=>?_⟩;obtain⟨b,n,c,g,P,Q,y,R⟩:=M i f U;exact⟨b,n,c,g,(k.cell (a:=⟨j,C+i,none⟩) o (B j r)).trans P,Q.kp k (B g y),y,R⟩
structure uE (own:Nat->da)(c:Nat)(w1:Z)(p:Nat)(s:XS)(fs:List (Aj))(i:Nat)(wr:Z)(own':Nat->da)(s':XS):Prop where
 x:XE own' c wr p s'
 ok:dj s'
 cx:∀n,s'.cx n=none
 bk:s'.bk=s.bk
 od:s'.begun=s.begun
 all:i<fs.length->kC (fs.take i) 0 s s'
 end_:i=fs.length->qq fs s s'
 kp:Kp (λb=>(own b).c=c) w1 wr
 old:∀b,b<w1.heap.size->own' b=own b
section
variable {own own':Nat->da}{c:Nat}{w w':Z}{p:Nat}{s:XS}
variable {R:Al}
def iy (own:Nat->da)(c n:Nat)(b:Nat):da:=
 if b<n then own b else if b=n then⟨c,3,0,eb⟩else if b=n+1 then⟨c,4,0,eb⟩else if b=n+2 then⟨c,2,0,eb⟩else if b=n+3 then⟨c,1,0,eb⟩else if b=n+4 then⟨c,10,0,eb⟩else if b=n+5 then⟨c,0,0,eb⟩else⟨c+1,99,0,eb⟩
def vW (c:Nat){n b:Nat}(h:b<n):iy own c n b=own b:=by simp[iy,h]
def MM (own:Nat->da)(c n:Nat):iy own c n (n)=⟨c,3,0,eb⟩:=by unfold iy;rw[if_neg (by omega),if_pos (by omega)]
def MN (own:Nat->da)(c n:Nat):iy own c n (n+1)=⟨c,4,0,eb⟩:=by unfold iy;rw[if_neg (by omega),if_neg (by omega),if_pos (by omega)]
def MO (own:Nat->da)(c n:Nat):iy own c n (n+2)=⟨c,2,0,eb⟩:=by unfold iy;rw[if_neg (by omega),if_neg (by omega),if_neg (by omega),if_pos (by omega)]
def MP (own:Nat->da)(c n:Nat):iy own c n (n+3)=⟨c,1,0,eb⟩:=by unfold iy;rw[if_neg (by omega),if_neg (by omega),if_neg (by omega),if_neg (by omega),if_pos (by omega)]
def MQ (own:Nat->da)(c n:Nat):iy own c n (n+4)=⟨c,10,0,eb⟩:=by unfold iy;rw[if_neg (by omega),if_neg (by omega),if_neg (by omega),if_neg (by omega),if_neg (by omega),if_pos (by omega)]
def MR (own:Nat->da)(c n:Nat):iy own c n (n+5)=⟨c,0,0,eb⟩:=by unfold iy;rw[if_neg (by omega),if_neg (by omega),if_neg (by omega),if_neg (by omega),if_neg (by omega),if_neg (by omega),if_pos (by omega)]
def FJ{l:List α}{i:Nat}{a:α}(h:l[i]?=some a):l.take (i+1)=l.take i++[a]:=by obtain⟨f,rfl⟩:=ak.1 h;exact aE f
def uE.step{own:Nat->da}{w1 wr C:Z}{fs:List (Aj)}{i:Nat}{a:Nat->da}{r o:XS}{f:Aj}(h:uE own c w1 p s fs i wr own' r)(y:fs[i]?=some f)
  (R:Kp (λb=>(own' b).c=c) wr C) (P:∀b,b<wr.heap.size->a b=own' b) (Q:XE a c C p o) (B:dj o) (ht:∀n,o.cx n=none) (hb:o.bk=r.bk) (N:o.begun=r.begun) (M:kE f i r o b) (l:b=true\/i+1=fs.length) :
  uE own c w1 p s fs (i+1) C a o:=by
 have g:i<fs.length:=(ak.1 y).1;refine⟨Q,B,ht,hb.trans h.bk,N.trans h.od,λD=>?_,λD=>?_,h.kp.trans R (λb hb e=>?_),λb hb=>?_⟩
 .have j:b=true:=l.elim id (λe=>by omega);subst j;rw[FJ y];refine(h.all g).snoc ?_;rw[aw,Nat.min_eq_left (Nat.le_of_lt g),ao];exact M
 .refine Or.inr ⟨fs.take i,f,r,b,?_,h.all g,?_⟩
  .rw[<- FJ y,D,List.take_length]
  .rw[aw,Nat.min_eq_left (Nat.le_of_lt g)];exact M
 .have j:own' b=own b:=h.old b hb;rw[j]at e;exact e
 .have:=h.kp.size;rw[P b (by omega)];exact h.old b hb
def Sa (mu:Nat):dj (dn mu):=by refine⟨by simp[dn],by simp[dn],by simp[dn],λk=>by simp[dn],λk m h=>by simp[dn]at h,λk m=>by simp[dn],λk h=>by simp[dn]at h,λn t e=>by simp[dn]at e,by simp[dn],by simp[dn],by simp[dn],by simp[dn],by simp[dn]⟩
def Gw (hT:db w)(hc:∀b,b<w.heap.size->(own b).c≠c)(v:D)(fs:List (Aj))(hv:pg w v fs (λb=>b<w.heap.size))
  (h1:rT fs (dn (w.heap.size+4))->∀w',An w w'->R (.returned (.tuple #[.pointer none,Y 9])) w')
  (h2:∀w' own' s',An w w'->(∀b,b<w.heap.size->own' b=own b)->fG own' c->XE own' c w' (w.heap.size+5) (p8 s')->dj (p8 s')->(∀n,s'.cx n=none)->s'.bk=(dn (w.heap.size+4)).bk->s'.begun=0->qq fs (dn (w.heap.size+4)) s'->R (.returned (.tuple #[.pointer (some ⟨w.heap.size+5,0,none⟩),Y 0])) w') :
  Calls prog 16 #[v] w R:=by
 have HT:=bR hT;have y:=bR hc;have HV:=bR hv;have H1:=bR h1;have H2:=bR h2;obtain⟨a0,ck,rfl,bB,_⟩:=hv;have cb:=bR bB;have co:(fs.length:Int)<=1100000:=by omega
 have cq:IntKind.i64.wrap ((fs.length:Int)-1)=(fs.length:Int)-1:=bN _ (by omega);clear hT hc h1 h2 bB
 go_enter func16,ntmps16
 go_wp2_with (first
  |(go_at_call 33;refine DI w w.heap.size rfl ?_;intro w3 k3 s3 b0 b1 b2 b5 b3 b4;have cg:Hid (XE (iy own c w.heap.size) c w3 (w.heap.size+5) (dn (w.heap.size+4))):=Gv w.heap.size b0 b1 b2 b5 b3 b4 (MM _ _ _) (MN _ _ _) (MO _ _ _) (MP _ _ _) (MQ _ _ _) (MR _ _ _);have K3:=bR k3;have S3:=bR s3;clear k3 s3 b0 b1 b2 b5 b3 b4)
  |fail)
 have cd:=bR (HV.out.kp K3.out (λ_ _ e=>e));have bp:=bR (HT.out.kept K3.out);have be:Hid (fG (iy own c w.heap.size) c):=by show fG _ _;unfold fG;rw[vW c HT.out.lt.1,vW c HT.out.lt.2];exact⟨y.out 0 HT.out.lt.1,y.out 1 HT.out.lt.2⟩
 have bl:Hid (∀b,b<w.heap.size->¬(iy own c w.heap.size b).c=c):=λb hb=>by rw[vW c hb];exact y.out b hb
 go_loopw [12] (λa8 wr=>∃(i:Nat) (own':Nat->da) (s':XS),i<=fs.length/\a8 = Y i/\uE (iy own c w.heap.size) c w3 (w.heap.size+5) (dn (w.heap.size+4)) fs i wr own' s') (λa8 _=>fs.length-(intOf a8).toNat)
 case atStart=>refine⟨0,_,_,aZ _,rfl,cg.out,Sa _,λ_=>rfl,rfl,rfl,λ_=>rfl,λe=>Or.inl ⟨aA e.symm,rfl⟩,Kp.refl _ _,λ_ _=>rfl⟩
 case round=>
  obtain⟨i,Z,s2,hi,rfl,hM⟩:=hrel;have h:=bR hM;have bb:Hid (An w wr):=K3.out.trans hM.kp (λb hb e=>bl.out b hb e);have B:Hid (∀b,b<w.heap.size->Z b=own b):=λb hb=>by rw[hM.old b (aR hb K3.out.size),vW c hb]
  have bq:=bR (bp.out.Db hM.kp be.out);have a3:=bR (FG bp.out be.out hM.old);have ce:=bR (cd.out.kp hM.kp (λb hb=>bl.out b hb));clear hM
  by_cases o:i<fs.length
  .have cm:(i:Int)<fs.length:=by omega
   obtain⟨f,a7⟩:∃f,fs[i]?=some f:=⟨fs[i],aQ o⟩;obtain⟨a1,cl,e1,_,a⟩:=ce.out;injection e1 with e1 _ e2
   subst e1;subst e2;obtain⟨ga,oa,rfl,_,_,a⟩:=a (λe=>by rw[e]at o;simp at o);obtain⟨bf,nf,cf,gf,ch,bS,_,bv⟩:=a i f a7;have ad:=bR a7;have bm:=bR bS;have ba:=bR bv;have j:=bR o;have W:Hid (i<4294967296):=by show _<_;have:=cb.out;omega
   clear a bS bv a7 o
   by_cases U:i+1=fs.length
   .have el:((i:Int) == (fs.length:Int)-1)=true:=by simp;omega
    have am:=bR U;clear U
    go_wp2_with (first
     |(go_at_call 41;refine Gx h.out.x h.out.ok h.out.cx bq.out a3.out _ f gf bm.out ba.out i W.out ?_;intro w4 S s4 b l N Q g P C M r;have an:=bR (h.out.step ad.out l N Q g P C M r (Or.inr am.out));clear l N Q g P C M r)
     |fail)
    all_goals go_roundw
    all_goals first
     |exact⟨i+1,S,s4,by have:=j.out;omega,by go_num,an.out⟩
     |(have:=j.out;simp[intOf];omega)
   .have el:((i:Int) == (fs.length:Int)-1)=false:=by simp;omega
    have am:=bR U;clear U
    go_wp2_with (first
     |(go_at_call 41;refine Gx h.out.x h.out.ok h.out.cx bq.out a3.out _ f gf bm.out ba.out i W.out ?_;intro w4 S s4 b l N Q g P C M r;have ca:Hid (An w w4):=bb.out.trans l (λb hb e=>by rw[B.out b hb]at e;exact y.out b hb e);have cc:=bR r;have an:=bR (λhb=>h.out.step ad.out l N Q g P C M r (Or.inl hb));clear l N Q g P C M r)
     |fail)
    .rename_i hb
     have a4:b=true:=by simpa using hb
     go_roundw
     case rel=>exact⟨i+1,S,s4,by have:=j.out;omega,by go_num,an.out a4⟩
     case measure=>have:=j.out;simp[intOf];omega
    .rename_i hb
     have a4:b=false:=by simpa using hb
     exact H1.out ⟨i,f,s2,s4,ad.out,by have:=am.out;have:=j.out;omega,h.out.all j.out,a4 ▸ cc.out⟩ w4 ca.out
  .have bw:i=fs.length:=by omega
   have a9:=bR (h.out.end_ bw);subst bw;clear hi o
   go_wp2_with (first
    |(go_at_call 40;refine R5 h.out.x h.out.ok ?_;intro w5 bA ci b6;have b7:=bR (H2.out w5 Z s2 (bb.out.trans bA (λb hb e=>by rw[B.out b hb]at e;exact y.out b hb e)) B.out a3.out b6 h.out.ok.p8 h.out.cx h.out.bk h.out.od a9.out);clear bA ci b6)
    |fail)
   exact b7.out
end
end
def bZ:Nat->List (List W3)->List (Aj)
 |_,[]=>[]
 |t,ws::r=>dg t ws::bZ (t+1) r
def mV:∀(es:List (List W3)) (t:Nat),(bZ t es).length=es.length
 |[],_=>rfl
 |_::r,t=>by simp[bZ,mV r (t+1)]
def zc:∀(n t:Nat) (es:List (List W3)),(bZ t es).drop n=bZ (t+n) (es.drop n)
 |0,_,_=>by simp
 |n+1,t,[]=>by simp[bZ]
 |n+1,t,ws::r=>by have:=zc n (t+1) r;simp only[bZ,List.drop_succ_cons];rw[this,show t+1+n=t+(n+1) by omega]
def zg:∀(n t:Nat) (es:List (List W3)),(bZ t es).take n=bZ t (es.take n)
 |0,_,_=>by simp[bZ]
 |n+1,t,[]=>by simp[bZ]
 |n+1,t,ws::r=>by have:=zg n (t+1) r;simp only[bZ,List.take_succ_cons];rw[this]
def ze:∀(es:List (List W3)) (t:Nat) (ws:List W3),bZ t (es++[ws])=bZ t es++[dg (t+es.length) ws]
 |[],t,ws=>by simp[bZ]
 |x::r,t,ws=>by have:=ze r (t+1) ws;simp only[List.cons_append,bZ];rw[this];simp only[ai];rw[show t+1+r.length=t+(r.length+1) by omega]
def ik (ws:List W3):Prop:=(ws.map Prod.fst).Pairwise blt/\1<=ws.length/\ws.length<=10/\∀x∈ws,pN x
def Ib (t:Nat)(ws:List W3)(h:ik ws)(ht:t<4294967296):(dt (dg t ws)).1=67/\(dt (dg t ws)).2.1=t/\pA (dg t ws)=(ws,⟨[],false⟩):=by
 have g:=RS.tG 67 (cP t++(u8 ws.length::ws.flatMap gp));have j:=RS.mf t ht (u8 ws.length::ws.flatMap gp);have a:=RS.tG (u8 ws.length) (ws.flatMap gp);have e:(u8 ws.length).toNat=ws.length:=by have:=h.2.2.1;rw[lj];omega
 rw[e]at a;have f:=RS.Gq ws h.2.2.2 [] ws.length (aW _);rw[bo]at f;have hS:dt (dg t ws)=(67,t,⟨u8 ws.length::ws.flatMap gp,false⟩):=by
  unfold dt;rw[show dg t ws=67::(cP t++(u8 ws.length::ws.flatMap gp))from rfl,g];dsimp only;rw[j]
  rfl
 refine⟨by rw[hS],by rw[hS],?_⟩;unfold pA;rw[hS];dsimp only;rw[a];dsimp only;rw[f];simp
def EL (t:Nat)(ws:List W3)(h:ik ws)(ht:t<4294967296):nU (dg t ws) 67 t ws:=by obtain⟨f,g,a⟩:=Ib t ws h ht;exact Or.inr ⟨rfl,f,g.symm,by rw[a],by rw[a];rfl,h.1,h.2.1,h.2.2.1⟩
def O3{body:Aj}{t k' t':Nat}(h:nU body k t ws)(j:nU body k' t' a):k=k'/\t=t'/\ws=a:=by
 rcases h with⟨a1,a2,a3,g,_⟩|⟨a1,a2,a3,g,_⟩
 .rcases j with⟨b1,b2,f,b4,_⟩|⟨b1,b2,f,b4,_⟩
  .exact⟨a1.trans b1.symm,a3.trans f.symm,g.trans b4.symm⟩
  .omega
 .rcases j with⟨b1,b2,f,b4,_⟩|⟨b1,b2,f,b4,_⟩
  .omega
  .exact⟨a1.trans b1.symm,a3.trans f.symm,g.trans b4.symm⟩
def Bx(t:Nat)(h:ik ws):(dg t ws).length<=400:=Bv h.2.2.2 h.2.2.1
def Dk (b:Aj)(hb:b.length<=400)(r:Aj):lC (dv b++r)=b.length:=by unfold lC dv cQ;simp only[List.cons_append,List.getD_cons_zero,List.getD_cons_succ,lj];omega
def Mb{bs:Aj}(h:2<=m):lC (bs.take m)=lC bs:=by
 unfold lC;have e:∀j,j<2->(bs.take m).getD j 0=bs.getD j 0:=λj a=>by simp only[List.getD,bu];rw[if_pos (by omega)]
 rw[e 0 (by omega),e 1 (by omega)]
def QN{t:Nat}{c r:Aj}(hb:∀ws∈d,ik ws)
  (h:fe (((bZ t d).flatMap dv).take m) (2+lC (((bZ t d).flatMap dv).take m))=some (c,r)) :
  ∃ws a,d=ws::a/\(dv (dg t ws)).length<=m/\c.drop 2=dg t ws/\r=((bZ (t+1) a).flatMap dv).take (m-(dv (dg t ws)).length):=by
 have l:=(F3 h).1;have hm:2<=m:=by have:=List.length_take_le m ((bZ t d).flatMap dv);omega
 cases d with
 |nil=>simp[bZ]at l
 |cons ws a=>
  have D:=hb ws (by simp);have g:=Bx t D;have e0:(bZ t (ws::a)).flatMap dv=dv (dg t ws)++(bZ (t+1) a).flatMap dv:=by simp[bZ]
  rw[e0]at h l;rw[Mb hm,Dk _ g]at h l;have C:=sX (dg t ws);have f:(dv (dg t ws)).length<=m:=by have:=List.length_take_le m (dv (dg t ws)++(bZ (t+1) a).flatMap dv);omega
  refine⟨ws,a,rfl,f,?_⟩;rw[List.take_append,aN f]at h;have o:=xj (u8 (dg t ws).length::u8 ((dg t ws).length / 256)::dg t ws) (((bZ (t+1) a).flatMap dv).take (m-(dv (dg t ws)).length));rw[show(u8 (dg t ws).length::u8 ((dg t ws).length / 256)::dg t ws).length=2+(dg t ws).length by simp;omega]at o;have j:fe (cQ (u8 (dg t ws).length::u8 ((dg t ws).length / 256)::dg t ws)++((bZ (t+1) a).flatMap dv).take (m-(dv (dg t ws)).length)) (2+(dg t ws).length)=some (c,r):=h;rw[o]at j;injection j with j
  injection j with y B
  exact⟨by rw[<- y];rfl,B.symm⟩
def Jn{t:Nat}(h:ik ws)(ht:t<4294967296)(r:Aj):lV (dv (dg t ws)++r) 67 t ws r:=by have a:=Bx t h;have f:=xj (u8 (dg t ws).length::u8 ((dg t ws).length / 256)::dg t ws) r;rw[show(u8 (dg t ws).length::u8 ((dg t ws).length / 256)::dg t ws).length=2+(dg t ws).length by simp;omega]at f;refine⟨by rw[aj,sX];omega,u8 (dg t ws).length::u8 ((dg t ws).length / 256)::dg t ws,?_,EL t ws h ht⟩;rw[Dk _ a];exact f
def dS.t3 (r:dS):Nat × Nat × List W3:=(r.k,r.t,r.ws)
def jq:Nat->List (List W3)->List (Nat × Nat × List W3)
 |_,[]=>[]
 |t,ws::r=>(67,t,ws)::jq (t+1) r
def EI:∀(l:List dS) (t:Nat) (a:List (List W3)) (m:Nat) (rest:Aj),(∀ws∈a,ik ws)->t+a.length<4294967296->kx (((bZ t a).flatMap dv).take m) l rest->
  l.length<=a.length/\l.map dS.t3=jq t (a.take l.length)/\(((bZ t (a.take l.length)).flatMap dv).length<=m)/\rest=((bZ (t+l.length) (a.drop l.length)).flatMap dv).take (m-((bZ t (a.take l.length)).flatMap dv).length)
 |[],t,a,m,rest,_,_,h=>by have h:((bZ t a).flatMap dv).take m=rest:=h;refine⟨aZ _,by simp[jq],by simp[bZ],?_⟩;simp[bZ,h]
 |r::l,t,a,m,rest,hb,ht,h=>by
  obtain⟨q,⟨_,c,C,g⟩,j⟩:=h;obtain⟨ws,f,rfl,y,o,B⟩:=QN hb C;rw[o]at g;have D:=hb ws (by simp);simp only[ai]at ht;obtain⟨e1,e2,e3⟩:=O3 g (EL t ws D (by omega));subst B;obtain⟨i1,N,Q,P⟩:=EI l (t+1) f (m-(dv (dg t ws)).length) rest (λx M=>hb x (by simp[M])) (by omega) j;have e0:((bZ t ((ws::f).take (l.length+1))).flatMap dv).length=(dv (dg t ws)).length+((bZ (t+1) (f.take l.length)).flatMap dv).length:=by simp[bZ]
  refine⟨by simp only[ai];omega,?_,?_,?_⟩
  .simp only[List.map_cons,ai,List.take_succ_cons,jq];rw[N];unfold dS.t3;rw[e1,e2,e3]
  .simp only[ai];rw[e0];omega
  .simp only[ai,List.drop_succ_cons];rw[e0,P,show t+1+l.length=t+(l.length+1) by omega]
   congr 1
   omega
def cY (lg:List (Aj))(i:Nat):Aj:=fJ i++((lg.drop (4*i)).take 4).flatMap dv
def BZ(l:List α)(x:α)(i:Nat)(h:4*i+4<=l.length):((l++[x]).drop (4*i)).take 4=(l.drop (4*i)).take 4:=by rw[List.drop_append_of_le_length (by omega),bc (by rw[aG];omega)]
def vt (lg:List (Aj)):∀i,4*i<lg.length->(cG lg)[i]?=some (cY lg i):=by
 induction lg using wY with
 |h0=>intro i g;simp at g
 |h1 l x h=>
  intro i g;simp only[aj,ai,ax]at g;have o:=oq l;rw[ot];unfold kK
  by_cases j:l.length % 4=0
  .rw[if_pos j]
   by_cases a:4*i<l.length
   .rw[az (by omega),h i a];unfold cY;rw[BZ l x i (by omega)]
   .have e:i=(cG l).length:=by omega
    rw[List.getElem?_append_right (by omega),<- e,Nat.sub_self];have e2:l.length=4*i:=by omega
    unfold cY;rw[<- e2,List.drop_left];simp
  .rw[if_neg j];have f:(cG l).getLastD []=cY l ((cG l).length-1):=by
    have h1:=h ((cG l).length-1) (by omega);rw[List.getLastD_eq_getLast?,List.getLast?_eq_getElem?,h1]
    rfl
   by_cases a:i<(cG l).length-1
   .rw[az (by rw[List.length_dropLast];omega),List.getElem?_dropLast,if_pos a,h i (by omega)];unfold cY;rw[BZ l x i (by omega)]
   .have e:i=(cG l).length-1:=by omega
    rw[List.getElem?_append_right (by rw[List.length_dropLast];omega),List.length_dropLast,<- e,Nat.sub_self,f,<- e];unfold cY;rw[List.drop_append_of_le_length (by omega)];have r:(l.drop (4*i)).length<=3:=by rw[aG];omega
    rw[aN (l:=l.drop (4*i)) (by omega),aN (by simp;omega)];simp
def lN (lg:List (Aj))(k:Nat):Nat:=bytesOf (cG (lg.take k))
def Aw{lg:List (Aj)}{b:Aj}(h:lg[k]?=some b):lN lg (k+1)=lN lg k+(dv b).length+if k % 4=0 then 11 else 0:=by
 obtain⟨a,rfl⟩:=ak.1 h;unfold lN;have f:(lg.take k).length=k:=by rw[aw];omega
 rw[aE a,ot,yb _ _ _ (λh=>yC h),f];have g:=sX lg[k];split<;>simp_all<;>omega
def PW {lg:List (Aj)}:∀{a b:Nat},a<=b->b<=lg.length->lN lg a<=lN lg b:=by
 intro a b f hb
 induction b with
 |zero=>
  have:a=0:=by omega
  subst this;exact aW _
 |succ b g=>
  by_cases h:a=b+1
  .subst h;exact aW _
  .have:=Aw (aQ (show b<lg.length by omega));have:=g (by omega) (by omega);omega
def PV{lg:List (Aj)}{i:Nat}:∀{j:Nat},j<4->4*i+j<lg.length->lN lg (4*i+j+1)=lN lg (4*i)+11+(((lg.drop (4*i)).take (j+1)).flatMap dv).length:=by
 intro j
 induction j with
 |zero=>
  intro _ h;rw[Aw (aQ h),if_pos (by omega)];have e:(lg.drop (4*i)).take 1=[lg[4*i]]:=by
   rw[List.drop_eq_getElem_cons (show 4*i<lg.length by omega)]
   rfl
  simp only[Nat.add_zero,ao]at e ⊢;rw[e];simp;omega
 |succ j f=>
  intro g h;have a:=f (by omega) (by omega);rw[show 4*i+(j+1)+1=(4*i+j+1)+1 by omega,Aw (aQ (show 4*i+j+1<lg.length by omega)),if_neg (by omega),a];have e:(lg.drop (4*i)).take (j+1+1)=(lg.drop (4*i)).take (j+1)++[lg[4*i+j+1]]:=by
   rw[aE (by rw[aG];omega),List.getElem_drop]
   congr 3
  rw[e];simp;omega
def Ii{lg:List (Aj)}{q:Nat}(h:4*q<=lg.length):bytesOf ((cG lg).take q)=lN lg (4*q):=by
 unfold lN
 congr 1
 apply List.ext_getElem?;intro i;have a:=oq (lg.take (4*q));rw[aw]at a;rw[bu];split
 .rename_i f
  rw[vt lg i (by omega),vt (lg.take (4*q)) i (by rw[aw];omega)];unfold cY;rw[List.drop_take,List.take_take,Nat.min_eq_left (by omega)]
 .rw[bh (by omega)]
def Cs:∀(fs:List (Aj)) (n q:Nat) (f':Aj),(fx fs n)[q]?=some f'->∃f,fs[q]?=some f/\bytesOf (fs.take q)<n/\f'=f.take (n-bytesOf (fs.take q))
 |[],_,_,_,h=>by simp[fx]at h
 |g::r,n,q,f',h=>by
  unfold fx at h;split at h
  .simp at h
  .rename_i o
   cases q with
   |zero=>simp at h;exact⟨g,by simp,by simp[bytesOf];omega,by simp[bytesOf,h]⟩
   |succ q=>
    simp at h;obtain⟨f,a,l,j⟩:=Cs r (n-g.length) q f' h;have e:bytesOf ((g::r).take (q+1))=g.length+bytesOf (r.take q):=by rw[List.take_succ_cons,qz]
    refine⟨f,by simpa using a,by rw[e];omega,?_⟩;rw[e,j]
    congr 1
    omega
def oG (es:List (List W3)):Nat->Ac->List Int
 |0,_=>[]
 |n+1,k=>if(eJ (es.getD n []) k).isSome=true then oG es n k++[(n:Int)+1]else oG es n k
def nG (es:List (List W3)):Nat->Ac->Int->Option (Ac × Bool)
 |0,_,_=>none
 |n+1,k,m=>if m=(n:Int)+1/\(eJ (es.getD n []) k).isSome=true then eJ (es.getD n []) k else nG es n k m
structure eO (es:List (List W3))(n:Nat)(s:XS):Prop where
 now:s.now=n
 cJ:s.cJ=0
 bU:∀k,s.bU k=oG es n k
 cE:∀k m,s.cE k m=nG es n k m
 lg:s.log.lg=bZ 1 (es.take n)
 le:n<=es.length
def yS (es:List (List W3))(mu:Nat):eO es 0 (dn mu):=⟨rfl,rfl,λ_=>rfl,λ_ _=>rfl,by simp[dn,bZ],aZ _⟩
section
variable {es:List (List W3)}{n i:Nat}{s s':XS}
def eO.next(h:eO es n s){ws:List W3}(j:es[n]?=some ws)(a:l.lg=s.log.lg++[dg (n+1) ws])(nv nm:Nat):eO es (n+1) (comm { s with log:=l } ⟨0,eJ ws,0⟩ (λ_=>false) nv nm):=by
 obtain⟨f,o⟩:=ak.1 j;have g:es.getD n []=ws:=by simp[List.getD,j]
 refine⟨?_,h.cJ,λk=>?_,λk m=>?_,?_,by omega⟩
 .show s.now+1=_;rw[h.now];simp
 .simp only[comm,Bool.not_false,Bool.and_true,oG,g,h.now,h.bU]
 .simp only[comm,Bool.not_false,Bool.and_true,nG,g,h.now,h.cE]
 .show l.lg=_;rw[a,h.lg,aE f,o,ze,aw,Nat.min_eq_left (by omega),Nat.add_comm 1 n]
def eO.ym (h:eO es n s){ws:List W3}(y:es[n]?=some ws){r:dS}(f:r.t3=(67,n+1,ws))(g:ql r s s'):eO es (n+1) s':=by
 unfold dS.t3 at f;injection f with B f
 injection f with o j
 obtain⟨l,_,g⟩:=g;rcases g with⟨e,_⟩|⟨_,a,nv,nm,_,_,rfl⟩
 .omega
 .rw[o,j]at a;rw[j];exact h.next y a nv nm
def eO.may (h:eO es n s)(a:n<2000):gB s 67 (n+1)=true:=by unfold gB;rw[if_neg (by omega),h.now];simp;omega
def yn:∀(l:List dS) (n:Nat) (s s':XS),eO es n s->l.length<=(es.drop n).length->l.map dS.t3=jq (n+1) ((es.drop n).take l.length)->lX l s s'->eO es (n+l.length) s'
 |[],n,s,s',h,_,_,a=>by have a:s'=s:=a;subst a;exact h
 |r::l,n,s,s',h,B,g,a=>by
  obtain⟨_,C,j,o⟩:=a;simp only[ai,aG]at B;have f:n<es.length:=by omega
  rw[List.drop_eq_getElem_cons f]at g;simp only[ai,List.take_succ_cons,jq,List.map_cons]at g;injection g with e1 e2
  have y:=h.ym (aQ f) e1 j;have:=yn l (n+1) C s' y (by rw[aG];omega) e2 o;rw[show n+(r::l).length=n+1+l.length by simp;omega];exact this
def EO:∀(j t:Nat) (a:List (List W3)),(jq t a).take j=jq t (a.take j)
 |0,_,_=>by simp[jq]
 |j+1,t,[]=>by simp[jq]
 |j+1,t,ws::r=>by simp[jq,EO j (t+1) r]
def EN:∀(j t:Nat) (a:List (List W3)) (x:Nat × Nat × List W3),(jq t a)[j]?=some x->∃ws,a[j]?=some ws/\x=(67,t+j,ws)
 |_,_,[],_,h=>by simp[jq]at h
 |0,t,ws::r,x,h=>by simp[jq]at h;exact⟨ws,by simp,by rw[<- h];simp⟩
 |j+1,t,ws::r,x,h=>by simp[jq]at h;obtain⟨w,f,g⟩:=EN j (t+1) r x h;exact⟨w,by simpa using f,by rw[g,show t+1+j=t+(j+1) by omega]⟩
def Cn (es:List (List W3))(i:Nat):cY (bZ 1 es) i=fJ i++(bZ (1+4*i) ((es.drop (4*i)).take 4)).flatMap dv:=by unfold cY;rw[zc,zg]
def Kq (es:List (List W3))(i m:Nat):((cY (bZ 1 es) i).take m).drop 11=((bZ (1+4*i) ((es.drop (4*i)).take 4)).flatMap dv).take (m-11):=by
 rw[Cn,List.drop_take]
 congr 1
def Cm (es:List (List W3)){i m:Nat}(f:i<4294967296)(hm:11<=m):gO ((cY (bZ 1 es) i).take m)=some i:=by
 rw[Cn,List.take_append,aN (by rw[qZ];exact hm)];generalize ((bZ (1+4*i) ((es.drop (4*i)).take 4)).flatMap dv).take (m-(fJ i).length)=r;have a:=xj ([80,76,49]++cP i) r;rw[show(([80,76,49]:Aj)++cP i).length=7 from rfl]at a;unfold gO;rw[show fJ i=cQ ([80,76,49]++cP i)from rfl,a];dsimp only;rw[if_pos (by rfl)]
 congr 1
 exact vS i f
def Jj {bs:Aj}(h:bs.length<11):gO bs=none:=by unfold gO fe;rw[if_pos (Or.inl (by omega))]
def ES{m:Nat}(hE:∀ws∈es,ik ws)(hl:es.length<=2000)(hi:i<4294967)(h:eO es (4*i) s)(Y:kE ((cY (bZ 1 es) i).take m) i s s' b) :
  ∃j,j<=4/\eO es (4*i+j) s'/\(b=true↔j=4)/\(j<4->4*i+j<es.length->m<11+((((bZ 1 es).drop (4*i)).take (j+1)).flatMap dv).length):=by
 rcases Y with⟨h1,rfl,rfl⟩|⟨l,rest,Q,Y⟩
 .refine⟨0,by omega,h,by simp,λ_ _=>?_⟩;have:¬11<=m:=λhm=>h1 (Cm es (by omega) hm)
  omega
 .have hm:11<=m:=by
   rcases Nat.lt_or_ge m 11 with hm|hm
   .have:=Jj (bs:=(cY (bZ 1 es) i).take m) (by have:=List.length_take_le m (cY (bZ 1 es) i);omega);rw[Q.num]at this;cases this
   .exact hm
  have y:∀ws∈(es.drop (4*i)).take 4,ik ws:=λws Z=>hE ws (List.mem_of_mem_drop (List.mem_of_mem_take Z))
  have an:((es.drop (4*i)).take 4).length<=4:=List.length_take_le _ _;have M:=Q.EM;rw[Kq]at M;obtain⟨i1,R,i3,i4⟩:=EI l (1+4*i) ((es.drop (4*i)).take 4) (m-11) rest y (by omega) M;have B:=Q.le;have N:∀j,j<=4->((es.drop (4*i)).take 4).take j=(es.drop (4*i)).take j:=λj o=>by rw[List.take_take,Nat.min_eq_left o]
  have g:l.length<=(es.drop (4*i)).length:=by
   have:=List.length_take_le 4 (es.drop (4*i));have:((es.drop (4*i)).take 4).length<=(es.drop (4*i)).length:=by rw[aw];omega
   omega
  rw[N _ B,Nat.add_comm 1 (4*i)]at R;rcases Y with⟨j,r,o,S,D,_⟩|⟨S,rfl⟩
  .exfalso
   have am:j<l.length:=(ak.1 o).1;have e1:(l.take j).map dS.t3=jq (4*i+1) ((es.drop (4*i)).take j):=by rw[List.map_take,R,EO,List.take_take,Nat.min_eq_left (by omega)]
   have C:(l.take j).length=j:=by rw[aw];omega
   have P:=yn (l.take j) (4*i) s s' h (by omega) (by rw[C];exact e1) S;rw[C]at P;have e2:(l.map dS.t3)[j]?=some r.t3:=by rw[bt,o];rfl
   rw[R]at e2;obtain⟨ws,_,e3⟩:=EN j _ _ _ e2;unfold dS.t3 at e3;injection e3 with e3 e4
   injection e4 with e4 _
   have h3:=P.may (by simp only[aG]at g;omega);rw[e3,e4,show 4*i+1+j=4*i+j+1 by omega,h3]at D;cases D
  .have P:=yn l (4*i) s s' h g R S;refine⟨l.length,B,P,?_,λo a0=>?_⟩
   .constructor
    .intro hb;simp only[av,bC]at hb;exact hb.2
    .intro hb;have e:rest=[]:=by rw[i4,List.drop_of_length_le (show((es.drop (4*i)).take 4).length<=l.length by omega)];simp[bZ]
     simp[e,hb]
   .have f:=Q.stop o;have a:l.length<((es.drop (4*i)).take 4).length:=by rw[aw,aG];omega
    rw[i4,List.drop_eq_getElem_cons a]at f;generalize hX:((bZ (1+4*i) (((es.drop (4*i)).take 4).take l.length)).flatMap dv).length=X at f i3;have Z:=y _ (List.getElem_mem a);have ad:m-11-X<(dv (dg (1+4*i+l.length) ((es.drop (4*i)).take 4)[l.length])).length:=by
     rcases Nat.lt_or_ge (m-11-X) (dv (dg (1+4*i+l.length) ((es.drop (4*i)).take 4)[l.length])).length with W|W
     .exact W
     .exfalso
      simp only[bZ,List.flatMap_cons]at f;rw[List.take_append,aN W]at f;exact f _ _ _ _ (Jn Z (by omega) _)
    rw[zc,zg];have e5:(es.drop (4*i)).take (l.length+1)=(((es.drop (4*i)).take 4).take l.length)++[((es.drop (4*i)).take 4)[l.length]]:=by rw[<- N (l.length+1) (by omega),aE a]
    rw[e5,ze];have U:(((es.drop (4*i)).take 4).take l.length).length=l.length:=by rw[aw];omega
    rw[U];simp only[List.flatMap_append,List.flatMap_cons,List.flatMap_nil,bo,aj];omega
def zZ (r:∀ws∈es,ik ws)(B:es.length<=2000):∀(l:List (Aj)) (i:Nat) (s s':XS),i+l.length<4294967->eO es (4*i) s->(∀(j:Nat) f,l[j]?=some f->∃m,f=(cY (bZ 1 es) (i+j)).take m)->kC l i s s'->eO es (4*(i+l.length)) s'
 |[],i,s,s',_,h,_,a=>by have a:s'=s:=a;subst a;exact h
 |f::l,i,s,s',o,h,y,a=>by
  obtain⟨P,C,D⟩:=a;obtain⟨m,rfl⟩:=y 0 f (by simp);simp only[ai]at o;obtain⟨j,_,M,N,_⟩:=ES (i:=i) r B (by omega) h C;have g:=N.1 rfl;subst g;have:=zZ r B l (i+1) P s' (by omega) (by rw[show 4*(i+1)=4*i+4 by omega];exact M) (λj f g=>by obtain⟨m,e⟩:=y (j+1) f (by simpa using g);exact⟨m,by rw[e,show i+1+j=i+(j+1) by omega]⟩) D
  simp only[ai];rw[show i+(l.length+1)=i+1+l.length by omega];exact this
end
section
open Go.RowKit Go.Maps
section
variable {own own':Nat->da}{c:Nat}{w w':Z}{p:Nat}{s:XS}{mo ph mv mm:Nat}{pt mw:Int->Nat}{sl:Ac->D}
variable {R:Al}
def xz (h:XR own c w p s mo ph mv mm pt mw sl)(t:Int)
  (h1:t<s.cJ->R (.returned (Y 6)) w)
  (g:¬t<s.cJ->s.now<t->R (.returned (Y 7)) w)
  (j:¬t<s.cJ->¬s.now<t->R (.returned (Y 0)) w) :
  Calls prog 44 #[ab p,Y t] w R:=by
 have c1:w.cell? ⟨p,1,none⟩=some (Y s.cJ):=ct h.store 1;have c2:w.cell? ⟨p,2,none⟩=some (Y s.now):=ct h.store 2;clear h
 by_cases f:t<s.cJ
 .have d1:decide (t<s.cJ)=true:=by simpa using f
  have a:=bR (h1 f);clear h1 g j
  go_enter func44,ntmps44
  go_wp2
  exact a.out
 .have d1:decide (t<s.cJ)=false:=by simpa using f
  by_cases l:s.now<t
  .have d2:decide (s.now<t)=true:=by simpa using l
   have a:=bR (g f l);clear h1 g j
   go_enter func44,ntmps44
   go_wp2
   exact a.out
  .have d2:decide (s.now<t)=false:=by simpa using l
   have a:=bR (j f l);clear h1 g j
   go_enter func44,ntmps44
   go_wp2
   exact a.out
def RR (h:XR own c w p s mo ph mv mm pt mw sl)(t:Int)(key:Ac)(Q:key.size<=maxLen)(hm:∀k,A5 s k)
  (h1:dy key=false->R (.returned (.tuple #[.string eb,Y 1])) w)
  (y:dy key=true->t<s.cJ->R (.returned (.tuple #[.string eb,Y 6])) w)
  (B:dy key=true->¬t<s.cJ->s.now<t->R (.returned (.tuple #[.string eb,Y 7])) w)
  (C:dy key=true->¬t<s.cJ->¬s.now<t->(ij s key t).2=false->∀w',An w w'->R (.returned (.tuple #[.string eb,Y 5])) w')
  (D:dy key=true->¬t<s.cJ->¬s.now<t->(ij s key t).2=true->∀w',An w w'->R (.returned (.tuple #[.string (ij s key t).1,Y 0])) w') :
  Calls prog 56 #[ab p,Y t,.string key] w R:=by
 have H:=bR h;have M:=bR Q;have r:=bR hm;have W:w.cell? ⟨p,0,none⟩=some (ab ph):=ct h.store 0;clear h Q hm;cases hb:dy key with
 |false=>
  have g:=bR (h1 hb);clear h1 y B C D
  go_enter func56,ntmps56
  go_wp2_with (first
   |(go_at_call 67;refine(kU _ _ M.out).mono ?_;rintro e w' ⟨rfl,rfl⟩)
   |go_in)
  exact g.out
 |true=>
  have P:=jB key hb;have N:=bR P;clear P
  by_cases f:t<s.cJ
  .have g:=bR (y hb f);have o:=bR f;clear h1 y B C D f
   go_enter func56,ntmps56
   go_wp2_with (first
    |(go_at_call 67;refine(kU _ _ M.out).mono ?_;rintro e w' ⟨rfl,rfl⟩)
    |(go_at_call 44;refine xz H.out t (λ_=>?_) (λq _=>by have:=o.out;omega) (λq _=>by have:=o.out;omega))
    |go_in)
   exact g.out
  .by_cases j:s.now<t
   .have g:=bR (B hb f j);have o:=bR f;have S:=bR j;clear h1 y B C D f j
    go_enter func56,ntmps56
    go_wp2_with (first
     |(go_at_call 67;refine(kU _ _ M.out).mono ?_;rintro e w' ⟨rfl,rfl⟩)
     |(go_at_call 44;refine xz H.out t (λq=>by have:=o.out;omega) (λ_ _=>?_) (λ_ q=>by have:=S.out;omega))
     |go_in)
    exact g.out
   .have o:=bR f;have S:=bR j;cases hv:(ij s key t).2 with
    |false=>
     have g:=bR (C hb f j hv);clear h1 y B C D f j
     go_enter func56,ntmps56
     go_wp2_with (first
      |(go_at_call 67;refine(kU _ _ M.out).mono ?_;rintro e w' ⟨rfl,rfl⟩)
      |(go_at_call 44;refine xz H.out t (λq=>by have:=o.out;omega) (λ_ q=>by have:=S.out;omega) (λ_ _=>?_))
      |(go_at_call 91;refine Gy H.out key t N.out (r.out key).len (r.out key).up (r.out key).cE (λU a=>?_);have l:=bR a;clear a)
      |go_in)
     exact g.out U l.out
    |true=>
     have g:=bR (D hb f j hv);clear h1 y B C D f j
     go_enter func56,ntmps56
     go_wp2_with (first
      |(go_at_call 67;refine(kU _ _ M.out).mono ?_;rintro e w' ⟨rfl,rfl⟩)
      |(go_at_call 44;refine xz H.out t (λq=>by have:=o.out;omega) (λ_ q=>by have:=S.out;omega) (λ_ _=>?_))
      |(go_at_call 91;refine Gy H.out key t N.out (r.out key).len (r.out key).up (r.out key).cE (λU a=>?_);have l:=bR a;clear a)
      |go_in)
     exact g.out U l.out
def RQ (t:Int)(key:Ac)
  (g:Calls prog 56 #[ab p,Y t,.string key] w λe w'=>∃(a:Ac) (b:Int),e = .returned (.tuple #[.string a,Y b])/\R (.returned (.tuple #[.string a,Y b])) w') :
  Calls prog 29 #[ab p,Y t,.string key] w R:=by
 have j:=bR g;clear g
 go_enter func29,ntmps29
 go_wp2_with (first
  |(go_at_call 56;refine Calls.mono j.out ?_;rintro e l ⟨a,b,rfl,h⟩;have f:=bR h;clear h)
  |go_in)
 exact f.out
end
end
section
open Go.RowKit
def pk (c n:Int):Int:=(if c<0 then -(c+1)else c) % n
def tM(c:Int){n:Int}(h:0<n):0<=pk c n/\pk c n<n:=⟨Int.emod_nonneg _ (by omega),Int.emod_lt_of_pos _ h⟩
def k6 (i:Int):Ac:=if i=0 then⟨#[97]⟩else if i=1 then⟨#[98]⟩else if i=2 then⟨#[98,98]⟩else if i=3 then⟨#[99]⟩else if i=4 then⟨#[107,57]⟩else⟨#[122,122,122,122,122,122,122,122]⟩
def dZ (n:Int):Ac:=k6 (pk n 6)
def vv (d:Int):Ac:=(⟨#[118]⟩:Ac)++(⟨#[48,49,50,51,52,53,54,55,56,57]⟩:Ac).extract d.toNat (d+1).toNat++(⟨#[0]⟩:Ac)
def eA (n:Int):Ac:=if pk n 30<6 then⟨#[]⟩else vv (pk n 30 % 10)
section
variable {R:Al}
def rq (c n:Int)(w:Z)(h:-9223372036854775808<=c/\c<=9223372036854775807)(j:0<n/\n<=1000000)(g:R (.returned (Y (pk c n))) w) :
  Calls prog 13 #[Y c,Y n] w R:=by
 have f:=bR g;clear g
 by_cases a:c<0
 .have d0:decide (c<0)=true:=by simpa using a
  have e1:(-(c+1)).tmod n=pk c n:=by rw[pk,if_pos a,Int.tmod_eq_emod_of_nonneg (by omega)]
  go_enter func13,ntmps13
  go_wp2
  exact f.out
 .have d0:decide (c<0)=false:=by simpa using a
  have e1:c.tmod n=pk c n:=by rw[pk,if_neg a,Int.tmod_eq_emod_of_nonneg (by omega)]
  go_enter func13,ntmps13
  go_wp2
  exact f.out
def yZ (n:Int)(w:Z)(g:-9223372036854775808<=n/\n<=9223372036854775807)(f:∀w',An w w'->R (.returned (.string (dZ n))) w') :
  Calls prog 38 #[Y n] w R:=by
 have a:=bR f;have h:=bR g;clear f g;have b1:=tM n (n:=6) (by decide);have j:pk n 6=0\/pk n 6=1\/pk n 6=2\/pk n 6=3\/pk n 6=4\/pk n 6=5:=by omega
 clear b1;rcases j with e|e|e|e|e|e
 all_goals
  rw[show dZ n=k6 (pk n 6)from rfl,e]at a;have E:=bR e;clear e
  go_enter func38,ntmps38
  go_wp2_with (first
   |(go_at_call 13;refine rq _ _ _ h.out (by decide) ?_;rw[E.out])
   |go_in)
  exact a.out _ (Kp.al (λ_=>False) _ _)
def AS (n:Int)(w:Z)(l:-9223372036854775808<=n/\n<=9223372036854775807)(j:R (.returned (.string (eA n))) w) :
  Calls prog 39 #[Y n] w R:=by
 have f:=bR j;have h:=bR l;clear j l;have b1:=tM n (n:=30) (by decide)
 by_cases g:pk n 30<6
 .have a:eA n=⟨#[]⟩:=by simp[eA,g]
  rw[a]at f;have d6:decide (pk n 30<6)=true:=by simpa using g
  clear a
  go_enter func39,ntmps39
  go_wp2_with (first
   |(go_at_call 13;refine rq _ _ _ h.out (by decide) ?_)
   |go_in)
  exact f.out
 .have d6:decide (pk n 30<6)=false:=by simpa using g
  have o:(pk n 30).tmod 10=pk n 30 % 10:=Int.tmod_eq_emod_of_nonneg (by omega);have r:0<=pk n 30 % 10/\pk n 30 % 10<10:=by omega
  have a:eA n=vv (pk n 30 % 10):=by simp[eA,g]
  rw[a]at f;clear a
  go_enter func39,ntmps39
  go_wp2_with (first
   |(go_at_call 13;refine rq _ _ _ h.out (by decide) ?_)
   |go_in)
  exact f.out
def qc (n:Int):(eA n).size<=20:=by
 unfold eA;split
 .simp[ByteArray.size]
 .simp[vv,ByteArray.size_append,ByteArray.size_extract];simp[ByteArray.size];omega
def oA (n:Int):dy (dZ n)=true:=by
 have b1:=tM n (n:=6) (by decide);have a:pk n 6=0\/pk n 6=1\/pk n 6=2\/pk n 6=3\/pk n 6=4\/pk n 6=5:=by omega
 unfold dZ;rcases a with e|e|e|e|e|e<;>rw[e]<;>decide
end
end
section
open Go.RowKit Go.Maps
section
variable {N:Nat->Prop}{w:Z}{p:Nat}{s:XS}
variable {R:Al}
def vi (h:St N w p s)(a:R (.returned (Y s.now)) w):Calls prog 15 #[ab p] w R:=by obtain⟨own,⟨j,ph,l,g,pt,o,sl,h⟩,f⟩:=h;exact R6 h a
def yp (h:St N w p s)(ok:dj s)(hb:s.begun<1000000000)(M:s.dm<8)
  (j:∀w',St N w' p { s with begun:=s.begun+1,cx:=cN s.cx (s.begun+1) (some ⟨s.now,λ_=>none,0⟩),dm:=s.dm+1 }->Kp (λb=>¬N b) w w'->R (.returned (.tuple #[Y (s.begun+1),Y 0])) w') :
  Calls prog 34 #[ab p] w R:=by
 obtain⟨own,⟨y,ph,B,r,pt,C,sl,h⟩,g⟩:=h;refine RV h ok.begun (by omega) ok.zn (λD=>by omega) (λ_ w' f k l _ o=>?_);have a:=St.up ⟨y,ph,B,r,pt,C,sl,h⟩ g k l ⟨_,_,_,_,_,_,_,o⟩;exact j w' a.1 a.2
def ff (v:Ac):Ac × Bool:=if v.size=0 then(eb,true)else(v,false)
def B7(h:St N w p s)(ok:dj s)(f:(Lit.int .i64 tx).wf=true)(e:s.cx tx=some t)(key v:Ac)(j:dy key=true)(hv:v.size<=20)(l:gI t key (v,false)=some t')
  (r:∀w',St N w' p { s with cx:=cN s.cx tx (some t') }->Kp (λb=>¬N b) w w'->R (.returned (Y 0)) w') :
  Calls prog 35 #[ab p,Y tx,.string key,.string v] w R:=by
 obtain⟨own,⟨D,ph,M,C,pt,P,sl,h⟩,o⟩:=h;have y:=jB key j;have hb:(dy key && decide (v.size<=20))=true:=by simp[j,hv]
 refine R8 h tx f key v (by unfold maxLen;omega) (by unfold maxLen;omega) (λn t e=>(ok.tx n t e).nw) (λa=>by rw[e]at a;cases a) (λ_ _ a=>by rw[hb]at a;cases a) (λt1 e1 _ a=>?_) (λt1 Q e1 _ a w' k B=>?_)
 .rw[e]at e1;cases e1;rw[l]at a;cases a
 .rw[e]at e1;cases e1;rw[l]at a;cases a;have g:=St.up ⟨D,ph,M,C,pt,P,sl,h⟩ o k (λ_ _=>rfl) ⟨_,_,_,_,_,_,_,B⟩;exact r w' g.1 g.2
def JJ(h:St N w p s)(ok:dj s)(f:(Lit.int .i64 tx).wf=true)(e:s.cx tx=some t)(key:Ac)(j:dy key=true)(l:gI t key (eb,true)=some t')
  (r:∀w',St N w' p { s with cx:=cN s.cx tx (some t') }->Kp (λb=>¬N b) w w'->R (.returned (Y 0)) w') :
  Calls prog 73 #[ab p,Y tx,.string key] w R:=by
 obtain⟨own,⟨D,ph,M,C,pt,P,sl,h⟩,o⟩:=h;have y:=jB key j;refine RZ h tx f key (by unfold maxLen;omega) (λn t e=>(ok.tx n t e).nw) (λa=>by rw[e]at a;cases a) (λ_ _ a=>by rw[j]at a;cases a) (λt1 e1 _ a=>?_) (λt1 Q e1 _ a w' k B=>?_)
 .rw[e]at e1;cases e1;rw[l]at a;cases a
 .rw[e]at e1;cases e1;rw[l]at a;cases a;have g:=St.up ⟨D,ph,M,C,pt,P,sl,h⟩ o k (λ_ _=>rfl) ⟨_,_,_,_,_,_,_,B⟩;exact r w' g.1 g.2
def yr(h:St N w p s)(ok:dj s)(a:(Lit.int .i64 tx).wf=true)(e:s.cx tx=some t)(key v:Ac)(y:dy key=true)(hv:v.size<=20)(f:gI t key (ff v)=some t')
  (r:∀w',St N w' p { s with cx:=cN s.cx tx (some t') }->Kp (λb=>¬N b) w w'->R (.returned (Y 0)) w') :
  Calls prog 37 #[ab p,Y tx,.string key,.string v] w R:=by
 by_cases j:v.size=0
 .have g:v.data.toList=[]:=aA (by simpa using j);have Q:v=⟨#[]⟩:=WideShapes.bytes_inj (by simpa using g);clear g;rw[ff,if_pos j]at f;have M:=bR (λ(R:Al)=>JJ (R:=R) h ok a e key y f);have C:=bR r;clear r h ok f hv j a e y;subst Q
  go_enter func37,ntmps37
  go_wp2_with (first
   |(go_at_call 73;refine M.out _ (λP l o=>?_);have B:=bR l;have D:=bR o;clear l o)
   |go_in)
  exact C.out P B.out D.out
 .rw[ff,if_neg j]at f;have M:=bR (λ(R:Al)=>B7 (R:=R) h ok a e key v y hv f);have C:=bR r;have d0:v.toList.isEmpty=false:=by
   rw[Lib.toList_data];cases S:v.data.toList with
   |nil=>exact bx (by have:=congrArg List.length S;simpa using this) j
   |cons _ _=>rfl
  clear r h ok f hv a e y
  go_enter func37,ntmps37
  go_wp2_with (first
   |(go_at_call 35;refine M.out _ (λP l o=>?_);have B:=bR l;have D:=bR o;clear l o)
   |go_in)
  exact C.out P B.out D.out
def yq(h:St N w p s)(ok:dj s)(C:(Lit.int .i64 tx).wf=true)(e:s.cx tx=some t)(o:0<t.nw)(r:¬wu s t)(S:s.now<2000)
  (hR:∀w' nv nm l,mI s t.wr l->St N w' p (fH { s with log:=l } t.wr (cN s.cx tx none) (s.dm-1) nv nm)->dj (fH { s with log:=l } t.wr (cN s.cx tx none) (s.dm-1) nv nm)->Kp (λb=>¬N b) w w'->R (.returned (.tuple #[Y (s.now+1),Y 0])) w') :
  Calls prog 36 #[ab p,Y tx] w R:=by
 obtain⟨own,⟨W,ph,Z,U,pt,mw,sl,h⟩,g⟩:=h;have f:=(ok.tx tx t e).nw;have b1:=ok.nv;have b2:=ok.nm;have b3:=ok.now;have b4:=ok.mW;have b5:=ok.cJ;refine RY h g.li g.nC tx C t e o f (ok.keysW e) (ok.tx tx t e).oT (λk=>by have:=ok.len k;omega) r ⟨b3.1,S⟩ (by omega) (by omega) (by omega) ok.jQ (λw' a M nv nm l ws k ho hv hm B ad j y D=>?_);have Q:mI s t.wr l:=⟨ws,B,by omega,j,y⟩;have D:XR a 2 w' p (fH { s with log:=l } t.wr (cN s.cx tx none) (s.dm-1) nv nm) W ph Z U pt mw M:=by rw[<- IN];exact D
 have P:=St.up ⟨W,ph,Z,U,pt,mw,sl,h⟩ g k ho ⟨_,_,_,_,_,_,_,D⟩;exact hR w' nv nm l Q P.1 (ok.IS e S hv hm _ Q) P.2
def JI (h:St N w p s)(ok:dj s)(t:Int)(key:Ac)(f:dy key=true)(h1:s.cJ<=t)(o:t<=s.now)
  (g:(ij s key t).2=false->∀w',An w w'->R (.returned (.tuple #[.string eb,Y 5])) w')
  (j:(ij s key t).2=true->∀w',An w w'->R (.returned (.tuple #[.string (ij s key t).1,Y 0])) w') :
  Calls prog 29 #[ab p,Y t,.string key] w R:=by
 obtain⟨own,⟨B,ph,C,y,pt,D,sl,h⟩,r⟩:=h;have l:=jB key f;refine RQ t key (RR h t key (by unfold maxLen;omega) ok.MC (λa=>by rw[f]at a;cases a) (λ_ a=>by omega) (λ_ _ a=>by omega) (λ_ _ _ hv w' k=>⟨_,_,rfl,g hv w' k⟩) (λ_ _ _ hv w' k=>⟨_,_,rfl,j hv w' k⟩))
end
end
section
open Go.RowKit
def nV (a1 a2 a3:Int):D:=.agg #[Y a1,Y a2,Y a3]
def dY (a:Int):Prop:=-9223372036854775808<=a/\a<=9223372036854775807
def jw (w:Z)(A:Nat)(a1 a2 a3:Int):Prop:=w.heap[A]?=some (.cells #[Y a1,Y a2,Y a3] 31 (0,0))
def jw.cell{w:Z}(h:jw w A a1 a2 a3):w.cell? ⟨A,0,none⟩=some (Y a1)/\w.cell? ⟨A,1,none⟩=some (Y a2)/\w.cell? ⟨A,2,none⟩=some (Y a3):=by unfold jw at h;simp[World.cell?,h]
def jw.kp{w w':Z}(h:jw w A a1 a2 a3)(k:An w w'):jw w' A a1 a2 a3:=(k.block A (aO.1 h).1 (λe=>e)).trans h
def qS{w w':Z}(h:w'=w\/w'=w.drew\/∃q,w'=w.drewN q):An w w':=by
 rcases h with rfl|rfl|⟨q,rfl⟩
 .exact Kp.refl _ _
 .exact Kp.dr _ _
 .exact Kp.drewN _ _ _
def FN{a n:Int}(h:dY a)(g:0<n):dY (a.tdiv n):=by
 unfold dY at h ⊢;rcases Int.le_total 0 a with f|f
 .rw[Int.tdiv_eq_ediv_of_nonneg f];have j:=Int.ediv_nonneg f (Int.le_of_lt g);have l:=Int.ediv_le_self n f;omega
 .have e:a.tdiv n = -((-a) / n):=by rw[<- Int.tdiv_eq_ediv_of_nonneg (by omega:(0:Int)<=-a),Int.neg_tdiv];omega
  have j:=Int.ediv_nonneg (by omega:(0:Int)<=-a) (Int.le_of_lt g);have l:=Int.ediv_le_self n (by omega:(0:Int)<=-a);rw[e];omega
section
variable {R:Al}
def IV (w:Z)(p:Nat)(a1 a2 a3:Int)(h1:dY a1)(y:dY a2)(B:dY a3)(C:pk a3 3≠0)
  (H:∀w0,An w w0->jw w0 w.heap.size a1 a2 a3->Calls prog 15 #[ab p] w0 λr w1=>∃now:Int,r = .returned (Y now)/\0<=now/\now<1000000/\
   Calls prog 34 #[ab p] w1 λr j=>∃tx:Int,r = .returned (.tuple #[Y tx,Y 0])/\jw j w.heap.size a1 a2 a3/\
   ∀l,An j l->Calls prog 37 #[ab p,Y tx,.string (dZ a1),.string (eA a2)] l λr o=>r = .returned (Y 0)/\jw o w.heap.size a1 a2 a3/\
   Calls prog 36 #[ab p,Y tx] o λr N=>r = .returned (.tuple #[Y (now+1),Y 0])/\
   Calls prog 15 #[ab p] N λr w6=>r = .returned (Y (now+1))/\R (.returned (.bool true)) w6) :
  Calls prog 12 #[ab p,nV a1 a2 a3] w R:=by
 have HH:=bR H;have P:=bR h1;have Q:=bR y;have S:=bR B;have d3:(pk a3 3 == 0)=false:=by simpa using C
 clear H h1 y B C;unfold nV
 go_enter func12,ntmps12
 go_wp2_with (first
  |(go_at_call 15;refine Calls.mono (HH.out _ (Kp.al _ _ _) (heap_alloc_new _ _)) ?_;rintro r w1 ⟨now,rfl,n0,n1,a⟩;have HN:=bR a;clear a)
  |(go_at_call 34;refine Calls.mono HN.out ?_;rintro r j ⟨tx,rfl,g,a⟩;have W:=bR a;have U:=bR g;obtain⟨q0,q1,q2⟩:=g.cell;clear a g)
  |go_in)
 go_region_held3 (λM=>M.cell? ⟨w.heap.size,0,none⟩=some (Y a1)/\M.cell? ⟨w.heap.size,1,none⟩=some (Y a2)) (go_keep) (first
  |(go_at_call 38;refine yZ _ _ P.out (λl D=>?_);have f:=Kp.trans (qS (w:=j) (by simp)) D (λ_ _ h=>h);obtain⟨z0,z1,_⟩:=(U.out.kp f).cell;have HK:=bR f;clear D f)
  |(go_at_call 39;refine AS _ _ Q.out ?_)
  |(go_at_call 37;refine Calls.mono (W.out _ (Kp.trans HK.out (qS (by simp)) (λ_ _ h=>h))) ?_;rintro r o ⟨rfl,g,a⟩;have HW:=bR a;obtain⟨z0,z1,z2⟩:=g.cell;clear a g))
 all_goals
  go_wp2_with (first
   |(go_at_call 13;refine rq _ _ _ S.out (by decide) ?_)
   |(go_at_call 36;refine Calls.mono HW.out ?_;rintro r N ⟨rfl,a⟩;have HC:=bR a;clear a)
   |(go_at_call 15;refine Calls.mono HC.out ?_;rintro r w6 ⟨rfl,a⟩;have HL:=bR a;clear a)
   |go_in)
  exact HL.out
def IW (w:Z)(p:Nat)(a1 a2 a3:Int)(h1:dY a1)(S:dY a2)(U:dY a3)(W:pk a3 3=0)
  (H:∀w0,An w w0->jw w0 w.heap.size a1 a2 a3->Calls prog 15 #[ab p] w0 λr w1=>∃now:Int,r = .returned (Y now)/\0<=now/\now<1000000/\
   Calls prog 34 #[ab p] w1 λr B=>∃tx:Int,r = .returned (.tuple #[Y tx,Y 0])/\jw B w.heap.size a1 a2 a3/\
   ∀o,An B o->Calls prog 37 #[ab p,Y tx,.string (dZ a1),.string (eA a2)] o λr l=>r = .returned (Y 0)/\jw l w.heap.size a1 a2 a3/\
   ∀o,An l o->Calls prog 37 #[ab p,Y tx,.string (dZ (a3.tdiv 3)),.string (eA (a3.tdiv 18))] o λr l=>r = .returned (Y 0)/\jw l w.heap.size a1 a2 a3/\
   Calls prog 36 #[ab p,Y tx] l λr w5=>r = .returned (.tuple #[Y (now+1),Y 0])/\
   Calls prog 15 #[ab p] w5 λr w6=>r = .returned (Y (now+1))/\R (.returned (.bool true)) w6) :
  Calls prog 12 #[ab p,nV a1 a2 a3] w R:=by
 have HH:=bR H;have B1:=bR h1;have B2:=bR S;have C:=bR U;have HO:=bR W;clear H h1 S U W;unfold nV
 go_enter func12,ntmps12
 go_wp2_with (first
  |(go_at_call 15;refine Calls.mono (HH.out _ (Kp.al _ _ _) (heap_alloc_new _ _)) ?_;rintro r w1 ⟨now,rfl,n0,n1,a⟩;have HN:=bR a;clear a)
  |(go_at_call 34;refine Calls.mono HN.out ?_;rintro r B ⟨tx,rfl,f,a⟩;have HB:=bR a;have HA:=bR f;obtain⟨q0,q1,q2⟩:=f.cell;clear a f)
  |go_in)
 go_region_held3 (λy=>y.cell? ⟨w.heap.size,0,none⟩=some (Y a1)/\y.cell? ⟨w.heap.size,1,none⟩=some (Y a2)) (go_keep) (first
  |(go_at_call 38;refine yZ _ _ B1.out (λo k3=>?_);have g:=Kp.trans (qS (w:=B) (by simp)) k3 (λ_ _ h=>h);obtain⟨z0,z1,_⟩:=(HA.out.kp g).cell;have HK:=bR g;clear k3 g)
  |(go_at_call 39;refine AS _ _ B2.out ?_)
  |(go_at_call 37;refine Calls.mono (HB.out _ (Kp.trans HK.out (qS (by simp)) (λ_ _ h=>h))) ?_;rintro r l ⟨rfl,f,a⟩;have HW:=bR a;have D:=bR f;obtain⟨z0,z1,z2⟩:=f.cell;clear a f))
 all_goals
  have P:=bR (FN C.out (n:=3) (by decide));have Q:=bR (FN C.out (n:=18) (by decide));have e3:IntKind.i64.wrap (a3.tdiv 3)=a3.tdiv 3:=IntWalk.i64_in _ P.out;have ad:IntKind.i64.wrap (a3.tdiv 18)=a3.tdiv 18:=IntWalk.i64_in _ Q.out
  go_wp2_with (first
   |(go_at_call 13;refine rq _ _ _ C.out (by decide) ?_;rw[HO.out])
   |go_in)
  go_region_held3 (λy=>y.cell? ⟨w.heap.size,2,none⟩=some (Y a3)) (go_keep) (first
   |(go_at_call 38;refine yZ _ _ P.out (λw5 k5=>?_);have j:=Kp.trans (qS (w:=l) (by simp)) k5 (λ_ _ h=>h);obtain⟨_,_,z5⟩:=(D.out.kp j).cell;have M:=bR j;clear k5 j)
   |(go_at_call 39;refine AS _ _ Q.out ?_)
   |(go_at_call 37;refine Calls.mono (HW.out _ (Kp.trans M.out (qS (by simp)) (λ_ _ h=>h))) ?_;rintro r w6 ⟨rfl,f,a⟩;have N:=bR a;obtain⟨_,_,z6⟩:=f.cell;clear a f))
  all_goals
   go_wp2_with (first
    |(go_at_call 36;refine Calls.mono N.out ?_;rintro r w7 ⟨rfl,a⟩;have HC:=bR a;clear a)
    |(go_at_call 15;refine Calls.mono HC.out ?_;rintro r w8 ⟨rfl,a⟩;have HL:=bR a;clear a)
    |go_in)
   exact HL.out
end
end
section
open Go.RowKit
def St.mono {N M:Nat->Prop}{w:Z}{p:Nat}{s:XS}(h:St M w p s)(f:∀b,N b->M b):St N w p s:=by obtain⟨own,g,a⟩:=h;exact⟨own,g,λb hb=>a.out b (f b hb),a.li,a.nC⟩
def dj.fresh {s:XS}(ok:dj s)(k:Ac):ly (s.bU k) s.now=false:=by
 unfold ly;cases e:(s.bU k).getLast? with
 |none=>rfl
 |some m=>have hm:=ok.bU k m (List.mem_of_getLast? e);simp;omega
def rO (ft:Int)(k:Ac)(v:Ac × Bool):gI ⟨ft,λ_=>none,0⟩ k v=some ⟨ft,cV (λ_=>none) k (some v),1⟩:=by simp[gI]
def RO (t:XT)(k:Ac)(v:Ac × Bool)(h:t.nw<10):∃n,gI t k v=some ⟨t.ft,cV t.wr k (some v),n⟩:=by
 unfold gI;split
 .exact⟨t.nw,rfl⟩
 .exact⟨t.nw+1,rfl⟩
def fZ (a1 a2 a3:Int):Ac->Option (Ac × Bool):=
 if pk a3 3=0 then cV (cV (λ_=>none) (dZ a1) (some (ff (eA a2)))) (dZ (a3.tdiv 3)) (some (ff (eA (a3.tdiv 18))))
 else cV (λ_=>none) (dZ a1) (some (ff (eA a2)))
def iM (s:XS)(wr:Ac->Option (Ac × Bool))(nv nm:Nat):XS:={ fH s wr s.cx s.dm nv nm with begun:=s.begun+1 }
def GP {s:XS}(h:s.cx (s.begun+1)=none)(t0 t1:XT)(wr:Ac->Option (Ac × Bool))(nv nm:Nat) :
  fH { s with begun:=s.begun+1,cx:=cN (cN s.cx (s.begun+1) (some t0)) (s.begun+1) (some t1),dm:=s.dm+1 } wr (cN (cN (cN s.cx (s.begun+1) (some t0)) (s.begun+1) (some t1)) (s.begun+1) none) (s.dm+1-1) nv nm=iM s wr nv nm:=by
 have e:cN (cN (cN s.cx (s.begun+1) (some t0)) (s.begun+1) (some t1)) (s.begun+1) none=s.cx:=by
  funext n
  by_cases en:n=s.begun+1
  .subst en;rw[gH,h]
  .simp[cN,en]
 rw[e];simp[iM,fH]
def GQ {s:XS}(h:s.cx (s.begun+1)=none)(t0 t1 t2:XT)(wr:Ac->Option (Ac × Bool))(nv nm:Nat) :
  fH { s with begun:=s.begun+1,cx:=cN (cN (cN s.cx (s.begun+1) (some t0)) (s.begun+1) (some t1)) (s.begun+1) (some t2),dm:=s.dm+1 } wr (cN (cN (cN (cN s.cx (s.begun+1) (some t0)) (s.begun+1) (some t1)) (s.begun+1) (some t2)) (s.begun+1) none) (s.dm+1-1) nv nm=iM s wr nv nm:=by
 have e:cN (cN (cN (cN s.cx (s.begun+1) (some t0)) (s.begun+1) (some t1)) (s.begun+1) (some t2)) (s.begun+1) none=s.cx:=by
  funext n
  by_cases en:n=s.begun+1
  .subst en;rw[gH,h]
  .simp[cN,en]
 rw[e];simp[iM,fH]
def AR {v:Ac}(h:v.size<=20):(ff v).1.size<=20:=by
 unfold ff;split
 .decide
 .exact h
section
variable {N:Nat->Prop}{w:Z}{p:Nat}{s:XS}
variable {R:Al}
def B6 (h:St N w p s)(ok:dj s)(hb:s.begun<1000000)(h8:s.dm<8)(hn:s.now<2000)(a1 a2 a3:Int)(h1:dY a1)(h2:dY a2)(h3:dY a3)
  (hR:∀w' nv nm l,mI s (fZ a1 a2 a3) l->St N w' p (iM { s with log:=l } (fZ a1 a2 a3) nv nm)->dj (iM { s with log:=l } (fZ a1 a2 a3) nv nm)->Kp (λb=>¬N b) w w'->R (.returned (.bool true)) w') :
  Calls prog 12 #[ab p,nV a1 a2 a3] w R:=by
 have am:=ok.begun;have Q:=ok.now;have g:(Lit.int .i64 (s.begun+1)).wf=true:=rL (by omega);have a:∀{M w2:Z},jw M w.heap.size a1 a2 a3->Kp (λb=>¬(N b\/b=w.heap.size)) M w2->jw w2 w.heap.size a1 a2 a3:=λha k=>(k.block _ (bX ha) (λe=>e (Or.inr rfl))).trans ha
 have o:=ok.begin (s.dm+1);have fin:∀{M:Z} {nv nm:Nat} {l:XL},mI s (fZ a1 a2 a3) l->St (λb=>N b\/b=w.heap.size) M p (iM { s with log:=l } (fZ a1 a2 a3) nv nm)->dj (iM { s with log:=l } (fZ a1 a2 a3) nv nm)->Kp (λb=>¬(N b\/b=w.heap.size)) w M->Calls prog 15 #[ab p] M λr w6=>r = .returned (Y (s.now+1))/\R (.returned (.bool true)) w6:=λhL hS hO hK=>vi hS ⟨rfl,hR _ _ _ _ hL (hS.mono (λ_ h=>Or.inl h)) hO (hK.mono (λ_ _ h hn=>h (Or.inl hn)))⟩
 by_cases ho:pk a3 3=0
 .refine IW w p a1 a2 a3 h1 h2 h3 ho (λw0 U f=>?_);have S0:St (λb=>N b\/b=w.heap.size) w0 p s:=h.read U (λb hb=>hb.imp id (λe=>⟨by omega,by rw[e];exact bX f⟩));have K0:Kp (λb=>¬(N b\/b=w.heap.size)) w w0:=U.mono (λ_ _ h=>h.elim);refine vi S0 ⟨s.now,rfl,Q.1,by omega,yp S0 ok (by omega) h8 (λw2 S2 C=>⟨s.begun+1,rfl,a f C,λw3 D=>?_⟩)⟩;have B:=a f C;have S3:=S2.kept D;have K3:=(K0.trans C (λ_ _ h=>h)).trans D (λ_ _ h=>h.elim);refine yr S3 o g (gH _ _ _) (dZ a1) (eA a2) (oA _) (qc _) (rO _ _ _) (λw4 S4 W=>?_);have y:=o.write (gH _ _ _) (oA a1) (AR (qc a2)) (rO _ _ (ff (eA a2)));have P:=a (B.kp D) W;refine⟨rfl,P,λw5 k5=>?_⟩;obtain⟨n2,S⟩:=RO ⟨s.now,cV (λ_=>none) (dZ a1) (some (ff (eA a2))),1⟩ (dZ (a3.tdiv 3)) (ff (eA (a3.tdiv 18))) (by simp);refine yr (S4.kept k5) y g (gH _ _ _) (dZ (a3.tdiv 3)) (eA (a3.tdiv 18)) (oA _) (qc _) S (λw6 S6 k6=>?_);have ad:=y.write (gH _ _ _) (oA (a3.tdiv 3)) (AR (qc _)) S;refine⟨rfl,a (P.kp k5) k6,?_⟩;refine yq S6 ad g (gH _ _ _) ((ad.tx _ _ (gH _ _ _)).pos (dZ (a3.tdiv 3)) (by simp[cV])) (λ⟨k,_,hk⟩=>?_) hn (λw7 nv nm l L7 S7 O7 k7=>?_)
  .have:=ok.fresh k;rw[show ly (s.bU k) s.now=true from hk]at this;cases this
  .have j:fZ a1 a2 a3=cV (cV (λ_=>none) (dZ a1) (some (ff (eA a2)))) (dZ (a3.tdiv 3)) (some (ff (eA (a3.tdiv 18)))):=by rw[fZ,if_pos ho]
   have e:=GQ (s:={ s with log:=l }) ok.zn ⟨s.now,λ_=>none,0⟩ ⟨s.now,cV (λ_=>none) (dZ a1) (some (ff (eA a2))),1⟩ ⟨s.now,cV (cV (λ_=>none) (dZ a1) (some (ff (eA a2)))) (dZ (a3.tdiv 3)) (some (ff (eA (a3.tdiv 18)))),n2⟩ (cV (cV (λ_=>none) (dZ a1) (some (ff (eA a2)))) (dZ (a3.tdiv 3)) (some (ff (eA (a3.tdiv 18))))) nv nm;rw[<- j]at e;refine⟨rfl,fin (nv:=nv) (nm:=nm) (l:=l) (by rw[j];exact L7) ?_ ?_ ?_⟩
   .rw[<- e,j];exact S7
   .rw[<- e,j];exact O7
   .exact(((K3.trans W (λ_ _ h=>h)).trans k5 (λ_ _ h=>h.elim)).trans k6 (λ_ _ h=>h)).trans k7 (λ_ _ h=>h)
 .refine IV w p a1 a2 a3 h1 h2 h3 ho (λw0 U f=>?_);have S0:St (λb=>N b\/b=w.heap.size) w0 p s:=h.read U (λb hb=>hb.imp id (λe=>⟨by omega,by rw[e];exact bX f⟩));have K0:Kp (λb=>¬(N b\/b=w.heap.size)) w w0:=U.mono (λ_ _ h=>h.elim);refine vi S0 ⟨s.now,rfl,Q.1,by omega,yp S0 ok (by omega) h8 (λw2 S2 C=>⟨s.begun+1,rfl,a f C,λw3 D=>?_⟩)⟩;have B:=a f C;have S3:=S2.kept D;have K3:=(K0.trans C (λ_ _ h=>h)).trans D (λ_ _ h=>h.elim);refine yr S3 o g (gH _ _ _) (dZ a1) (eA a2) (oA _) (qc _) (rO _ _ _) (λw4 S4 W=>?_);have y:=o.write (gH _ _ _) (oA a1) (AR (qc a2)) (rO _ _ (ff (eA a2)));refine⟨rfl,a (B.kp D) W,?_⟩;refine yq S4 y g (gH _ _ _) (by simp) (λ⟨k,_,hk⟩=>?_) hn (λw7 nv nm l L7 S7 O7 k7=>?_)
  .have:=ok.fresh k;rw[show ly (s.bU k) s.now=true from hk]at this;cases this
  .have j:fZ a1 a2 a3=cV (λ_=>none) (dZ a1) (some (ff (eA a2))):=by rw[fZ,if_neg ho]
   have e:=GP (s:={ s with log:=l }) ok.zn ⟨s.now,λ_=>none,0⟩ ⟨s.now,cV (λ_=>none) (dZ a1) (some (ff (eA a2))),1⟩ (cV (λ_=>none) (dZ a1) (some (ff (eA a2)))) nv nm;rw[<- j]at e;refine⟨rfl,fin (nv:=nv) (nm:=nm) (l:=l) (by rw[j];exact L7) ?_ ?_ ?_⟩
   .rw[<- e,j];exact S7
   .rw[<- e,j];exact O7
   .exact(K3.trans W (λ_ _ h=>h)).trans k7 (λ_ _ h=>h)
end
end
section
open Go.RowKit
abbrev A3:=Int × Int × Int
structure rQ (w:Z)(g off n:Nat)(f:Nat->A3):Prop where
 c0:∀i,i<n->w.cell? ⟨g,off+i*3,none⟩=some (Y (f i).1)
 c1:∀i,i<n->w.cell? ⟨g,off+i*3+1,none⟩=some (Y (f i).2.1)
 c2:∀i,i<n->w.cell? ⟨g,off+i*3+2,none⟩=some (Y (f i).2.2)
 lt:g<w.heap.size
 ok:∀i,i<n->dY (f i).1/\dY (f i).2.1/\dY (f i).2.2
def mE (w:Z)(v:D)(n:Nat)(f:Nat->A3):Prop:=∃a cap,v = .slice a n cap/\n<=maxLen/\(0<n->∃g h,a=some ⟨g,h,none⟩/\rQ w g h n f)
def rQ.kept{w w':Z}{off n:Nat}{f:Nat->A3}(h:rQ w g off n f)(k:An w w'):rQ w' g off n f:=
 ⟨λi j=>(k.cell (a:=⟨g,off+i*3,none⟩) h.lt (λe=>e)).trans (h.c0 i j),λi j=>(k.cell (a:=⟨g,off+i*3+1,none⟩) h.lt (λe=>e)).trans (h.c1 i j),λi j=>(k.cell (a:=⟨g,off+i*3+2,none⟩) h.lt (λe=>e)).trans (h.c2 i j),aR h.lt k.size,h.ok⟩
def ka:Ac:=⟨#[97]⟩
def va:Ac:=⟨#[118]⟩
structure uB (s:XS):Prop where
 now:s.now=1
 cJ:s.cJ=0
 begun:s.begun=1
 cx:∀n,s.cx n=none
 dm:s.dm=0
 qV:∀n,s.bk.un n=none
 Dm:∃ws,kJ (cV (λ_=>none) ka (some (va,false))) ws/\ws.length<=10/\s.log.lg=[dg 1 ws]/\s.log.sy=0
 bU:∀k,s.bU k=if k=ka then [1]else []
 cE:∀k m,s.cE k m=if m=1/\k=ka then some (va,false)else none
def xN:List A3->XS->Prop
 |[],s=>uB s
 |a::r,s=>∃f nv nm l,xN r f/\mI f (fZ a.1 a.2.1 a.2.2) l/\s=iM { f with log:=l } (fZ a.1 a.2.1 a.2.2) nv nm
def fY (l:List A3)(s:XS):Prop:=xN l.reverse s
def fY.nil{s:XS}(h:uB s):fY [] s:=h
def fY.snoc{l:List A3}{s:XS}(h:fY l s)(a:A3)(nv nm:Nat){g:XL}(f:mI s (fZ a.1 a.2.1 a.2.2) g):fY (l++[a]) (iM { s with log:=g } (fZ a.1 a.2.1 a.2.2) nv nm):=by unfold fY;rw[List.reverse_append];exact⟨s,nv,nm,g,h,f,rfl⟩
def fY.ind {P:List A3->XS->Prop}(h0:∀s,uB s->P [] s)(h1:∀l s a nv nm g,fY l s->mI s (fZ a.1 a.2.1 a.2.2) g->P l s->P (l++[a]) (iM { s with log:=g } (fZ a.1 a.2.1 a.2.2) nv nm)):∀{l:List A3} {s:XS},fY l s->P l s:=by
 have key:∀(r:List A3) (s:XS),xN r s->P r.reverse s:=by
  intro r
  induction r with
  |nil=>exactλs h=>h0 s h
  |cons a r j=>rintro s ⟨o,nv,nm,g,h,f,rfl⟩;rw[List.reverse_cons];exact h1 _ _ _ _ _ _ (by unfold fY;rw[List.reverse_reverse];exact h) f (j o h)
 intro l s h;have:=key l.reverse s h;rw[List.reverse_reverse]at this;exact this
def fY.facts{l:List A3}{s:XS}(h:fY l s):s.now=1+l.length/\s.begun=1+l.length/\(∀n,s.cx n=none)/\s.dm=0/\s.cJ=0:=by
 refine fY.ind (P:=λl s=>s.now=1+l.length/\s.begun=1+l.length/\(∀n,s.cx n=none)/\s.dm=0/\s.cJ=0) (λs h=>?_) (λl s a nv nm g _ _ B=>?_) h
 .exact⟨by rw[h.now];simp,by rw[h.begun];simp,h.cx,h.dm,h.cJ⟩
 .obtain⟨f,j,o,r,y⟩:=B;refine⟨?_,?_,o,r,y⟩
  .show _+1=_;rw[f];simp;omega
  .show _+1=_;rw[j];simp;omega
def fY.qV{l:List A3}{s:XS}(h:fY l s):∀n,s.bk.un n=none:=
 fY.ind (P:=λ_ s=>∀n,s.bk.un n=none) (λ_ h=>h.qV) (λ_ _ _ _ _ _ _ _ a=>a) h
def R9 (mu:Nat):dj (dn mu):=by refine⟨by simp[dn],by simp[dn],by simp[dn],λk=>by simp[dn],λk m h=>by simp[dn]at h,λk m=>by simp[dn],λk h=>by simp[dn]at h,λn t e=>by simp[dn]at e,by simp[dn],by simp[dn],by simp[dn],by simp[dn],by simp[dn]⟩
section
variable {R:Al}
def Kv (w:Z)(a:Option Addr)(n cap:Nat)(f:Nat->A3)(h:n<=maxLen)(hv:0<n->∃g off,a=some ⟨g,off,none⟩/\rQ w g off n f)
  (I:Nat->Nat->Z->Prop) (y:∀i p w',I i p w'->An w w')
  (H:Calls prog 33 #[] w λr w1=>∃p,r = .returned (ab p)/\
   Calls prog 34 #[ab p] w1 λr W=>∃tx:Int,r = .returned (.tuple #[Y tx,Y 0])/\
   Calls prog 35 #[ab p,Y tx,.string ⟨#[97]⟩,.string ⟨#[118]⟩] W λr w3=>r = .returned (Y 0)/\
   Calls prog 36 #[ab p,Y tx] w3 λr w4=>r = .returned (.tuple #[Y 1,Y 0])/\
   Calls prog 29 #[ab p,Y 1,.string ⟨#[97]⟩] w4 λr w5=>r = .returned (.tuple #[.string ⟨#[118]⟩,Y 0])/\I 0 p w5)
  (hS:∀i p w',I i p w'->i<n->i<200->Calls prog 12 #[ab p,nV (f i).1 (f i).2.1 (f i).2.2] w' λr N=>r = .returned (.bool true)/\I (i+1) p N)
  (U:∀p w',I (min n 200) p w'->R (.returned (ab p)) w') :
  Calls prog 11 #[.slice a n cap] w R:=by
 have HH:=bR H;have HK:=bR y;have HS:=bR hS;have P:=bR U;have HV:=bR hv;have HN:=bR h;clear H y hS U hv h
 go_enter func11,ntmps11
 go_wp2_with (first
  |(go_at_call 33;refine Calls.mono HH.out ?_;rintro r w1 ⟨p,rfl,h⟩;have HA:=bR h;clear h)
  |(go_at_call 34;refine Calls.mono HA.out ?_;rintro r W ⟨tx,rfl,h⟩;have HB:=bR h;clear h)
  |(go_at_call 35;refine Calls.mono HB.out ?_;rintro r w3 ⟨rfl,h⟩;have HC:=bR h;clear h)
  |(go_at_call 36;refine Calls.mono HC.out ?_;rintro r w4 ⟨rfl,h⟩;have HD:=bR h;clear h)
  |(go_at_call 29;refine Calls.mono HD.out ?_;rintro r w5 ⟨rfl,h⟩;have HE:=bR h;clear h)
  |go_in)
 have M:Hid (n<=maxLen):=HN.out
 go_loopw [11] (λl wr=>∃i:Nat,i<=n/\i<=200/\l = Y i/\I i p wr) (λl _=>200-(intOf l).toNat)
 case atStart=>exact⟨0,aZ _,aZ _,rfl,HE.out⟩
 case round=>
  obtain⟨i,am,ad,rfl,S⟩:=hrel;have HI:=bR S;clear S
  by_cases B:i<n
  .have d1:(i:Int)<n:=by omega
   by_cases h2:i<200
   .have d2:(i:Int)<200:=by omega
    obtain⟨g,off,rfl,Q⟩:=HV.out (by omega);have j:=Q.kept (HK.out i p wr HI.out);have q0:=j.c0 i B;have q1:=j.c1 i B;have q2:=j.c2 i B;have o:=bR (HS.out i p wr HI.out B h2);have an:(n:Int)<=9223372036854775807:=by have:=M.out;unfold maxLen at this;omega
    unfold nV at o;clear Q j
    go_wp2_with (first
     |(go_at_call 12;refine Calls.mono o.out ?_;rintro r w6 ⟨rfl,h⟩;have D:=bR h;clear h)
     |go_in)
    go_roundw
    case rel=>exact⟨i+1,by omega,by omega,by go_num,D.out⟩
    case measure=>simp[intOf];omega
   .have d2:¬(i:Int)<200:=by omega
    have e3:i=200:=by omega
    have hF:=P.out p wr (by have:=HI.out;rw[Nat.min_eq_right (by omega),<- e3];exact this);have C:=bR hF;clear hF
    go_wp2
    exact C.out
  .have d1:¬(i:Int)<n:=by omega
   have hF:=P.out p wr (by have:=HI.out;rw[show min n 200=i by omega];exact this);have C:=bR hF;clear hF
   go_wp2
   exact C.out
def Ky{s0:XS}{mu:Nat}(h0:s0=dn mu){nv nm:Nat}{g:XL}(r:mI s0 (cV (λ_=>none) ka (some (va,false))) g):uB (fH { s0 with log:=g,begun:=s0.begun+1,cx:=cN (cN s0.cx (s0.begun+1) (some ⟨s0.now,λ_=>none,0⟩)) (s0.begun+1) (some ⟨s0.now,cV (λ_=>none) ka (some (va,false)),1⟩),dm:=s0.dm+1 } (cV (λ_=>none) ka (some (va,false)))
  (cN (cN (cN s0.cx (s0.begun+1) (some ⟨s0.now,λ_=>none,0⟩)) (s0.begun+1) (some ⟨s0.now,cV (λ_=>none) ka (some (va,false)),1⟩)) (s0.begun+1) none) (s0.dm+1-1) nv nm):=by
 subst h0;refine⟨rfl,rfl,rfl,λn=>?_,rfl,λ_=>rfl,?_,λk=>?_,λk m=>?_⟩
 .simp only[fH]
  by_cases en:n=(dn mu).begun+1
  .subst en;rw[gH]
  .have f:¬n=1:=by simpa [dn]using en
   simp[cN,f,dn]
 .obtain⟨ws,h,j,l,o⟩:=r;exact⟨ws,h,j,l,o⟩
 .simp only[fH]
  by_cases a:k=ka
  .subst a;simp[cV,dn]
  .simp[cV,a,dn]
 .simp only[fH]
  by_cases a:k=ka
  .subst a
   by_cases em:m=1
   .subst em;simp[cV,dn]
   .have:¬m=(dn mu).now+1:=by simpa [dn]using em
    simp[cV,em,dn]
  .simp[cV,a,dn]
def vM:dy ka=true:=by decide
def JK (w:Z)(hT:db w)(v:D)(n:Nat)(f:Nat->A3)(hv:mE w v n f)
  (hR:∀w' p s,fY ((List.range (min n 200)).map f) s->dj s->St (λb=>b<w.heap.size) w' p s->An w w'->R (.returned (ab p)) w') :
  Calls prog 11 #[v] w R:=by
 obtain⟨a,cap,rfl,hm,hv⟩:=hv;have low:∀{w1 w2:Z},An w w1->Kp (λb=>¬b<w.heap.size) w1 w2->An w w2:=λC k2=>C.trans k2 (λb hb h=>bx hb h)
 refine Kv w a n cap f hm hv (λi p w'=>∃s,fY ((List.range i).map f) s/\dj s/\St (λb=>b<w.heap.size) w' p s/\An w w') (λi p w' h=>by obtain⟨s,_,_,_,h⟩:=h;exact h) ?_ ?_ ?_
 .refine JL w hT (λw1 p mu N C=>⟨p,rfl,?_⟩);obtain⟨j,l⟩:∃s,s=dn mu:=⟨_,rfl⟩;have y:dj j:=l ▸ R9 mu;have z1:j.begun=0:=by rw[l];rfl
  have z2:j.dm=0:=by rw[l];rfl
  have z3:j.now=0:=by rw[l];rfl
  rw[<- l]at N;refine yp N y (by omega) (by omega) (λw2 S2 k2=>⟨_,rfl,?_⟩);have M:=y.begin (j.dm+1);have B:(Lit.int .i64 (j.begun+1)).wf=true:=rL (by omega);refine B7 S2 M B (gH _ _ _) ka va vM (by decide) (rO _ _ _) (λw3 S3 k3=>⟨rfl,?_⟩);have ad:=M.write (gH _ _ _) vM (by decide) (rO _ _ (va,false));have F:=λnv nm g hg=>Ky l (nv:=nv) (nm:=nm) (g:=g) hg
  refine yq S3 ad B (gH _ _ _) (by simp) (λ⟨k,_,hk⟩=>?_) (by show j.now<2000;omega) (λw4 nv nm g L4 S Q k4=>⟨?_,?_⟩)
  .have:=y.fresh k;rw[show ly (j.bU k) j.now=true from hk]at this;cases this
  .show Ending.returned (.tuple #[Y (j.now+1),Y 0])=_;rw[z3];rfl
  .have o:=F nv nm g L4;generalize fH { j with log:=g,begun:=j.begun+1,cx:=cN (cN j.cx (j.begun+1) (some ⟨j.now,λ_=>none,0⟩)) (j.begun+1) (some ⟨j.now,cV (λ_=>none) ka (some (va,false)),1⟩),dm:=j.dm+1 } (cV (λ_=>none) ka (some (va,false)))
    (cN (cN (cN j.cx (j.begun+1) (some ⟨j.now,λ_=>none,0⟩)) (j.begun+1) (some ⟨j.now,cV (λ_=>none) ka (some (va,false)),1⟩)) (j.begun+1) none) (j.dm+1-1) nv nm=s4 at o S Q
   refine JI S Q 1 ka vM (by rw[o.cJ];decide) (by rw[o.now];decide) (λhx=>?_) (λhx w5 k5=>⟨?_,s4,fY.nil o,Q,S.kept k5,(low (low (low C k2) k3) k4).trans k5 (λ_ _ h=>h)⟩)
   .exfalso
    have:(ij s4 ka 1).2=true:=by simp[ij,o.bU,o.cE]
    rw[this]at hx;cases hx
   .have:(ij s4 ka 1).1=va:=by simp[ij,o.bU,o.cE]
    rw[this];rfl
 .rintro i p w' ⟨s,P,W,hS,U⟩ h1 h2;obtain⟨f1,f2,f3,f4,f5⟩:=P.facts;have hl:((List.range i).map f).length=i:=by simp
  rw[hl]at f1 f2;obtain⟨g,am,_,hA⟩:=hv (by omega);have r:=hA.ok i h1;refine B6 hS W (by omega) (by omega) (by omega) (f i).1 (f i).2.1 (f i).2.2 r.1 r.2.1 r.2.2 (λan nv nm g L1 N O1 C=>⟨rfl,_,?_,O1,N,low U C⟩);rw[List.range_succ,bj];exact fY.snoc P (f i) nv nm L1
 .rintro p w' ⟨s,P,W,hS,U⟩;exact hR w' p s P W hS U
end
end
section
variable {es:List (List W3)}{n:Nat}{s s':XS}
def yk {q:Nat}{f:Aj}(h:(fx (cG (bZ 1 es)) n)[q]?=some f):4*q<es.length/\lN (bZ 1 es) (4*q)<n/\f=(cY (bZ 1 es) q).take (n-lN (bZ 1 es) (4*q)):=by
 obtain⟨f0,a,j,l⟩:=Cs _ _ _ _ h;have o:=(ak.1 a).1;rw[oq,mV]at o;have g:4*q<es.length:=by omega
 rw[vt (bZ 1 es) q (by rw[mV];exact g)]at a;injection a with a
 subst a;rw[Ii (by rw[mV];omega)]at j l;exact⟨g,j,l⟩
def I7 (C:∀ws∈es,ik ws)(D:es.length<=2000){s0:XS}(h0:eO es 0 s0):¬rT (fx (cG (bZ 1 es)) n) s0:=by
 rintro⟨i,f,P,U,N,r,y,o⟩;obtain⟨a1,a2,a3⟩:=yk (aQ r);obtain⟨b1,b2,rfl⟩:=yk N;have l:((fx (cG (bZ 1 es)) n).take i).length=i:=by rw[aw];omega
 have B:=zZ C D ((fx (cG (bZ 1 es)) n).take i) 0 s0 P (by omega) h0 (λj f g=>by
  rw[bu]at g;split at g
  .obtain⟨_,_,e⟩:=yk g;rw[ao];exact⟨_,e⟩
  .cases g) y
 rw[l,ao]at B;obtain⟨j,c1,c2,M,c4⟩:=ES (i:=i) C D (by omega) B o;have g:j<4:=by
  rcases Nat.lt_or_ge j 4 with h|h
  .exact h
  .have:=M.2 (by omega);cases this
 have Q:=c4 g (by omega);have R:=PV (lg:=bZ 1 es) (i:=i) g (by rw[mV];omega);have S:=PW (lg:=bZ 1 es) (a:=4*i+j+1) (b:=4*(i+1)) (by omega) (by rw[mV];omega);omega
def MB (k:Ac)(x:List (List W3)):∀{a:Nat},a<=es.length->oG (es++x) a k=oG es a k:=by
 intro a
 induction a with
 |zero=>intro _;rfl
 |succ a f=>
  intro h;have e:(es++x).getD a []=es.getD a []:=by simp only[List.getD,az (show a<es.length by omega)]
  simp only[oG];rw[f (by omega),e]
def QW (k:Ac)(m:Int)(x:List (List W3)):∀{a:Nat},a<=es.length->nG (es++x) a k m=nG es a k m:=by
 intro a
 induction a with
 |zero=>intro _;rfl
 |succ a f=>
  intro h;have e:(es++x).getD a []=es.getD a []:=by simp only[List.getD,az (show a<es.length by omega)]
  simp only[nG];rw[f (by omega),e]
def eO.app {a:Nat}(h:eO es a s)(x:List (List W3)):eO (es++x) a s:=
 ⟨h.now,h.cJ,λk=>by rw[h.bU,MB k x h.le],λk m=>by rw[h.cE,QW k m x h.le],by rw[h.lg,bc h.le],by have:=h.le;simp;omega⟩
def Gm {wr:Ac->Option (Ac × Bool)}{ws:List W3}(h:kJ wr ws):eJ ws=wr:=by
 funext k
 cases a:wr k with
 |none=>
  cases g:eJ ws k with
  |none=>rfl
  |some v=>obtain⟨x,f,rfl⟩:=Gn (ws:=ws) (k:=k) (by rw[g];rfl);rw[h.at_ x f]at a;cases a
 |some v=>have hm:=h.all k (by rw[a];rfl);obtain⟨x,f,rfl⟩:=aK.1 hm;rw[AV ws h.nodup x f,<- h.at_ x f,a]
def eO.iM{a:Nat}(h:eO es a s)(j:a=es.length){wr:Ac->Option (Ac × Bool)}{ws:List W3}(o:kJ wr ws)(g:l.lg=s.log.lg++[dg (s.now+1).toNat ws])(nv nm:Nat):eO (es++[ws]) (a+1) (iM { s with log:=l } wr nv nm):=by
 have f:=(h.app [ws]).next (ws:=ws) (by rw[j];simp) (l:=l) (by rw[g,h.now];congr 3) nv nm;have e:=Gm o;refine⟨f.now,f.cJ,λk=>?_,λk m=>?_,f.lg,f.le⟩
 .rw[<- f.bU,e];simp[comm,Go.Proofs.YthbdpfccfcceiaaGreatDoor.iM,fH]
 .rw[<- f.cE,e];simp[comm,Go.Proofs.YthbdpfccfcceiaaGreatDoor.iM,fH]
end
section
open Go.RowKit Go.Maps Go.Lib
section
variable {w:Z}
def BR.OS{base:Nat}{v:D}{bs:Aj}(h:BR base w v bs):∃g,eS w v bs g/\(g<w.heap.size\/bs=[]):=by
 rcases h.2 with⟨e,r⟩|⟨g,cap,y,e,_,M,P,Q⟩
 .have hb:bs=[]:=aA r;refine⟨0,⟨none,0,by rw[e,r],by omega,λa=>bx hb a⟩,Or.inr hb⟩
 .obtain⟨q,o,e2,C⟩:=h.rd;have f:=(aO.1 M).1;refine⟨g,⟨some ⟨g,0,none⟩,cap,e,P,λa=>⟨f,0,rfl,λj N=>?_⟩⟩,Or.inl f⟩;obtain⟨g2,R,e3,l⟩:=C a;rw[e]at e2;injection e2 with e2 _ _
  rw[e3]at e2;injection e2 with e2
  injection e2 with e4 B
  subst e4;subst B;exact l j N
end
end
section
open Go.RowKit Go.Maps Go.Sort Go.Lib
section
variable {w:Z}{base:Nat}{v:D}
end
end
section
open Go.RowKit Go.Maps Go.Sort
section
variable {own own':Nat->da}{c:Nat}{w w':Z}{p:Nat}{s:XS}{mo ph mv mm:Nat}{pt mw:Int->Nat}{sl:Ac->D}
variable {R:Al}
end
end
section
open Go.RowKit Go.Maps Go.Sort
section
variable {own own':Nat->da}{c:Nat}{w w':Z}{p:Nat}{s:XS}{mo ph mv mm:Nat}{pt mw:Int->Nat}{sl:Ac->D}
variable {R:Al}
end
end
section
open Go.RowKit Go.Maps Go.Sort
section
variable {own own':Nat->da}{c:Nat}{w w':Z}{p:Nat}{s:XS}{mo ph mv mm:Nat}{pt mw:Int->Nat}{sl:Ac->D}
variable {R:Al}
end
end
section
open Go.RowKit Go.Maps Go.Sort
section
variable {own own':Nat->da}{c:Nat}{w w':Z}{p:Nat}{s:XS}{mo ph mv mm:Nat}{pt mw:Int->Nat}{sl:Ac->D}
variable {R:Al}
end
end
section
open Go.RowKit
section
variable {N:Nat->Prop}{w:Z}{p:Nat}{s:XS}
variable {R:Al}
end
end
section
open Go.RowKit Go.Maps
def qR:List Ac:=[k6 0,k6 1,k6 2,k6 3,k6 4,k6 5]
def vQ (n:Int):dZ n∈qR:=by
 have b1:=tM n (n:=6) (by decide);have a:pk n 6=0\/pk n 6=1\/pk n 6=2\/pk n 6=3\/pk n 6=4\/pk n 6=5:=by omega
 unfold dZ qR;rcases a with e|e|e|e|e|e<;>rw[e]<;>simp
def sk (s:XS):Prop:=∀k,s.bU k≠[]->k∈qR
section
variable {N:Nat->Prop}{w:Z}{p:Nat}{s:XS}
variable {R:Al}
end
end
section
open Go.RowKit Go.Maps
section
variable {own own':Nat->da}{c:Nat}{w w':Z}{p:Nat}{s:XS}{mo ph mv mm:Nat}{pt mw:Int->Nat}{sl:Ac->D}
variable {R:Al}
end
end
section
open Go.RowKit Go.Maps
section
variable {R:Al}
end
section
variable {own own':Nat->da}{c:Nat}{w w':Z}{p:Nat}{s:XS}{mo ph mv mm:Nat}{pt mw:Int->Nat}{sl:Ac->D}
variable {R:Al}
end
end
section
open Go.RowKit Go.Maps Go.Sort
section
variable {own own':Nat->da}{c:Nat}{w w':Z}{p:Nat}{s:XS}{mo ph mv mm:Nat}{pt mw:Int->Nat}{sl:Ac->D}
variable {R:Al}
end
end
section
open Go.RowKit Go.Maps Go.Sort
section
variable {w:Z}
end
section
variable {R:Al}
end
section
variable {own own':Nat->da}{c:Nat}{w w':Z}{p:Nat}{s:XS}{mo ph mv mm:Nat}{pt mw:Int->Nat}{sl:Ac->D}
variable {R:Al}
end
end
section
open Go.RowKit Go.Maps Go.Sort
section
variable {own own':Nat->da}{c:Nat}{w w':Z}{p:Nat}{s:XS}{mo ph mv mm:Nat}{pt mw:Int->Nat}{sl:Ac->D}
variable {R:Al}
end
end
section
open Go.RowKit
section
variable {s s':XS}{h:Int}{c:Ac->Nat}
end
end
section
open Go.RowKit
def Ba (a1 a2 a3:Int)(k:Ac)(h:(fZ a1 a2 a3 k).isSome=true):k∈qR:=by
 unfold fZ at h;split at h
 .by_cases e:k=dZ (a3.tdiv 3)
  .rw[e];exact vQ _
  .rw[jI _ e]at h
   by_cases a:k=dZ a1
   .rw[a];exact vQ _
   .rw[jI _ a]at h;cases h
 .by_cases a:k=dZ a1
  .rw[a];exact vQ _
  .rw[jI _ a]at h;cases h
def Fv{s:XS}{wr:Ac->Option (Ac × Bool)}(h:sk s)(hm:∀k,e.bU k=if(wr k).isSome=true then s.bU k++[s.now+1]else s.bU k)(f:∀k,(wr k).isSome=true->k∈qR):sk e:=λk a=>by
 rw[hm]at a;split at a
 .exact f k (by assumption)
 .exact h k a
end
section
open Go.RowKit Go.Maps
section
variable {R:Al}
end
end
section
open Go.RowKit Go.Maps
section
variable {N:Nat->Prop}{w:Z}{p:Nat}{s:XS}
variable {R:Al}
end
end
section
open Go.RowKit
section
variable {N:Nat->Prop}{w w':Z}{p:Nat}{s:XS}
variable {R:Al}
end
end
section
open Go.RowKit
section
variable {R:Al}
end
end
section
open Go.RowKit
def yj{wr:Ac->Option (Ac × Bool)}(h:kJ wr ws)(l:ws.length<=10)(a:∃k,(wr k).isSome=true)(f:∀k v,wr k=some v->dy k=true/\v.1.size<=20/\(v.2=true->v.1=eb)):ik ws:=by refine⟨h.up,?_,l,λx g=>f x.1 x.2 (h.at_ x g)⟩;obtain⟨k,j⟩:=a;obtain⟨x,g,_⟩:=aK.1 (h.all k j);exact List.length_pos_of_mem g
def F6 (n:Int):(ff (eA n)).1.size<=20/\((ff (eA n)).2=true->(ff (eA n)).1=eb):=by
 have h:=qc n;unfold ff;split
 .exact⟨by show eb.size<=20;decide,λ_=>rfl⟩
 .exact⟨h,λe=>by cases e⟩
def Bb (a1 a2 a3:Int)(k:Ac)(v:Ac × Bool)(h:fZ a1 a2 a3 k=some v):dy k=true/\v.1.size<=20/\(v.2=true->v.1=eb):=by
 have one:∀{g:Ac->Option (Ac × Bool)} {x y:Int},(∀v,g k=some v->dy k=true/\v.1.size<=20/\(v.2=true->v.1=eb))->cV g (dZ x) (some (ff (eA y))) k=some v->dy k=true/\v.1.size<=20/\(v.2=true->v.1=eb):=λ{g x y} a h=>by
  by_cases e:k=dZ x
  .subst e;rw[kj]at h;injection h with h
   subst h;exact⟨oA x,F6 y⟩
  .rw[jI _ e]at h;exact a v h
 unfold fZ at h;split at h
 .exact one (λv h=>by
   by_cases e:k=dZ a1
   .subst e;rw[kj]at h;injection h with h
    subst h;exact⟨oA a1,F6 a2⟩
   .rw[jI _ e]at h;cases h) h
 .exact one (λv h=>by cases h) h
def Bc (a1 a2 a3:Int):∃k,(fZ a1 a2 a3 k).isSome=true:=by
 unfold fZ;split
 .exact⟨dZ (a3.tdiv 3),by rw[kj];rfl⟩
 .exact⟨dZ a1,by rw[kj];rfl⟩
structure Full (w:Z)(p:Nat)(s:XS)(es:List (List W3))(w':Z):Prop where
 st:St (λb=>b<w.heap.size) w' p s
 ok:dj s
 Fu:sk s
 dJ:eO es es.length s
 gY:∀ws∈es,ik ws
 cx:∀n,s.cx n=none
 dm:s.dm=0
 od:s.begun<=(es.length:Int)
 kp:An w w'
section
variable {R:Al}
end
end
section
open Go.RowKit
section
variable {R:Al}
end
end
section
open Go.ChangeShapes Go.WideShapes Go.ChangeAt Go.RowKit
def LV:ownKnob prog.godebug=none:=by kernel_rfl
def Bd:prog.cellsOf 31=3:=by kernel_rfl
def LJ:prog.cellsOf 3=1:=by kernel_rfl
def LK:laidOutB prog=true:=by kernel_rfl
def GS:prog.readableRec 25=true:=by kernel_rfl
def GU:25<prog.types.size:=of_decide_eq_true (by kernel_rfl)
def Mc {cs:List D}(h:cs.length=3):∃c0 c1 c2,cs=[c0,c1,c2]:=by
 match cs,h with
 |[c0,c1,c2],_=>exact⟨c0,c1,c2,rfl⟩
section
variable {H:Type}{enc:Af × D->H}{W:Z}
def Ni{n:Nat}{cs:List D}{d:DataW H}(h:DataW.trod enc prog W 0 (λ_=>true) true n 31 cs=some (d,pl)):∃x:A3,(dY x.1/\dY x.2.1/\dY x.2.2)/\cs=[Y x.1,Y x.2.1,Y x.2.2]:=by
 obtain⟨M,k,_,hx,a,l,g⟩:=DataW.trod_struct underlying31 h;rw[Bd]at a;have o:M.length=3:=l;obtain⟨c0,c1,c2,rfl⟩:=Mc a;have one:∀(j:Nat),j<3->∃y,M[j]?=some y:=λj hj=>⟨_,aQ (by omega)⟩
 obtain⟨Z,e0⟩:=one 0 (by omega);obtain⟨y1,e1⟩:=one 1 (by omega);obtain⟨y2,e2⟩:=one 2 (by omega);have g0:DataW.trod enc prog W 0 (λ_=>true) true k 3 (([c0,c1,c2].drop 0).take (prog.cellsOf 3))=some Z:=(g 0 _ rfl).trans e0;have g1:DataW.trod enc prog W 0 (λ_=>true) true k 3 (([c0,c1,c2].drop 1).take (prog.cellsOf 3))=some y1:=(g 1 _ rfl).trans e1;have g2:DataW.trod enc prog W 0 (λ_=>true) true k 3 (([c0,c1,c2].drop 2).take (prog.cellsOf 3))=some y2:=(g 2 _ rfl).trans e2;rw[LJ]at g0 g1 g2;obtain⟨N,r,_,R⟩:=DataW.trod_int underlying3 g0;obtain⟨P,B,_,S⟩:=DataW.trod_int underlying3 g1;obtain⟨Q,C,_,U⟩:=DataW.trod_int underlying3 g2;simp at r B C;subst r;subst B;subst C;have f:∀z:Int,(Lit.int .i64 z).wf=true->dY z:=λz h=>by have m0:IntKind.i64.min = -9223372036854775808:=rfl;unfold dY;simp[Lit.wf]at h;omega
 exact⟨(N,P,Q),⟨f N R,f P S,f Q U⟩,rfl⟩
def add_plain (b off k:Nat):(⟨b,off,none⟩:Addr).add k=⟨b,off+k,none⟩:=by unfold Addr.add;split<;>simp_all
def Nj{v:D}{d:DataW H}(hv:∃a len cap,v = .slice a len cap)(h:DataW.Trod enc prog W 0 (λ_=>true) true 25 v d pl):∃n f,mE W v n f:=by
 obtain⟨S,o,l,rfl⟩:=hv;obtain⟨U,hf⟩:=h;rcases Deep.open_slice underlying25 hf with⟨Q,_⟩|⟨a,len,cap,m,n,ch,Pl,Q,a1,hl,an,hm,hx,C⟩
 .have r:Value.slice S o l = ae:=by simpa [Value.cells]using Q
  rw[r];exact⟨0,λ_=>(0,0,0),none,0,rfl,aZ _,λh=>bx h (by omega)⟩
 .have r:Value.slice S o l = .slice (some a) len cap:=by simpa [Value.cells]using Q
  rw[r];simp only[if_true]at hm;subst hm;rw[Bd]at C
  haveI:Inhabited A3:=⟨(0,0,0)⟩
  obtain⟨f,M⟩:=Deep.choose_lt (α:=A3) (n:=len) (p:=λi x=>(dY x.1/\dY x.2.1/\dY x.2.2)/\W.cells? 0 (a.add (i*3)) 3=some [Y x.1,Y x.2.1,Y x.2.2]) (λi j=>by obtain⟨am,y,P⟩:=C i (by omega);obtain⟨x,hx,rfl⟩:=Ni P;exact⟨x,hx,y⟩)
  refine⟨len,f,some a,_,rfl,by omega,λZ=>?_⟩;have cell:∀i,i<len->∀k,k<3->W.cell? ((a.add (i*3)).add k)=[Y (f i).1,Y (f i).2.1,Y (f i).2.2][k]?:=λi j k hk=>(World.cells?_some (M i j).2).2.2 k hk
  have g:a.spot=none:=by
   have y:=cell 0 Z 0 (by omega);have P:(a.add (0*3)).add 0=a:=by simp[Addr.add]
   rw[P]at y;have B:W.cell? a=some (Y (f 0).1):=y;unfold World.cell? at B;cases R:a.spot with
   |none=>rfl
   |some _=>
    rw[R]at B;split at B
    .simp at B
    .cases B
  obtain⟨b,N,ad⟩:=a;dsimp only at g;subst g;refine⟨b,N,rfl,⟨λi j=>by have h:=cell i j 0 (by omega);rw[add_plain,add_plain]at h;exact h,λi j=>by have h:=cell i j 1 (by omega);rw[add_plain,add_plain]at h;exact h,λi j=>by have h:=cell i j 2 (by omega);rw[add_plain,add_plain]at h;exact h,?_,λi j=>(M i j).1⟩⟩;have y:W.cell? ⟨b,N,none⟩=some (Y (f 0).1):=by simpa [Addr.add]using cell 0 Z 0 (by omega)
  exact bH W _ y
def LU {W o:Z}(k:An W o)(may:MemPlace->Prop):W.keptBut o may:=by
 refine⟨k.os,k.output,λi C=>?_⟩;rw[k.block i C (λh=>h)];split
 .rename_i c t fr D t' y j a
  rw[j]at a;injection a with a
  injection a with a l B
  subst a;subst l;subst B;exact⟨rfl,rfl,rfl,λ_ _=>rfl⟩
 .rename_i M g r f j a
  rw[j]at a;injection a with a
  injection a with a l
  exact Or.inr ⟨a.symm,l.symm⟩
 .rfl
def LW {W g:Z}(k:An W g)(p:MemPlace)(hp:p.block<W.heap.size):W.sameAt g p:=by
 cases p with
 |cell b f=>exact k.cell (a:=⟨b,f,none⟩) hp (λh=>h)
 |map b=>exact k.block b hp (λh=>h)
end
end
section
open Go.ChangeShapes Go.WideShapes Go.ChangeAt Go.RowKit
abbrev pJ:List (String × DataW Unit):=Rows.txsRow.laid
def MI:String:=match pJ with|x::_=>x.1 | []=>Rows.txsRow.func
def MH:String:=match pJ with|_::x::_=>x.1|_=>Rows.txsRow.func
def CI:prog.globalNamed MI=some 0:=by kernel_rfl
def CH:prog.globalNamed MH=some 1:=by kernel_rfl
def Qq:(prog.globals[0]?).map (·.type)=some 349:=by kernel_rfl
def Qp:(prog.globals[1]?).map (·.type)=some 349:=by kernel_rfl
def Io:prog.cellsOf 230=1:=by kernel_rfl
def Dn:DataW Unit->Int
 |.lit (.int _ n)=>n
 |_=>0
def tK:DataW Unit->List Int
 |.agg l=>l.map Dn
 |_=>[]
def Mo:tK Rows.laid_palimpsest_sums_lowSums=(List.range 128).map λi=>(fw i:Int):=by decide +kernel
def K5:tK Rows.laid_palimpsest_sums_highSums=(List.range 128).map λi=>(fw (i+128):Int):=by decide +kernel
def FH{W:Z}{n:String}{d:DataW Unit}{cs:Ak}{fuel:Nat}{ps:List MemPlace}{f:Nat->Nat}(B:prog.globalNamed n=some g)(hv:W.var? prog n=some cs)(y:DataW.trod (λ_=>()) prog W 0 (λ_=>true) false fuel 349 cs.toList=some (d,ps))(hp:tK d=(List.range 128).map λi=>(f i:Int)) :
  ∀i:Nat,i<128->W.cell? ⟨g,i,none⟩=some (.int .u32 (f i:Nat)):=by
 intro i r;obtain⟨N,m,_,D,_,M,l⟩:=DataW.trod_array underlying349 y;have h:=l i r;rw[Io,Nat.mul_one]at h;rw[aQ (by omega)]at h;obtain⟨k,e1,e2,_⟩:=DataW.trod_int underlying230 h;have C:k=(f i:Int):=by
  have a:(tK d)[i]?=some (f i:Int):=by rw[hp,bt,List.getElem?_range r];rfl
  have j:d = .agg (N.map (·.1)):=by injection D
  rw[j]at a;simp only[tK,List.map_map,bt]at a;rw[aQ (by omega),e2]at a;simpa [Dn]using a
 subst C;rw[World.var?_cell B hv i];rw[<- Array.getElem?_toList];have:(cs.toList.drop i).head?=some (.int .u32 (f i:Nat)):=by have o:=congrArg List.head? e1;rw[List.head?_take]at o;simpa using o
 rw[List.head?_drop]at this;exact this
def Qr{W:Z}(h:laidMetH prog pJ W):db W:=by rw[MakeChecks.laidMetH_plain _ _ _ (by kernel_rfl)]at h;obtain⟨Q,⟨g0,t0,D,f0,N,R,j,o,y,a,⟨g1,t1,M,f1,P,S,l,r,B,g,_,_⟩,_⟩,_,_⟩:=h;obtain rfl:=aJ (CI.symm.trans j);obtain rfl:=aJ (CH.symm.trans l);obtain rfl:=aJ (Qq.symm.trans o);obtain rfl:=aJ (Qp.symm.trans r);exactλi C=>⟨FH CI y a Mo i C,FH (f:=λi=>fw (i+128)) CH B g K5 i C⟩
def JB (os:Os)(args:Ak):laidMetH prog pJ ((World.doorLaid prog 400 os).forCall (λ_ _=>0) ⟨#[],args,[]⟩).memory:=
 laidMetH_of_parts3 (fuel:=8) (laidMet_of_run' 8 (by kernel_rfl) (by kernel_rfl)) (by kernel_rfl) (by kernel_rfl)
end
abbrev lv (c:OpenClaim)(b:Bool):OpenClaim:={ c with leaving:=b }
def Is{p:Pinned}{s:OpenSpec}{c:OpenClaim}(kinds:List LaidKind)(har:Bool × String)(g:Bool)
  (y:c.holds p s) (M:c.wfByText s=true) (a:c.laidByTextAt .later p kinds true)
  (o:c.start = .entering) (l:c.noBlocks=false/\c.again=false) (hm:p.checked.prog.mainIs=some (har.1,har.2.toList)) (D:(!har.1 && har.2.isEmpty && !g)=false)
  (C:∀f fn,p.checked.prog.funcNamed c.func=some f->p.checked.prog.funcs[f]?=some fn->g=p.checked.prog.looks []/\∀(j:Nat) t,fn.params[j]?=some t->p.checked.prog.wantsStandIn t=false)
  (B:true=c.goesBy p.checked.prog) :
  Claim7.holds p (.plain s) { stood:={ row:=c,standIns:=[],harness:=har,looks:=g },kinds:=[],alts:=[],goes:=true,laidByText:=true,laidKinds:=kinds,laidTests:=true,laidLooks:=.later }:=by
 refine⟨Claim7.tied_new_at .later kinds true (Claim7.new_of_sixth y har g o l hm (by simpa [Claim7.isSixth]using D) C) M,λN r=>?_,a,λh=>?_,B⟩
 .cases r
 .cases h
def G7{a:Bool}(h1:a=true)(f:b=true):(a && b)=true:=by rw[h1,f];rfl
def N0:laidOutB prog=true:=by kernel_rfl
def N6:mapsRowed prog=true:=by kernel_rfl
def N7:(prog.stops == [])=true:=by kernel_rfl
def NZ:(prog.stopKnobs == [])=true:=by kernel_rfl
def NY:(false == prog.plainKeys)=true:=by kernel_rfl
def NX:prog.stopsHeard=true:=by kernel_rfl
def NW:prog.mayEnter=true:=by kernel_rfl
end Go.Proofs.YthbdpfccfcceiaaGreatDoor
