/-
  Of hurt_card.
-/
import Derived.Test.YthbdpfccfcceiaaGreatDoorZG5x
set_option linter.all false
namespace Go.Proofs.YthbdpfccfcceiaaGreatDoor
open Go.Proofs.Tryz
open Go.Conc
open Relation (TransGen)
open Go.ConcX (WgAt KK stA smA rd wr mk)
variable {o:Obj}
section
open Go.ConcN (sumTo)
def th:Nat->Int × Int
 |0=>(KK,0)
 |1=>(KK+1,0)
 |2=>(1,0)
 |4=>(0,1)
 |_=>(0,0)
structure Sh (A:Lay)(sc rc:Bool)(gc:Nat)(w:Z):Prop where
 gN:∃s r,w.heap[A.cS]?=some (.chan 0 #[] sc s r false)
 iO:∃s r,w.heap[A.cD]?=some (.chan 0 #[] rc s r false)
 wg:WgAt A.tWg A.Wg w (th gc).1 (th gc).2
structure Cx where
 F:Array Func
 X:Ag->Prop
 T:dq
 Fin:Ai->Z->Prop
 G0:Base
 A:Lay
 bW:Loc->Prop
 z:Nat
 I:Ins
 qf:Ag
 K:Nat
 cn:Int
 cap:Nat
 fr:Ai
 cs:List Ai
 B0:Nat
structure Cx.Ok (C:Cx):Prop where
 O:C.A.Ok
 G:C.G0.m<=C.A.lo
 H:rY prog C.F C.I C.Fin C.G0
 q:C.I.ι 186=some C.qf
 fI:∃xf fn,se (imag prog C.F) C.I.jf C.qf xf 138 fn
 en:C.A.en = .slice C.A.bs C.A.n C.cap
 ea:0<C.A.n->∃ea,C.A.bs=some ea
 V:∀j,j<C.A.n->(C.A.V j).size=4
 n:C.A.n<1099511627776
 b:(C.B0:Int)<iS
 nt:∀fn,prog.funcs[186]?=some fn->2<=fn.ntmps
structure lZ (A:Lay)(S:Nat->Prop)(Zo:Loc->Prop)(b:Nat)(w:Z):Prop where
 s:S b
 lo:A.lo<=b
 lt:b<w.heap.size
 zo:∀x:Addr,x.block=b->¬Zo (.cell x)
 row:∃c t fz,w.heap[b]?=some (.cells c t fz)
structure pp (A:Lay)(S:Nat->Prop)(Zo:Loc->Prop)(b:Nat)(w:Z):Prop where
 s:S b
 lo:A.lo<=b
 lt:b<w.heap.size
 zo:∀x:Addr,x.block=b->Zo (.cell x)
 row:∃c t fz,w.heap[b]?=some (.cells c t fz)
section
variable (C:Cx)
def Cx.pq (i:Nat)(to:D)(zf:Ai)(zs:List Ai):Prop:=QZ C.I.jf C.qf C.A.en (Y C.cn) C.A.n i to zf/\zs=C.fr::C.cs
def Cx.lU (i:Nat)(to:D)(zf:Ai)(zs:List Ai):Prop:=zf=C.fr.finish (.tuple #[to,Y i])/\zs=C.cs
def Cx.RStop (r:Nat)(to:D):Ah->Z->Prop:=Go.Proofs.YthbdpfccfcceiaaGreatDoor.RStop prog C.A.meet C.K 186 C.cn (jY prog C.A.meet C.K C.fr C.cs) r to
def Cx.jY (k:Nat)(to:D):Ah->Z->Prop:=Go.Proofs.YthbdpfccfcceiaaGreatDoor.jY prog C.A.meet C.K C.fr C.cs to k
def Cx.nQ (k:Nat)(to:D):Ah->Z->Prop:=Go.Proofs.YthbdpfccfcceiaaGreatDoor.nQ prog C.A.meet C.K 186 (λval=>C.RStop (C.A.n-k) val) to (C.A.meet.E (k-1))
def Cx.kI (i:Nat)(to:D)(a:Ah):Prop:=∀w',Goes prog true AtRel DQ (λg _=>g=G (C.fr.finish (.tuple #[to,Y i])) C.cs) C.K a w'
def Cx.RB (S:Nat->Prop)(Zo:Loc->Prop)(k:Nat)(sc:Bool)(gc:Nat)(zf:Ai)(zs:List Ai)(w:Z)(a:Ah):Nat->Nat->Prop
 |0,m=>∃to y,C.pq k to zf zs/\m=y+2/\Goes prog true (Rs C.A.meet) (Ds C.A.meet) (C.RStop (C.A.n-k) to) y a w
 |1,m=>(k:Int)<C.cn/\∃to g l,C.pq k to zf zs/\C.RStop (C.A.n-k) to g l/\((m=1/\a.status = .running/\∀w',stepG prog true a w'=stepG prog true g w')\/(m=0/\a=parked g (take C.A.meet) (.recv true)/\sc=false))
 |2,m=>0<k/\((k-1:Nat):Int)<C.cn/\∃to,C.pq (k-1) to zf zs/\Goes prog true (Rs C.A.meet) (Ds C.A.meet) (px prog C.A.meet C.K (C.nQ k to)) m a w
 |3,m=>0<k/\((k-1:Nat):Int)<C.cn/\∃to b,C.pq (k-1) to zf zs/\lZ C.A S Zo b w/\Goes prog true (Rz C.A.meet b) (Dz C.A.meet b) (C.nQ k to) m a w
 |4,m=>0<k/\∃f c o r j B D,a=G f c/\m=qj (f::c)/\(uM prog (imag prog C.F) C.I f zf\/xQ prog (imag prog C.F) C.I f zf)/\c=B++o::j/\zs=D++r::C.fr::C.cs/\xP prog (imag prog C.F) C.I B D/\
   QB C.I.jf C.qf C.A.en (Y C.cn) C.A.n (k-1) r/\∀val w',C.A.Ks w'->Goes prog true (Rs C.A.meet) (Ds C.A.meet) (C.RStop (C.A.n-k) val) C.K (G (o.finish val) j) w'
 |5,m=>k=C.A.n/\∃to,C.pq k to zf zs/\Goes prog true (Rs C.A.meet) (Ds C.A.meet) (px prog C.A.meet C.K (C.jY k to)) m a w
 |6,m=>k=C.A.n/\∃to b,C.pq k to zf zs/\lZ C.A S Zo b w/\Goes prog true (Rz C.A.meet b) (Dz C.A.meet b) (C.jY k to) m a w
 |7,m=>∃to h,C.lU k to zf zs/\C.kI k to h/\Goes prog true (RA C.A.meet) DQ (uO prog C.A.meet h) m a w
 |8,m=>∃to h,C.lU k to zf zs/\C.kI k to h/\Goes prog true (RA C.A.meet) DQ (W1 prog C.A.meet h) m a w
 |9,m=>∃to h,C.lU k to zf zs/\C.kI k to h/\Goes prog true (RA C.A.meet) DQ (W2 prog C.A.meet h) m a w
 |10,m=>∃to h,C.lU k to zf zs/\C.kI k to h/\Goes prog true (RA C.A.meet) DQ (A6 prog C.A.meet h) m a w
 |11,m=>∃to h,C.lU k to zf zs/\C.kI k to h/\Goes prog true (Go.Proofs.YthbdpfccfcceiaaGreatDoor.RB C.A.meet) DQ (A8 prog C.A.meet h) m a w
 |12,m=>∃to h,C.lU k to zf zs/\C.kI k to h/\Goes prog true (Go.Proofs.YthbdpfccfcceiaaGreatDoor.RB C.A.meet) DQ (xS prog C.A.meet h) m a w
 |13,m=>∃to h g l,C.lU k to zf zs/\C.kI k to h/\xS prog C.A.meet h g l/\((m=1/\a=g)\/(m=0/\a={ g with status:=.blocked }/\gc<=3))
 |14,m=>∃to h,C.lU k to zf zs/\C.kI k to h/\Goes prog true AtRel DQ (W4 prog C.A.meet h) m a w
 |15,m=>∃to h,C.lU k to zf zs/\C.kI k to h/\Goes prog true AtRel DQ (uP prog C.A.meet h) m a w
 |_,m=>∃to h,C.lU k to zf zs/\C.kI k to h/\Goes prog true AtRel DQ (A7 prog C.A.meet h) m a w
def Cx.SB (S:Nat->Prop)(Zo:Loc->Prop)(k:Nat)(rc:Bool)(dz:Nat)(w:Z)(c:Ah):Nat->Nat->Prop
 |0,m=>Goes prog false (Rs C.A.meet) (Ds C.A.meet) (jW prog C.A.meet C.K (C.A.n-k)) m c w
 |1,m=>∃b r a,C.A.n-k=r+1/\m=a+2/\pp C.A S Zo b w/\Goes prog false (Rz C.A.meet b) (Dz C.A.meet b) (rS prog C.A.meet C.K r) a c w
 |2,m=>∃r g f,C.A.n-k=r+1/\rS prog C.A.meet C.K r g f/\((m=1/\c.status = .running/\∀w',stepG prog false c w'=stepG prog false g w')\/(m=0/\c=parked g (jS C.A.meet (C.A.n-(r+1))) .select/\rc=false))
 |3,m=>Goes prog false (Rs C.A.meet) (Ds C.A.meet) (mF prog C.A.meet C.K) m c w
 |4,m=>Goes prog false (RG C.A.meet) DQ (uA prog C.A.meet) m c w
 |5,m=>Goes prog false (RG C.A.meet) DQ (xG prog C.A.meet) m c w
 |6,m=>Goes prog false (RG C.A.meet) DQ (xC prog C.A.meet) m c w
 |7,m=>Goes prog false (RW C.A.meet) DQ (xD prog C.A.meet) m c w
 |8,m=>Goes prog false (RW C.A.meet) DQ (xE prog C.A.meet) m c w
 |9,m=>Goes prog false (RW C.A.meet) DQ (xF prog C.A.meet) m c w
 |_,m=>QuitsD prog m dz c
structure RF (p:Nat)(rc:Bool)(gc d0:Nat):Prop where
 rc:rc=decide (7<=p)
 g0:p<=9->gc=0\/gc=5
 g5:p=10\/14<=p->gc=5
 gw:11<=p->p<=13->1<=gc/\gc<=4
 d0:d0=if 8<=p/\p<=15 then 1 else 0
 p:p<=16
structure SF (n k p:Nat)(sc rc:Bool)(gc dz:Nat)(said:Bool):Prop where
 kn:k<=n
 sc:sc=decide (4<=p)
 said:said=decide (5<=p)
 done:3<=p->k=n\/rc=true
 qE:p<=5->dz=0
 vh:6<=p->p<=9->dz=1
 g1:p<=6->gc<=1
 g2:p=7\/p=8->gc=2
 g3:p=9->gc=3
 g4:p=10->gc=4\/gc=5
 p:p<=10
def dD (n k:Nat):Nat->Nat
 |0|1=>31+10*(n-k)
 |2=>39+10*(n-k)
 |3=>38+10*(n-k)
 |4=>37+10*(n-k)
 |p=>30-p
def ee (n k:Nat):Nat->Nat
 |0=>21+10*(n-k)
 |1|2=>20+10*(n-k)
 |p=>20-p
structure Cx.Inv (xq:Ai × List Ai × Z)(L m:Nat)(gs:Array Ah)(w:Z)(t:Trace)(q:Nat->Nat)(a c:Ah)(S:Nat->Prop)(Zo:Loc->Prop)(k:Nat)(sc rc:Bool)(gc d0 dz:Nat)(said:Bool)(cnt:Nat)(zf:Ai)(zs:List Ai)(pR mR pS mS:Nat):Prop where
 cC:dh C.F C.X C.T C.Fin C.G0 C.A C.bW C.z gs w t q a c xq S Zo
 dP:dN C.A.Wg C.z d0 dz said t
 sh:Sh C.A sc rc gc w
 fA:fu (imag prog C.F) C.Fin C.I.jf xq cnt zf zs
 rb:C.RB S Zo k sc gc zf zs w a pR mR
 rf:RF pR rc gc d0
 sb:C.SB S Zo k rc dz w c pS mS
 sf:SF C.A.n k pS sc rc gc dz said
 both:¬(pR=1/\mR=0/\pS=2/\mS=0)
 eL:L=dD C.A.n k pR+ee C.A.n k pS
 em:m=mR+2*mS+2*sumTo gs.size q
 gW:cnt+L<=C.B0
 ef:∀ea,C.A.bs=some ea->0<C.A.n->¬S ea.block
def Cx.Any (o:Ai × List Ai × Z)(L m:Nat)(gs:Array Ah)(w:Z)(t:Trace)(q:Nat->Nat):Prop:=
 ∃a c S Zo k sc rc gc d0 dz said f zf zs j g l h,C.Inv o L m gs w t q a c S Zo k sc rc gc d0 dz said f zf zs j g l h
def Cx.dE (i:Nat)(j:Ai × List Ai × Z)(L m:Nat)(gs:Array Ah)(w:Z)(sl:Option (Nat × Nat))(t:Trace):Prop:=
 ∃f w' u l a g h,runT prog (crowd gs w sl) i=(.next (crowd f w' sl),u)/\C.Any a g h f w' (t++u) l/\(TransGen (Sub (imag prog C.F) C.Fin) a j\/(a=j/\(g<L\/(g=L/\h<m))))
end
/-! ### what stands where the other moves -/
section
variable {C:Cx}{S S':Nat->Prop}{Zo Zo':Loc->Prop}{k gc gc' dz:Nat}{sc rc:Bool}{zf:Ai}{zs:List Ai}{w w':Z}{a c:Ah}{p m:Nat}
def la (M:dI)(w:Z):Rs M w w:=id
def pZ (M:dI)(b:Nat)(w:Z):Rz M b w w:=⟨id,rfl⟩
def nl (M:dI)(w:Z):RA M w w:=⟨id,id⟩
def wL (M:dI)(w:Z):Go.Proofs.YthbdpfccfcceiaaGreatDoor.RB M w w:=id
def mr (M:dI)(w:Z):RG M w w:=id
def nA (M:dI)(w:Z):RW M w w:=rfl
def ep {P:Ad}{main:Bool}{R:Z->Z->Prop}{j:Z->Z->Array Event->Prop}{Stop:Ah->Z->Prop}{m:Nat}{a:Ah}{w:Z}(h:Goes P main R j Stop m a w)(f:R w w)(g:∀a w,Stop a w->a.status = .running):a.status = .running:=by
 cases m with
 |zero=>exact g _ _ (h w f)
 |succ m=>exact h.elim (λh=>g _ _ (h w f)) λh=>h.1
def fR {P:Ad}{main:Bool}{R:Z->Z->Prop}{f:Z->Z->Array Event->Prop}{Stop:Ah->Z->Prop}{m:Nat}{a:Ah}{w:Z}(h:Goes P main R f Stop m a w)(g:R w w):Stop a w\/∃l a' w' es,m=l+1/\stepG P main a w = .go a' w' es/\f w w' es/\Goes P main R f Stop l a' w':=by
 cases m with
 |zero=>exact .inl (h w g)
 |succ m=>
  rcases h with h|⟨_,h⟩
  .exact .inl (h w g)
  .have:=h w g;cases j:stepG P main a w with
   |go a' w' es=>rw[j]at this;exact .inr ⟨m,a',w',es,rfl,rfl,this.1,this.2⟩
   |_=>rw[j]at this;exact this.elim
def BO {P:Ad}{M:dI}{K:Nat}:∀(r:Nat) (a:Ah) (w:Z),jW P M K r a w->a.status = .running
 |0,_,_,h=>h.1
 |_+1,_,_,h=>h.1
def Pp (r:Nat)(to:D)(a:Ah)(w:Z)(h:C.RStop r to a w):a.status = .running:=by
 unfold Cx.RStop at h;cases r with
 |zero=>
  simp only[Go.Proofs.YthbdpfccfcceiaaGreatDoor.RStop]at h;split at h
  .exact h.1
  .exact h.1
 |succ r=>
  simp only[Go.Proofs.YthbdpfccfcceiaaGreatDoor.RStop]at h;split at h
  .exact h.1
  .exact h.1
def SB.status (h:C.SB S Zo k rc dz w c p m):c.status = .running\/(c.status = .blocked/\p=2/\m=0/\rc=false)\/c.status = .finished:=by
 match p,h with
 |0,h=>exact .inl (ep h (la _ _) (BO _))
 |1,⟨b,r,f,_,_,_,h⟩=>exact .inl (ep h (pZ _ _ _) λ_ _ h=>h.1)
 |2,⟨r,g,j,_,_,h⟩=>
  rcases h with h|⟨hm,rfl,a⟩
  .exact .inl h.2.1
  .exact .inr (.inl ⟨rfl,rfl,hm,a⟩)
 |3,h=>exact .inl (ep h (la _ _) λ_ _ h=>h.1)
 |4,h=>exact .inl (ep h (mr _ _) λ_ _ h=>h.1)
 |5,h=>exact .inl (ep h (mr _ _) λ_ _ h=>h.1)
 |6,h=>exact .inl (ep h (mr _ _) λ_ _ h=>h.1)
 |7,h=>exact .inl (ep h (nA _ _) λ_ _ h=>h.1)
 |8,h=>exact .inl (ep h (nA _ _) λ_ _ h=>h.1)
 |9,h=>exact .inl (ep h (nA _ _) λ_ _ h=>h.1)
 |_+10,h=>exact(QuitsD.status h).elim .inl λh=>.inr (.inr h)
def RB.status (h:C.RB S Zo k sc gc zf zs w a p m):a.status = .running\/(a.status = .blocked/\p=1/\m=0/\sc=false)\/(a.status = .blocked/\p=13/\m=0/\gc<=3):=by
 match p,h with
 |0,⟨to,r,_,_,h⟩=>exact .inl (ep h (la _ _) (Pp _ _))
 |1,⟨_,to,g,o,_,_,h⟩=>
  rcases h with h|⟨hm,rfl,j⟩
  .exact .inl h.2.1
  .exact .inr (.inl ⟨rfl,rfl,hm,j⟩)
 |2,⟨_,_,to,_,h⟩=>exact .inl (ep h (la _ _) λ_ _ h=>h.1)
 |3,⟨_,_,to,b,_,_,h⟩=>exact .inl (ep h (pZ _ _ _) λ_ _ ⟨_,_,_,_,_,_,_,_,_,_,h,_⟩=>by rw[h];rfl)
 |4,⟨_,f,c,_,_,_,_,_,h,_⟩=>exact .inl (by rw[h];rfl)
 |5,⟨_,to,_,h⟩=>exact .inl (ep h (la _ _) λ_ _ h=>h.1)
 |6,⟨_,to,b,_,_,h⟩=>exact .inl (ep h (pZ _ _ _) λ_ _ h=>h.1)
 |7,⟨_,_,_,_,h⟩=>exact .inl (ep h (nl _ _) λ_ _ h=>h.1)
 |8,⟨_,_,_,_,h⟩=>exact .inl (ep h (nl _ _) λ_ _ h=>h.1)
 |9,⟨_,_,_,_,h⟩=>exact .inl (ep h (nl _ _) λ_ _ h=>h.1)
 |10,⟨_,_,_,_,h⟩=>exact .inl (ep h (nl _ _) λ_ _ h=>h.1)
 |11,⟨_,_,_,_,h⟩=>exact .inl (ep h (wL _ _) λ_ _ h=>h.1)
 |12,⟨_,_,_,_,h⟩=>exact .inl (ep h (wL _ _) λ_ _ h=>h.1)
 |13,⟨_,_,g,o,_,_,l,h⟩=>
  rcases h with⟨_,rfl⟩|⟨hm,rfl,j⟩
  .exact .inl l.1
  .exact .inr (.inr ⟨rfl,rfl,hm,j⟩)
 |14,⟨_,_,_,_,h⟩=>exact .inl (ep h ⟨_,rfl⟩ λ_ _ h=>h.1)
 |15,⟨_,_,_,_,h⟩=>exact .inl (ep h ⟨_,rfl⟩ λ_ _ h=>h.1)
 |_+16,⟨_,_,_,_,h⟩=>exact .inl (ep h ⟨_,rfl⟩ λ_ _ h=>h.1)
def SB.env (h:C.SB S Zo k rc dz w c p m)(f:C.A.Ks w->C.A.Ks w')(g:C.A.Ks w)(a:∀b,pp C.A S Zo b w->pp C.A S' Zo' b w'/\w'.heap[b]?=w.heap[b]?)(j:7<=p->p<=9->w'.heap[C.A.Wg]?=w.heap[C.A.Wg]?):C.SB S' Zo' k rc dz w' c p m:=by
 have y:Rs C.A.meet w w':=f;have l:RG C.A.meet w w':=λ_=>(f g).wg
 match p,h with
 |0,h=>exact Goes.rely (kh _).trans h y
 |1,⟨b,r,M,B,D,o,h⟩=>exact⟨b,r,M,B,D,(a b o).1,Goes.rely (p9 _ b).trans h ⟨f,(a b o).2⟩⟩
 |2,h=>exact h
 |3,h=>exact Goes.rely (kh _).trans h y
 |4,h=>exact Goes.rely (xa _).trans h l
 |5,h=>exact Goes.rely (xa _).trans h l
 |6,h=>exact Goes.rely (xa _).trans h l
 |7,h=>exact Goes.rely (AI _).trans h (j (by omega) (by omega))
 |8,h=>exact Goes.rely (AI _).trans h (j (by omega) (by omega))
 |9,h=>exact Goes.rely (AI _).trans h (j (by omega) (by omega))
 |_+10,h=>exact h
def FO (M:dI):Terms (Go.Proofs.YthbdpfccfcceiaaGreatDoor.RB M) DQ:=⟨λ_ _ _ h k x=>k (h x),λ_=>⟨rfl,rfl⟩⟩
def RB.env (h:C.RB S Zo k sc gc zf zs w a p m)(N:C.A.Ks w->C.A.Ks w')(o:∀b,lZ C.A S Zo b w->lZ C.A S' Zo' b w'/\w'.heap[b]?=w.heap[b]?)(M:7<=p->p<=10->RA C.A.meet w w')(Q:11<=p->p<=12->Go.Proofs.YthbdpfccfcceiaaGreatDoor.RB C.A.meet w w')(hb:p=13->m=0->gc<=3->gc'<=3)(B:14<=p->AtRel w w'):C.RB S' Zo' k sc gc' zf zs w' a p m:=by
 have P:Rs C.A.meet w w':=N;have at_:∀a b c:Z,AtRel a b->AtRel b c->AtRel a c:=λa b c h k=>atRel_trans a b c h k
 match p,h with
 |0,⟨to,R,f,j,h⟩=>exact⟨to,R,f,j,Goes.rely (kh _).trans h P⟩
 |1,h=>exact h
 |2,⟨f,j,to,r,h⟩=>exact⟨f,j,to,r,Goes.rely (kh _).trans h P⟩
 |3,⟨f,j,to,b,r,D,h⟩=>exact⟨f,j,to,b,r,(o b D).1,Goes.rely (p9 _ b).trans h ⟨N,(o b D).2⟩⟩
 |4,h=>exact h
 |5,⟨f,to,r,h⟩=>exact⟨f,to,r,Goes.rely (kh _).trans h P⟩
 |6,⟨f,to,b,r,D,h⟩=>exact⟨f,to,b,r,(o b D).1,Goes.rely (p9 _ b).trans h ⟨N,(o b D).2⟩⟩
 |7,⟨to,l,f,j,h⟩=>exact⟨to,l,f,j,Goes.rely (uk _).trans h (M (by omega) (by omega))⟩
 |8,⟨to,l,f,j,h⟩=>exact⟨to,l,f,j,Goes.rely (uk _).trans h (M (by omega) (by omega))⟩
 |9,⟨to,l,f,j,h⟩=>exact⟨to,l,f,j,Goes.rely (uk _).trans h (M (by omega) (by omega))⟩
 |10,⟨to,l,f,j,h⟩=>exact⟨to,l,f,j,Goes.rely (uk _).trans h (M (by omega) (by omega))⟩
 |11,⟨to,l,f,j,h⟩=>exact⟨to,l,f,j,Goes.rely (FO _).trans h (Q (by omega) (by omega))⟩
 |12,⟨to,l,f,j,h⟩=>exact⟨to,l,f,j,Goes.rely (FO _).trans h (Q (by omega) (by omega))⟩
 |13,⟨to,l,g,U,f,j,r,h⟩=>exact⟨to,l,g,U,f,j,r,h.imp id λ⟨x,y,z⟩=>⟨x,y,hb rfl x z⟩⟩
 |14,⟨to,l,f,j,h⟩=>exact⟨to,l,f,j,Goes.rely at_ h (B (by omega))⟩
 |15,⟨to,l,f,j,h⟩=>exact⟨to,l,f,j,Goes.rely at_ h (B (by omega))⟩
 |_+16,⟨to,l,f,j,h⟩=>exact⟨to,l,f,j,Goes.rely at_ h (B (by omega))⟩
end
end
section
open Go.ConcN (sumTo)
def Gi {P:Ad}{g g' b:Ah}{w':Z}(h:b.status = .finished):woken P g g' w' b=b:=by
 unfold woken;split
 .simp[Goroutine.again,h]
 .rfl
section
variable {C:Cx}{xq xq':Ai × List Ai × Z}{L m:Nat}{gs:Array Ah}{w w':Z}{t:Trace}{q:Nat->Nat}{a a' c c':Ah}{S:Nat->Prop}{Zo:Loc->Prop}{k:Nat}{sc rc:Bool}{gc d0 dz:Nat}{said:Bool}{cnt:Nat}{zf:Ai}{zs:List Ai}{pR mR pS mS pR' mR' d0':Nat}{sl:Option (Nat × Nat)}{es:Array Event}
def Cx.Inv.nH (I:C.Inv xq L m gs w t q a c S Zo k sc rc gc d0 dz said cnt zf zs pR mR pS mS)(x o:Ah)(hS:∃s r,w'.heap[C.A.cS]?=some (.chan 0 #[] sc s r false))(f:∃s r,w'.heap[C.A.cD]?=some (.chan 0 #[] rc s r false)):woken prog x o w' c=c:=by
 rcases SB.status I.sb with h|⟨h,rfl,rfl,l⟩|h
 .exact woken_run h
 .obtain⟨r,g,D,_,_,j⟩:=I.sb;rcases j with⟨j,_⟩|⟨_,rfl,_⟩
  .cases j
  .obtain⟨s,r,hS⟩:=hS;obtain⟨B,y,f⟩:=f;have:sc=false:=by have:=I.sf.sc;simpa using this
   rw[this]at hS;rw[l]at f;exact Rm x o hS f
 .exact Gi h
def Cx.Inv.pX (I:C.Inv xq L m gs w t q a c S Zo k sc rc gc d0 dz said cnt zf zs pR mR pS mS)(h:stepG prog true a w = .go a' w es)(r:∀e∈es,Ok0 C.bW Zo C.A.meet.Rd C.A.Wg w.heap.size (MemAct.ofEvent e))(ht:dN C.A.Wg C.z d0' dz said (t++gC a es))(l:C.RB S Zo k sc gc zf zs w a' pR' mR')(o:RF pR' rc gc d0')
  (hb:¬(pR'=1/\mR'=0/\pS=2/\mS=0)) (N:dD C.A.n k pR'<dD C.A.n k pR\/(dD C.A.n k pR'=dD C.A.n k pR/\mR'<mR)):C.dE 0 xq L m gs w sl t:=by
 obtain⟨g,y,j,f⟩:=I.cC.EB (sl:=sl) h r;rw[I.nH a a' I.sh.gN I.sh.iO]at f;have B:=I.gW;have D:=I.eL;have M:=I.em;refine⟨g,w,_,q,xq,_,_,y,⟨a',c,S,Zo,k,sc,rc,gc,d0',dz,said,cnt,zf,zs,pR',mR',pS,mS,⟨f,ht,I.sh,I.fA,l,o,I.sb,I.sf,hb,rfl,rfl,by omega,I.ef⟩⟩,.inr ⟨rfl,?_⟩⟩;rw[j];omega
def gD (w:Z)(o:Obj){j:Nat}(h:j<w.heap.size):(cy w o).heap[j]?=w.heap[j]?:=by show(w.heap.push o)[j]?=_;rw[aq,if_neg (by omega)]
def rB (w:Z)(o:Obj):(cy w o).heap[w.heap.size]?=some o:=by show(w.heap.push o)[w.heap.size]?=_;rw[aq,if_pos rfl]
def Sh.jG{A:Lay}(h:Sh A sc rc gc w)(hS:w'.heap[A.cS]?=w.heap[A.cS]?)(g:w'.heap[A.cD]?=w.heap[A.cD]?)(j:w'.heap[A.Wg]?=w.heap[A.Wg]?):Sh A sc rc gc w':=by obtain⟨s,r,a⟩:=h.gN;obtain⟨o,l,f⟩:=h.iO;exact⟨⟨s,r,hS.trans a⟩,⟨o,l,g.trans f⟩,j.trans h.wg⟩
def Dc (H:C.Ok)(I:C.Inv xq L m gs w t q a c S Zo k sc rc gc d0 dz said cnt zf zs pR mR pS mS):(cnt:Int)<iS:=by have:=I.gW;have:=H.b;omega
def Cx.Inv.Er(I:C.Inv xq L m gs w t q a c S Zo k sc rc gc d0 dz said cnt zf zs pR mR pS mS)(H:C.Ok)(y:(∀a l,o≠.number a l)/\∀a t,o≠.view a t)(D:stepG prog true a w = .go a' (cy w o) #[])(M:C.RB (λj=>S j\/j=w.heap.size) Zo k sc gc zf zs (cy w o) a' pR' mR')(N:RF pR' rc gc d0)
  (hb:pR'≠1) (hd:dD C.A.n k pR'<dD C.A.n k pR):C.dE 0 xq L m gs w sl t:=by
 obtain⟨xq',τ,d,Q,Z,r3⟩:=I.fA.push H.H.nt (Dc H I);obtain⟨B,U,Y,f⟩:=I.cC.Oc (sl:=sl) H.O H.G y D r3 (oR Q I.cC.tr);have g:=I.cC.ks;have lo:∀j,j<C.A.lo->(cy w o).heap[j]?=w.heap[j]?:=λj R=>gD w o (aR R g.size)
 have r:Sh C.A sc rc gc (cy w o):=I.sh.jG (lo _ H.O.lS) (lo _ H.O.lD) (lo _ H.O.lW);rw[I.nH a a' r.gN r.iO]at f;have h1:=I.gW;have h2:=I.eL;refine⟨B,_,_,q,xq',_,_,U,⟨a',c,_,Zo,k,sc,rc,gc,d0,dz,said,cnt+1,zf,zs,pR',mR',pS,mS,⟨f,I.dP.zero I.cC.two.pos _ _ (by simp),r,Z,M,N,SB.env I.sb (λ_=>f.ks) g (λb hb=>?_) (λ_ _=>lo _ H.O.lW),I.sf,λh=>hb h.1,rfl,rfl,by omega,λea P y W=>W.elim (I.ef ea P y) λe=>?_⟩⟩,.inl Q⟩
 rotate_left
 .have:=H.O.le ea P y;have:=g.size;omega
 have e:=gD w o hb.lt;exact⟨⟨.inl hb.s,hb.lo,by rw[dW];have:=hb.lt;omega,hb.zo,by rw[e];exact hb.row⟩,e⟩
def Cx.Inv.Bq (I:C.Inv xq L m gs w t q a c S Zo k sc rc gc d0 dz said cnt zf zs pR mR pS mS)(H:C.Ok){b:Nat}(f:lZ C.A S Zo b w)(M:stepG prog true a w = .go a' w' es)(r:Dz C.A.meet b w w' es)(R:C.RB S Zo k sc gc zf zs w' a' pR' mR')(U:RF pR' rc gc d0)
  (hb:pR'≠1) (hd:dD C.A.n k pR'<dD C.A.n k pR\/(dD C.A.n k pR'=dD C.A.n k pR/\mR'<mR)):C.dE 0 xq L m gs w sl t:=by
 obtain⟨D,Z,Q,l⟩:=I.cC.Hg (sl:=sl) H.O f.s f.lo f.lt f.zo f.row M r;have N:=I.cC.ks;have lo:∀j,j<C.A.lo->w'.heap[j]?=w.heap[j]?:=λj hj=>r.1.rest j (by have:=f.lo;omega)
 have o:Sh C.A sc rc gc w':=I.sh.jG (lo _ H.O.lS) (lo _ H.O.lD) (lo _ H.O.lW);rw[I.nH a a' o.gN o.iO]at l;have h1:=I.gW;have h2:=I.eL;have h3:=I.em;have W:∀e∈es,¬so C.A.Wg e:=λe Y=>by rcases r.2 e Y with⟨x,rfl,_⟩|⟨x,y,rfl,_⟩<;>(rintro(h|h|h)<;>cases h)
 refine⟨D,_,_,q,xq,_,_,Z,⟨a',c,_,Zo,k,sc,rc,gc,d0,dz,said,cnt,zf,zs,pR',mR',pS,mS,⟨l,I.dP.zero I.cC.two.pos _ _ W,o,I.fA,R,U,SB.env I.sb (λ_=>l.ks) N (λB g=>?_) (λ_ _=>lo _ H.O.lW),I.sf,λh=>hb h.1,rfl,rfl,by omega,I.ef⟩⟩,.inr ⟨rfl,?_⟩⟩
 .have P:B≠b:=λe=>by subst e;exact f.zo ⟨B,0,none⟩ rfl (g.zo ⟨B,0,none⟩ rfl)
  have e:=r.1.rest B P;exact⟨⟨g.s,g.lo,by rw[r.1.size];exact g.lt,g.zo,by rw[e];exact g.row⟩,e⟩
 .rw[Q];omega
def Cx.Inv.xd (I:C.Inv xq L m gs w t q a c S Zo k sc rc gc d0 dz said cnt zf zs pR mR pS mS){r:Nat}(hr:S r)(hm:C.G0.m<=r)(ad:r<C.A.lo)(ht:jy r w w')(Y:C.A.Ks w')(M:stepG prog true a w = .go a' w' es)(he:∀e∈es,Ok0 C.bW Zo C.A.meet.Rd C.A.Wg w.heap.size (MemAct.ofEvent e)){g:Bool}{gc' pS' mS':Nat}(hW:7<=pS->pS<=9->w'.heap[C.A.Wg]?=w.heap[C.A.Wg]?)
  (W:dN C.A.Wg C.z d0' dz said (t++gC a es)) (U:Sh C.A sc g gc' w') {j:Ai} {l:List Ai} (B:fu (imag prog C.F) C.Fin C.I.jf xq cnt j l) (N:C.RB S Zo k sc gc' j l w' a' pR' mR') (P:RF pR' g gc' d0') (Q:C.SB S Zo k rc dz w' c pS mS->C.SB S Zo k g dz w' (woken prog a a' w' c) pS' mS') (R:SF C.A.n k pS' sc g gc' dz said) (hS:ee C.A.n k pS'=ee C.A.n k pS)
  (hb:pR'≠1) (hd:dD C.A.n k pR'<dD C.A.n k pR):C.dE 0 xq L m gs w sl t:=by
 obtain⟨D,y,am,o⟩:=I.cC.QF (sl:=sl) hr hm ht Y M he;have h1:=I.gW;have h2:=I.eL;refine⟨D,_,_,q,xq,_,_,y,⟨a',_,_,Zo,k,sc,g,gc',d0',dz,said,cnt,j,l,pR',mR',pS',mS',⟨o,W,U,B,N,P,Q (SB.env I.sb (λ_=>Y) I.cC.ks (λZ f=>?_) hW),R,λh=>hb h.1,rfl,rfl,by omega,I.ef⟩⟩,.inr ⟨rfl,.inl (by omega)⟩⟩;have e:=ht.rest Z (by have:=f.lo;omega);exact⟨⟨f.s,f.lo,by rw[ht.size];exact f.lt,f.zo,by rw[e];exact f.row⟩,e⟩
end
end
section
open Go.ConcN (sumTo)
section
variable {A:Lay}{bW Zo:Loc->Prop}{B:Nat}{ad:Addr}{e:Event}
def wi (h:e.mute=true):Ok0 bW Zo A.meet.Rd A.Wg B (MemAct.ofEvent e):=by rcases su h with e|e<;>rw[e]<;>exact⟨λb hb=>by simp[MemAct.touch?]at hb,trivial⟩
def wj (h:e.mute=true):ku bW Zo A.meet.Rd A.Wg B (MemAct.ofEvent e):=by rcases su h with e|e<;>rw[e]<;>exact⟨λb hb=>by simp[MemAct.touch?]at hb,trivial⟩
def FX (a:Addr)(x:Bool):(MemAct.ofEvent ⟨.cell a,x,true⟩).touch?=some ⟨.cell a,x,.atomic⟩:=by cases x<;>rfl
def wh (O:A.Ok)(a:nK A bW Zo)(l:A.lo<=B)(h:ad.block=A.Wg)(x:Bool):Ok0 bW Zo A.meet.Rd A.Wg B (MemAct.ofEvent ⟨.cell ad,x,true⟩):=by
 have o:=O.lW;refine⟨λb hb=>?_,?_⟩
 .rw[FX]at hb;cases hb;refine⟨λ_=>by simp,λg=>?_,λf=>bx h (tS O f).2,λ_=>by simp,λr e=>by cases e⟩;obtain⟨a',e,j⟩:=a.zo _ g;cases e;omega
 .have:ad.block<B:=by omega
  cases x<;>exact this
def tF (O:A.Ok)(a:A.lo<=B)(h:ad.block=A.Wg)(x:Bool):ku bW Zo A.meet.Rd A.Wg B (MemAct.ofEvent ⟨.cell ad,x,true⟩):=by
 have f:=O.lW;refine⟨λb hb _=>?_,?_⟩
 .rw[FX]at hb;cases hb;exact⟨λ_=>by simp,.inr (.inr ⟨⟨ad,rfl,h⟩,rfl⟩)⟩
 .have:ad.block<B:=by omega
  cases x<;>exact this
def M5 (O:A.Ok)(a:nK A bW Zo)(l:A.lo<=B)(h:ad.block=A.Wg)(x y:Bool):Ok0 bW Zo A.meet.Rd A.Wg B (MemAct.ofEvent ⟨.mark (.write ad),x,y⟩):=by have o:=O.lW;refine⟨λb hb=>?_,show ad.block<B by omega⟩;simp[MemAct.ofEvent,MemAct.touch?]at hb;subst hb;refine⟨λ_=>by simp,λg=>?_,λf=>bx h (tS O f).2,λ_=>by simp,λr e=>by cases e⟩;obtain⟨a',e,j⟩:=a.zo _ g;cases e;omega
def M1 (O:A.Ok)(a:A.lo<=B)(h:ad.block=A.Wg):Ok0 bW Zo A.meet.Rd A.Wg B (MemAct.ofEvent (mk (.acquire ad))):=by have f:=O.lW;exact⟨λb hb=>by simp[mk,MemAct.ofEvent,MemAct.touch?]at hb,show ad.block<B by omega⟩
def M8 (O:A.Ok)(a:A.lo<=B)(h:ad.block=A.Wg):ku bW Zo A.meet.Rd A.Wg B (MemAct.ofEvent (mk (.releaseMerge ad))):=by have f:=O.lW;exact⟨λb hb=>by simp[mk,MemAct.ofEvent,MemAct.touch?]at hb,show ad.block<B by omega⟩
def M6 (O:A.Ok)(a:nK A bW Zo)(f:A.lo<=B):∀e∈semEvents (smA A.Wg),Ok0 bW Zo A.meet.Rd A.Wg B (MemAct.ofEvent e):=by
 intro e g;simp[semEvents]at g;rcases g with rfl|rfl|rfl|rfl
 .exact wi rfl
 .exact wh O a f rfl _
 .exact wh O a f rfl _
 .exact wi rfl
def M9 (O:A.Ok)(a:A.lo<=B):∀e∈semEvents (smA A.Wg),ku bW Zo A.meet.Rd A.Wg B (MemAct.ofEvent e):=by
 intro e f;simp[semEvents]at f;rcases f with rfl|rfl|rfl|rfl
 .exact wj rfl
 .exact tF O a rfl _
 .exact tF O a rfl _
 .exact wj rfl
def M3 {c:Nat}(g:∀l,bW l->∃a:Addr,l = .cell a)(h:∀l,Zo l->∃a:Addr,l = .cell a)(D:c<B)(h1:e.loc = .obj c)(r:e.sync=true):Ok0 bW Zo A.meet.Rd A.Wg B (MemAct.ofEvent e):=by
 obtain⟨l,x,y⟩:=e;dsimp only at h1 r;subst h1 r;have f:(MemAct.ofEvent ⟨.obj c,x,true⟩).low B:=by cases x<;>exact D
 refine⟨λb hb=>?_,f⟩;have o:b.loc = .obj c:=by cases x<;>simp[MemAct.ofEvent,MemAct.touch?]at hb<;>(subst hb;rfl)
 have j:b.kind = .atomic:=by cases x<;>simp[MemAct.ofEvent,MemAct.touch?]at hb<;>(subst hb;rfl)
 have C:uF b:=λ_ _ _=>by rw[j];simp
 rw[o];refine⟨λP=>?_,λQ=>?_,λM=>?_,λN=>?_,C⟩
 .obtain⟨a',e⟩:=g _ P;cases e
 .obtain⟨a',e⟩:=h _ Q;cases e
 .obtain⟨a',e,_⟩:=M;cases e
 .obtain⟨a',e,_⟩:=N;cases e
end
section
variable {C:Cx}{xq xq':Ai × List Ai × Z}{L m:Nat}{gs:Array Ah}{w w':Z}{t:Trace}{q:Nat->Nat}{a a' c c':Ah}{S:Nat->Prop}{Zo:Loc->Prop}{k:Nat}{sc rc:Bool}{gc d0 dz:Nat}{said:Bool}{cnt:Nat}{zf:Ai}{zs:List Ai}{pR mR pS mS pR' mR' d0':Nat}{sl:Option (Nat × Nat)}{es:Array Event}
def Cx.dE.mono {i f:Nat}(h:C.dE i xq L f gs w sl t)(hm:f<=m):C.dE i xq L m gs w sl t:=by obtain⟨a,w',u,y,xq',g,r,j,l,o⟩:=h;exact⟨a,w',u,y,xq',g,r,j,l,o.imp id λ⟨e,h⟩=>⟨e,h.imp id λ⟨e,h⟩=>⟨e,by omega⟩⟩⟩
def Cx.Inv.zY (I:C.Inv xq L m gs w t q a c S Zo k sc rc gc d0 dz said cnt zf zs pR mR pS mS)(H:C.Ok)(j:stepG prog true a w = .go a' w' es)(o:Ds C.A.meet w w' es)(l:C.RB S Zo k sc gc zf zs w a' pR mR')(hp:pR≠1)(hm:mR'<mR):C.dE 0 xq L m gs w sl t:=by obtain⟨rfl,f⟩:=o;refine I.pX j (λe g=>DS H.O I.cC.ap I.cC.ks.size (f e g)) (I.dP.zero I.cC.two.pos _ _ λe g=>?_) l I.rf (λh=>hp h.1) (.inr ⟨rfl,hm⟩);obtain⟨x,rfl,_⟩:=f e g;rintro(h|h|h)<;>cases h
def Cx.Inv.mO (I:C.Inv xq L m gs w t q a c S Zo k sc rc gc d0 dz said cnt zf zs pR mR pS mS)(f:stepG prog true a w = .go a' w' es)(j:DQ w w' es)(g:C.RB S Zo k sc gc zf zs w a' pR mR')(hp:pR≠1)(hm:mR'<mR):C.dE 0 xq L m gs w sl t:=by obtain⟨rfl,rfl⟩:=j;exact I.pX f (by simp) (I.dP.zero I.cC.two.pos _ _ (by simp)) g I.rf (λh=>hp h.1) (.inr ⟨rfl,hm⟩)
def DC (h:nN S w w' es){b:Nat}(hb:S b)(f:b<w.heap.size):w'.heap[b]?=w.heap[b]?:=by
 have e:=aP f;rw[e];rcases h.oh.old b _ e with a|⟨c,y,o,c',a,g,r,j⟩
 .exact a
 .rw[g,a];have:c'=c:=Array.ext_getElem? λi=>j i λl=>l.1 hb
  rw[this]
def Mv (h:nN S w w' es){W:Nat}:∀e∈es,¬so W e:=by intro e f;have a:=h.Cg e f;obtain⟨l,x,y⟩:=e;rintro(h|h|h)<;>(dsimp only at h;subst h;simp[fX]at a)
def Cx.Inv.Mh (I:C.Inv xq L m gs w t q a c S Zo k sc rc gc d0 dz said cnt zf zs 4 mR pS mS)(H:C.Ok):C.dE 0 xq L m gs w sl t:=by
 obtain⟨a1,f,cl,bp,bq,bps,ps,qs,rfl,rfl,hrel,rfl,rfl,an,U,o⟩:=I.rb;have hl:=Mg H.H (bp:=bp) (bq:=bq) (bps:=bps) (bqs:=C.fr::C.cs) ⟨zf,_,ps,qs,I.fA,hrel,rfl,rfl,an⟩ I.cC.tr I.cC.fV;obtain⟨f',bf,w',es,xq',B,a0,r,W,be,R⟩:=hl;have Q:=I.cC.ks;have jG:∀j,S j->j<C.A.lo->w'.heap[j]?=w.heap[j]?:=λj hj a3=>DC r hj (aR a3 Q.size)
 have y:Sh C.A sc rc gc w':=I.sh.jG (jG _ I.cC.sS H.O.lS) (jG _ I.cC.sD H.O.lD) (jG _ I.cC.sW H.O.lW);have own:∀b,pp C.A S Zo b w->pp C.A S Zo b w'/\w'.heap[b]?=w.heap[b]?:=λb hb=>by have e:=DC r hb.s hb.lt;exact⟨⟨hb.s,hb.lo,aR hb.lt r.oh.size,hb.zo,by rw[e];exact hb.row⟩,e⟩
 have ad:dN C.A.Wg C.z d0 dz said (t++gC (G f (ps++bp::bps)) es):=I.dP.zero I.cC.two.pos _ _ (Mv r);have h1:=I.gW;have h2:=I.eL;have h3:=I.em;have hx:xq'=xq\/TransGen (Sub (imag prog C.F) C.Fin) xq' xq:=by
  rcases R with⟨⟨h,_⟩|h,_⟩|⟨_,_,_,h,_⟩
  .exact .inl h
  .exact .inr h
  .exact .inl h
 have a7:Tr (imag prog C.F) C.X C.T C.Fin xq'.1 xq'.2.1 xq'.2.2:=by
  rcases hx with rfl|h
  .exact I.cC.tr
  .exact oR h I.cC.tr
 obtain⟨M,hr,a4,g⟩:=I.cC.Dp (sl:=sl) H.O a0 r W a7;rw[I.nH _ _ y.gN y.iO]at g;have Z:=SB.env I.sb (λ_=>g.ks) Q own (λ_ _=>jG _ I.cC.sW H.O.lW);rcases R with⟨P,bb,bv,a9,ba,l,D,rfl,rfl,N⟩|⟨val,rfl,rfl,a8,l⟩
 .refine⟨M,_,_,q,xq',_,_,hr,⟨_,c,S,Zo,k,sc,rc,gc,d0,dz,said,B,bb,_,4,_,pS,mS,⟨g,ad,y,l,⟨a1,f',_,bp,bq,bps,a9,ba,rfl,rfl,D,rfl,rfl,N,U,o⟩,I.rf,Z,I.sf,λh=>bx h.1 (by decide),rfl,rfl,by omega,I.ef⟩⟩,?_⟩;rcases P with⟨rfl,bm⟩|h
  .refine .inr ⟨rfl,.inr ⟨h2.symm,?_⟩⟩;rw[a4];omega
  .exact .inl h
 .subst a8;have bl:=I.sf.kn;have hn:=H.n;obtain⟨z',Y,am⟩:=Ke (F:=C.F) (Fin:=C.Fin) H.H.nt H.H.J (zs:=C.fr::C.cs) (by simp) (by omega) U val;rw[show k-1+1=k by omega]at Y;have e1:dD C.A.n k 0<dD C.A.n k 4:=by simp only[dD];omega
  refine⟨M,_,_,q,_,_,_,hr,⟨_,c,S,Zo,k,sc,rc,gc,d0,dz,said,B,z',_,0,C.K+2,pS,mS,⟨g,ad,y,l.more H.H.nt am,⟨val,C.K,⟨Y,rfl⟩,rfl,o val w' g.ks⟩,?_,Z,I.sf,λh=>bx h.1 (by decide),rfl,rfl,by omega,I.ef⟩⟩,.inr ⟨rfl,.inl (by omega)⟩⟩;exact⟨I.rf.rc,λ_=>I.rf.g0 (by decide),λh=>by omega,λh=>by omega,I.rf.d0,by decide⟩
end
end
section
open Go.ConcN (sumTo)
section
variable {C:Cx}{xq xq':Ai × List Ai × Z}{L m:Nat}{gs:Array Ah}{w w':Z}{t:Trace}{q:Nat->Nat}{a a' c c':Ah}{S:Nat->Prop}{Zo:Loc->Prop}{k:Nat}{sc rc:Bool}{gc d0 dz:Nat}{said:Bool}{cnt:Nat}{zf:Ai}{zs:List Ai}{pR mR pS mS pR' mR' d0':Nat}{sl:Option (Nat × Nat)}{es:Array Event}{to:D}{g:Ah}
def Aq {w0:Z}(hm:(k:Int)<C.cn)(M:k<=C.A.n)(h:C.RStop (C.A.n-k) to g w0) :
  g.status = .running/\g.offers=none/\(∀w',stepG prog true g w' = .comm g (take C.A.meet) true (.recv true) w' #[])/\
   (k<C.A.n->∀w',C.A.Ks w'->Goes prog true (Rs C.A.meet) (Ds C.A.meet) (px prog C.A.meet C.K (C.nQ (k+1) to)) C.K (g.finishComm prog (take C.A.meet) (.recv true) 0 (C.A.meet.E k) true) w')/\
   ∀w',C.A.Ks w'->Goes prog true (Rs C.A.meet) (Ds C.A.meet) (px prog C.A.meet C.K (C.jY k to)) C.K (g.finishComm prog (take C.A.meet) (.recv true) 0 C.A.meet.zv false) w':=by
 unfold Cx.RStop at h;cases o:C.A.n-k with
 |zero=>
  rw[o]at h;have e:C.A.meet.n=k:=by show C.A.n=k;omega
  simp only[Go.Proofs.YthbdpfccfcceiaaGreatDoor.RStop]at h;rw[e,if_pos hm]at h;obtain⟨a,f,j,_,l⟩:=h;exact⟨a,f,j,λB=>by omega,l⟩
 |succ r=>
  rw[o]at h;have e:C.A.meet.n-(r+1)=k:=by show C.A.n-(r+1)=k;omega
  simp only[Go.Proofs.YthbdpfccfcceiaaGreatDoor.RStop]at h;rw[e,if_pos hm]at h;obtain⟨a,f,j,y,l⟩:=h;refine⟨a,f,j,λ_ w' D=>?_,l⟩;have e2:C.A.n-(k+1)=r:=by omega
  unfold Cx.nQ;rw[e2,Nat.add_sub_cancel];exact y trivial w' D
def Po {w0:Z}(hm:¬(k:Int)<C.cn)(f:k<=C.A.n)(h:C.RStop (C.A.n-k) to g w0):C.jY k to g w0:=by
 unfold Cx.RStop at h;cases a:C.A.n-k with
 |zero=>
  rw[a]at h;have e:C.A.meet.n=k:=by show C.A.n=k;omega
  simp only[Go.Proofs.YthbdpfccfcceiaaGreatDoor.RStop]at h;rw[e,if_neg hm]at h;exact h
 |succ r=>
  rw[a]at h;have e:C.A.meet.n-(r+1)=k:=by show C.A.n-(r+1)=k;omega
  simp only[Go.Proofs.YthbdpfccfcceiaaGreatDoor.RStop]at h;rw[e,if_neg hm]at h;exact h
def tD {c:Ah}(h:c.status≠.blocked)(r:Nat)(b:Bool):offersAt c r b=[]:=offersAt_of_not_blocked h r b
def wP {w:Z}{c:Nat}(h:c<w.heap.size)(cap:Nat)(buf:Ak)(cl:Bool)(s r:Nat)(tm:Bool):(w.setChan c cap buf cl s r tm).heap[c]?=some (.chan cap buf cl s r tm):=by simp only[World.setChan];exact aT h
def Au{A:Lay}(O:A.Ok)(f:A.Ks w)(h:Sh A sc rc gc w)(cl:Bool)(s r:Nat):Sh A cl rc gc (w.setChan A.cS 0 #[] cl s r false):=by have ht:=rK w A.cS 0 #[] cl s r false;have ap:=O.apart;obtain⟨j,g,a⟩:=h.iO;exact⟨⟨s,r,wP (aR O.lS f.size) _ _ _ _ _ _⟩,⟨j,g,(ht.rest _ (by omega)).trans a⟩,(ht.rest _ (by omega)).trans h.wg⟩
def PL{A:Lay}(O:A.Ok)(f:A.Ks w)(h:Sh A sc rc gc w)(cl:Bool)(s r:Nat):Sh A sc cl gc (w.setChan A.cD 0 #[] cl s r false):=by have ht:=rK w A.cD 0 #[] cl s r false;have ap:=O.apart;obtain⟨j,g,a⟩:=h.gN;exact⟨⟨j,g,(ht.rest _ (by omega)).trans a⟩,⟨s,r,wP (aR O.lD f.size) _ _ _ _ _ _⟩,(ht.rest _ (by omega)).trans h.wg⟩
def Cx.Inv.EP (I:C.Inv xq L m gs w t q a c S Zo k sc rc gc d0 dz said cnt zf zs 1 mR pS mS)(H:C.Ok)(R:a.status = .running):C.dE 0 xq L m gs w sl t:=by
 obtain⟨hm,to,g,w0,y,W,hw⟩:=I.rb;rcases hw with⟨rfl,_,N⟩|⟨_,rfl,_⟩
 rotate_left
 .cases R
 have an:=I.sf.kn;obtain⟨g1,g2,g3,g4,g5⟩:=Aq hm an W;have j:stepG prog true a w = .comm g #[rcase C.A.cS C.A.meet.zv] true (.recv true) w #[]:=(N w).trans (g3 w);obtain⟨s,r,hS⟩:=I.sh.gN;have h1:=I.gW;have h2:=I.eL;have h3:=I.em;have a0:rc=false:=by have:=I.rf.rc;simpa using this
 cases B:sc with
 |true=>
  rw[B]at hS;have a4:4<=pS:=by have:=I.sf.sc;rw[B]at this;simpa using this
  have am:k=C.A.n:=(I.sf.done (by omega)).resolve_right (by rw[a0];simp);have o:offersAt c C.A.cS true=[]:=by
   rcases SB.status I.sb with h|⟨h,h',_⟩|h
   .exact tD (by rw[h];simp) _ _
   .omega
   .exact tD (by rw[h];simp) _ _
  obtain⟨l,u,Q,hH,a3,P,f⟩:=I.cC.IL (sl:=sl) j hS o;have e1:dD C.A.n k 5<dD C.A.n k 1:=by simp only[dD];omega
  refine⟨l,w,u,q,xq,_,_,Q,⟨_,c,S,Zo,k,sc,rc,gc,d0,dz,said,cnt,zf,zs,5,C.K,pS,mS,⟨f,I.dP.met (λ_ op D=>?_) hH.mark,I.sh,I.fA,⟨am,to,y,g5 w I.cC.ks⟩,⟨I.rf.rc,λ_=>I.rf.g0 (by decide),λh=>by omega,λh=>by omega,I.rf.d0,by decide⟩,I.sb,I.sf,λh=>bx h.1 (by decide),rfl,rfl,by omega,I.ef⟩⟩,.inr ⟨rfl,.inl (by omega)⟩⟩;rw[a3 op D];have:=I.cC.two.pos;omega
 |false=>
  rw[B]at hS
  by_cases M:pS=2/\mS=0
  .obtain⟨rfl,rfl⟩:=M;obtain⟨Z,gz,wz,hn,U,hz⟩:=I.sb;rcases hz with⟨hz,_⟩|⟨_,rfl,_⟩
   .cases hz
   obtain⟨s1,s2,s3,s4,s5⟩:=U;have e:C.A.n-(Z+1)=k:=by omega
   have e':C.A.meet.n-(Z+1)=k:=e;have ad:C.A.cS≠C.A.cD:=H.O.apart.2.2.2.2.2.2.2.2.2.2.2.2.2.2;obtain⟨l,u,Q,hH,P,f⟩:=I.cC.Mw (sl:=sl) H.O ad j hS (show _=parked gz (sr C.A.cS C.A.cD (C.A.meet.E (C.A.n-(Z+1))) C.A.meet.zv C.A.meet.zd) .select from rfl);rw[e]at f;have Y:=s4 _ f.ks;rw[e']at Y;have a1:said=false:=by have:=I.sf.said;simpa using this
   refine⟨l,_,u,q,xq,_,_,Q,⟨_,_,S,Zo,k+1,false,rc,gc,d0,dz,said,cnt,zf,zs,2,C.K,0,C.K,⟨f,I.dP.met (λh=>by rw[a1]at h;cases h) hH.mark,Au H.O I.cC.ks I.sh false _ _,I.fA,⟨by omega,hm,to,y,g4 (by omega) _ f.ks⟩,⟨I.rf.rc,λ_=>I.rf.g0 (by decide),λh=>by omega,λh=>by omega,I.rf.d0,by decide⟩,?_,⟨by omega,rfl,by simpa using I.sf.said,λh=>by omega,λ_=>I.sf.qE (by decide),λh=>by omega,λ_=>I.sf.g1 (by decide),λh=>by omega,λh=>by omega,λh=>by omega,by decide⟩,λh=>bx h.1 (by decide),rfl,rfl,?_,I.ef⟩⟩,.inr ⟨rfl,.inl ?_⟩⟩
   .show Goes _ _ _ _ (jW _ _ _ (C.A.n-(k+1))) _ _ _;rw[show C.A.n-(k+1)=Z by omega];exact Y
   .simp only[dD,ee]at h2 ⊢;omega
   .simp only[dD,ee]at h2 ⊢;omega
  .have o:offersAt c C.A.cS true=[]:=by
    rcases SB.status I.sb with h|⟨_,h,h',_⟩|h
    .exact tD (by rw[h];simp) _ _
    .exact bx ⟨h,h'⟩ M
    .exact tD (by rw[h];simp) _ _
   obtain⟨l,Q,P,f⟩:=I.cC.NT (sl:=sl) j hS o;refine⟨l,w,_,q,xq,_,_,Q,⟨_,c,S,Zo,k,sc,rc,gc,d0,dz,said,cnt,zf,zs,1,0,pS,mS,⟨f,I.dP.met (λ_ op D=>by simp at D) (by simp),I.sh,I.fA,⟨hm,to,g,w0,y,W,.inr ⟨rfl,rfl,B⟩⟩,I.rf,I.sb,I.sf,λh=>M ⟨h.2.2.1,h.2.2.2⟩,rfl,rfl,by omega,I.ef⟩⟩,.inr ⟨rfl,.inr ⟨h2.symm,?_⟩⟩⟩;rw[P];omega
end
end
section
open Go.ConcN (sumTo)
section
variable {C:Cx}{xq xq':Ai × List Ai × Z}{L m:Nat}{gs:Array Ah}{w w':Z}{t:Trace}{q:Nat->Nat}{a a' c c':Ah}{S:Nat->Prop}{Zo:Loc->Prop}{k:Nat}{sc rc:Bool}{gc d0 dz:Nat}{said:Bool}{cnt:Nat}{zf:Ai}{zs:List Ai}{pR mR pS mS pR' mR' d0':Nat}{sl:Option (Nat × Nat)}{es:Array Event}{to:D}{g:Ah}
def Ps{F:Array Func}{X:Ag->Prop}{T:dq}{Fin:Ai->Z->Prop}{G0:Base}{z:Nat}{A:Lay}{bW:Loc->Prop}(h:dh F X T Fin G0 A bW z gs w t q a c xq S Zo){j:Nat}(f:S j):j<w.heap.size:=by obtain⟨g,e⟩:=h.fV.hole j f;have:=(aO.1 e).1;rw[h.fV.size]at this;exact this
def D4 (h:C.Ok)(I:C.Inv xq L m gs w t q a c S Zo k sc rc gc d0 dz said cnt zf zs pR mR pS mS):lZ C.A (λj=>S j\/j=w.heap.size) Zo w.heap.size (cy w C.A.meet.zO):=by refine⟨.inr rfl,I.cC.ks.size,by rw[dW];omega,λx l g=>?_,⟨_,_,_,rB w _⟩⟩;obtain⟨y,e,f⟩:=I.cC.zo _ g;cases e;have:=Ps I.cC f;omega
def AY:(∀a l,C.A.meet.zO≠.number a l)/\∀a t,C.A.meet.zO≠.view a t:=⟨λ_ _ e=>(by cases e),λ_ _ e=>(by cases e)⟩
def Cx.Inv.G5 (I:C.Inv xq L m gs w t q a c S Zo k sc rc gc d0 dz said cnt zf zs 2 mR pS mS)(H:C.Ok):C.dE 0 xq L m gs w sl t:=by
 obtain⟨o,hm,to,f,r⟩:=I.rb;rcases fR r (la _ _)with⟨_,B,g,j⟩|⟨y,a',w',es,rfl,g,l,j⟩
 .exact I.Er H AY g (pR':=3) (mR':=C.K) ⟨o,hm,to,_,f,D4 H I,j⟩ ⟨I.rf.rc,λ_=>I.rf.g0 (by decide),λh=>by omega,λh=>by omega,I.rf.d0,by decide⟩ (by decide) (by simp only[dD];omega)
 .have e:=l.1;subst e;exact I.zY H g l (mR':=y) ⟨o,hm,to,f,j⟩ (by decide) (by omega)
def Cx.Inv.G6 (I:C.Inv xq L m gs w t q a c S Zo k sc rc gc d0 dz said cnt zf zs 5 mR pS mS)(H:C.Ok):C.dE 0 xq L m gs w sl t:=by
 obtain⟨o,to,f,r⟩:=I.rb;rcases fR r (la _ _)with⟨_,B,g,j⟩|⟨y,a',w',es,rfl,g,l,j⟩
 .exact I.Er H AY g (pR':=6) (mR':=C.K) ⟨o,to,_,f,D4 H I,j⟩ ⟨I.rf.rc,λ_=>I.rf.g0 (by decide),λh=>by omega,λh=>by omega,I.rf.d0,by decide⟩ (by decide) (by simp only[dD];omega)
 .have e:=l.1;subst e;exact I.zY H g l (mR':=y) ⟨o,to,f,j⟩ (by decide) (by omega)
def Iw{v:Z}{x:Addr}(h:v.heap[x.block]?=w.heap[x.block]?):v.cell? x=w.cell? x:=by unfold World.cell?;rw[h]
def Cx.Inv.call3 (I:C.Inv xq L m gs w t q a c S Zo k sc rc gc d0 dz said cnt zf zs 3 mR pS mS)(H:C.Ok):C.dE 0 xq L m gs w sl t:=by
 obtain⟨hk,hm,to,b,y,g,hg⟩:=I.rb;rcases fR hg (pZ _ _ _)with N|⟨m',a',w',es,rfl,R,hD,hn⟩
 rotate_left
 .refine I.Bq H g R hD (pR':=3) (mR':=m') ⟨hk,hm,to,b,y,?_,hn⟩ I.rf (by decide) (.inr ⟨rfl,by omega⟩);obtain⟨ce,ty,fz,Y⟩:=g.row;obtain⟨an,h'⟩:=hD.1.row _ _ _ Y;exact⟨g.s,g.lo,by rw[hD.1.size];exact g.lt,g.zo,⟨an,ty,fz,h'⟩⟩
 obtain⟨bf,D,bb,i,o,rest,kk,U,args,be,rfl,ho,a3,a4,a7,M,am,P⟩:=N;obtain⟨fn,W,cd,r,f⟩:=H.H.yG 186 C.qf H.q;have R:=Az (b:=bf) (a:=D) (k:=kk) (cs:=U) (w:=w) (rest:=rest) ho a3 a4 a7 f.tL f.Eo f.Em;obtain⟨lB,hJ⟩:=H.H.J;have bl:=I.sf.kn;obtain⟨ea,Q⟩:=H.ea (by omega);obtain⟨hz,rfl⟩:=y;rw[H.en]at hz;have Z:=I.fA.ru hJ H.H.nt;obtain⟨zb,a8,a9⟩:=Kf (X:=C.X) (T:=C.T) H.H.hb H.H.hG H.H.hF H.H.nt (zs:=C.fr::C.cs) (by simp) Q hz hm (by omega) (Z.ru.tr H.H.nt I.cC.tr) (V:=C.A.V (k-1)) (H.V _ (by omega)) (λj hj=>by have:=I.cC.ks.ef ea Q (k-1) (by omega) j hj;rw[<- this];exact I.cC.fV.cell (by rw[iq,iq];exact I.ef ea Q (by omega))) f.zM f.Ey f.nk
 obtain⟨xq',τ,d,r1,r2,r3⟩:=fu.start hJ H.H.nt (base_kind C.qf) (by simp) (Z.then H.H.nt (a9.trans H.H.nt (bV.seq (by simp) xq.2.2)));have B:=I.cC.fV;have ad:cM C.G0 0 S w xq'.2.2:=by rw[r3];exact⟨B.size,B.same,B.hole,B.eH,B.high,λi hi=>bx hi (by omega),B.os,B.output,B.fix⟩
 obtain⟨a1,hr,bp,l⟩:=I.cC.Dp (sl:=sl) H.O R .still ad (oR r1 I.cC.tr);rw[I.nH _ _ I.sh.gN I.sh.iO]at l;have h1:=I.gW;have h2:=I.eL;have bm:=H.nt fn f.tL;have e1:dD C.A.n k 4<dD C.A.n k 3:=by simp only[dD];omega
 have a0:(#[to,.agg (C.A.V (k-1))]:Ak)++Array.replicate (W.ntmps-2) undef=(args.map D.eval++Array.replicate (fn.ntmps-args.size) undef).push undef:=by
  rw[M,f.Ez,am,show fn.ntmps+1-2=fn.ntmps-2+1 by omega,Array.replicate_succ,Array.append_push]
  rfl
 rw[a0]at r2;refine⟨a1,w,_,q,xq',_,_,hr,⟨_,c,S,Zo,k,sc,rc,gc,d0,dz,said,0,_,_,4,_,pS,mS,⟨l,I.dP.zero I.cC.two.pos _ _ (by simp),I.sh,r2,⟨hk,_,_,bf.at D (.inRegion bb (i::rest)::kk),zb,U,[],[],rfl,rfl,.inl ⟨186,C.qf,fn,W,cd,r,_,undef,[.code cd],[.code (gy C.I fn.ntmps cd)],f,rfl,rfl,rfl,?_,f.ok,[],rfl,rfl⟩,rfl,rfl,rfl,?_,λval w' ba=>?_⟩,⟨I.rf.rc,λ_=>I.rf.g0 (by decide),λh=>by omega,λh=>by omega,I.rf.d0,by decide⟩,I.sb,I.sf,λh=>bx h.1 (by decide),rfl,rfl,by omega,I.ef⟩⟩,.inl r1⟩
 .simp only[Array.size_append,Array.size_map,Array.size_replicate];omega
 .rw[H.en];exact a8
 .have:=P val w' ba;rw[Frame.finish_at,ho];exact this
def Pt {a:Bool}{p m:Nat}(h:C.SB S Zo k rc dz w c p m)(hb:c.status≠.blocked):C.SB S Zo k a dz w c p m:=by
 match p,h with
 |0,h|1,h|3,h|4,h|5,h|6,h|7,h|8,h|9,h|_+10,h=>exact h
 |2,⟨r,g,l,f,j,h⟩=>exact⟨r,g,l,f,j,h.imp id λ⟨x,y,z⟩=>bx (by rw[y];rfl) hb⟩
def Qb (n k:Nat):∀p,p<=6->dD n k 7<dD n k p
 |0,_|1,_|2,_|3,_|4,_|5,_|6,_=>by simp only[dD];omega
def Cx.Inv.BJ (I:C.Inv xq L m gs w t q a c S Zo k sc rc gc d0 dz said cnt zf zs pR mR pS mS)(H:C.Ok)(hp:pR<=6)(am:C.pq k to zf zs)(R:¬(k:Int)<C.cn\/k=C.A.n)(o:C.jY k to a w):C.dE 0 xq L m gs w sl t:=by
 obtain⟨h1,N,o⟩:=o;obtain⟨s,r,hD⟩:=I.sh.iO;have a8:rc=false:=by have:=I.rf.rc;rw[this];simp;omega
 rw[a8]at hD;obtain⟨g',es,gr,W,B,hK,M⟩:=o s r hD;obtain⟨hz,rfl⟩:=am;obtain⟨xf,fn,hQ⟩:=H.fI;have j:=I.fA.more H.H.nt (Kh H.H.nt hQ hz R);have ap:=H.O.apart;have ht:=rK w C.A.cD 0 #[] true s r false;have Q:=PL H.O I.cC.ks I.sh true s r;have Z:=I.cC.ks.chan H.O (.inr rfl) (cap:=0) (buf:=#[]) (cl:=true) (s:=s) (r:=r) (tm:=false);have g:=I.rf.g0 (by omega);have ka:KA C.A.meet (w.setChan C.A.cD 0 #[] true s r false):=by
  have:=Q.wg;rcases g with e|e
  .rw[e]at this;exact .inl this
  .rw[e]at this;exact .inr this
 have U:=hK _ ka;have an:g'.status = .running:=ep U (nl _ _) λ_ _ h=>h.1
 have a7:d0=0:=by rw[I.rf.d0,if_neg (by omega)]
 have a1:RF 7 true gc 0:=⟨rfl,λ_=>g,λh=>by omega,λh=>by omega,rfl,by decide⟩;have a4:dN C.A.Wg C.z 0 dz said (t++gC a es):=by rw[<- a7];exact I.dP.zero I.cC.two.pos _ _ λe y=>by rintro(h|h|h)<;>(rw[(B e y).1]at h;cases h)
 have a3:SF C.A.n k pS sc true gc dz said:={ I.sf with done:=λ_=>.inr rfl };have ad:dD C.A.n k 7<dD C.A.n k pR:=Qb _ _ _ hp;have a0:C.RB S Zo k sc gc (C.fr.finish (.tuple #[to,Y k])) C.cs (w.setChan C.A.cD 0 #[] true s r false) g' 7 C.K:=⟨to,gr,⟨rfl,rfl⟩,M,U⟩;have y:∀e∈es,Ok0 C.bW Zo C.A.meet.Rd C.A.Wg w.heap.size (MemAct.ofEvent e):=λe y=>M3 (λl hl=>(I.cC.fN l hl).imp λ_ x=>x.1) (λl hl=>(I.cC.zo l hl).imp λ_ x=>x.1) (aR H.O.lD I.cC.ks.size) (B e y).1 (B e y).2
 by_cases f:c.status = .blocked
 .rcases SB.status I.sb with h|⟨_,rfl,rfl,_⟩|h
  .rw[h]at f;cases f
  .refine I.xd (pS':=2) (mS':=1) I.cC.sD I.cC.nD H.O.lD ht Z W y (λh=>by omega) a4 Q j a0 a1 (λD=>?_) a3 rfl (by decide) ad;obtain⟨rr,gz,w0,e1,e2,e3⟩:=D;rcases e3 with⟨e3,_⟩|⟨_,rfl,_⟩
   .cases e3
   have P:woken prog a g' (w.setChan C.A.cD 0 #[] true s r false) (parked gz (jS C.A.meet (C.A.n-(rr+1))) .select)={ parked gz (jS C.A.meet (C.A.n-(rr+1))) .select with status:=.running }:=by unfold woken;rw[N,an];exact again_some_closed (k:=1) (c:=C.A.cD) (z:=C.A.meet.zd) rfl (wP (aR H.O.lD I.cC.ks.size) 0 #[] true s r false)
   rw[P];refine⟨rr,gz,w0,e1,e2,.inl ⟨rfl,rfl,λw'=>?_⟩⟩;rw[stepG_tries];have:({ gz with status:=.running }:Ah)=gz:=by rw[<- e2.1]
   rw[this]
  .rw[h]at f;cases f
 .refine I.xd (pS':=pS) (mS':=mS) I.cC.sD I.cC.nD H.O.lD ht Z W y (λ_ _=>ht.rest _ (by omega)) a4 Q j a0 a1 (λD=>?_) a3 rfl (by decide) ad;have P:woken prog a g' (w.setChan C.A.cD 0 #[] true s r false) c=c:=by
   rcases SB.status I.sb with h|⟨h,_⟩|h
   .exact woken_run h
   .exact bx h f
   .exact Gi h
  rw[P];exact Pt D f
end
end
section
open Go.ConcN (sumTo upd upd_same upd_ne)
def Cx.A1 (C:Cx)(xq:Ai × List Ai × Z)(gs:Array Ah)(w:Z)(sl:Option (Nat × Nat))(t:Trace):Prop:=
 ∃a a' u o S k to h cnt j,runT prog (crowd gs w sl) 0=(.next (crowd a w sl),u)/\jX prog (λl=>C.bW l\/iJ C.A.Wg l) a w.heap.size (t++u) o a'/\cM C.G0 0 S w xq.2.2/\(∀l,(C.bW l\/iJ C.A.Wg l)->∃f:Addr,l = .cell f/\S f.block)/\Tr (imag prog C.F) C.X C.T C.Fin xq.1 xq.2.1 xq.2.2/\
  fu (imag prog C.F) C.Fin C.I.jf xq cnt (C.fr.finish (.tuple #[to,Y ((k:Nat):Int)])) C.cs/\C.kI k to h/\Goes prog true AtRel DQ (λg _=>g=h) j a' w/\C.A.lo<=w.heap.size
section
variable {C:Cx}{xq xq':Ai × List Ai × Z}{L m:Nat}{gs:Array Ah}{w w':Z}{t:Trace}{q:Nat->Nat}{a a' c c':Ah}{S:Nat->Prop}{Zo:Loc->Prop}{k:Nat}{sc rc:Bool}{gc d0 dz:Nat}{said:Bool}{cnt:Nat}{zf:Ai}{zs:List Ai}{pR mR pS mS pR' mR' d0':Nat}{sl:Option (Nat × Nat)}{es:Array Event}{to:D}{g:Ah}
def KU:∀gc,gc<=4->gc≠4->(th gc).2=0
 |0,_,_|1,_,_|2,_,_|3,_,_=>rfl
 |4,_,h=>bx rfl h
def Cx.Inv.Rb (I:C.Inv xq L m gs w t q a c S Zo k sc rc gc d0 dz said cnt zf zs 7 mR pS mS):C.dE 0 xq L m gs w sl t:=by
 obtain⟨to,r,g,f,D⟩:=I.rb;rcases fR D (nl _ _)with⟨_,N,j,m1,o⟩|⟨M,a',w',es,rfl,j,y,o⟩
 .have B:d0=0:=I.rf.d0;subst B;exact I.pX j (λe l=>by simp at l;subst l;exact wi rfl) (I.dP.word I.cC.two.pos _ _ λe l=>by simp at l;subst l;rfl) (pR':=8) (mR':=m1) ⟨to,r,g,f,o⟩ ⟨I.rf.rc,λ_=>I.rf.g0 (by decide),λh=>by omega,λh=>by omega,rfl,by decide⟩ (λh=>bx h.1 (by decide)) (.inl (by simp[dD]))
 .have e:=y.1;subst e;exact I.mO j y (mR':=M) ⟨to,r,g,f,o⟩ (by decide) (by omega)
def Cx.Inv.tR (I:C.Inv xq L m gs w t q a c S Zo k sc rc gc d0 dz said cnt zf zs pR mR pS mS)(H:C.Ok)(g:stepG prog true a w = .go a' w #[rd (stA C.A.Wg)])(j:C.RB S Zo k sc gc zf zs w a' pR' mR')(l:RF pR' rc gc d0)(hp:pR'≠1)(o:dD C.A.n k pR'<dD C.A.n k pR):C.dE 0 xq L m gs w sl t:=
 I.pX g (λe f=>by simp at f;subst f;exact wh H.O I.cC.ap I.cC.ks.size rfl _) (I.dP.zero I.cC.two.pos _ _ λe f=>by simp at f;subst f;rintro(h|h|h)<;>cases h) j l (λh=>hp h.1) (.inl o)
def Cx.Inv.Rc (I:C.Inv xq L m gs w t q a c S Zo k sc rc gc d0 dz said cnt zf zs 8 mR pS mS)(H:C.Ok):C.dE 0 xq L m gs w sl t:=by
 obtain⟨to,r,g,f,N⟩:=I.rb;rcases fR N (nl _ _)with⟨_,D,M⟩|⟨P,a',w',es,rfl,j,y,o⟩
 .have l:=I.sh.wg;rcases I.rf.g0 (by decide)with e|e
  .rw[e]at l;obtain⟨B,j,m1,o⟩:=D l;exact I.tR H j (pR':=9) (mR':=m1) ⟨to,r,g,f,o⟩ ⟨I.rf.rc,λ_=>.inl e,λh=>by omega,λh=>by omega,I.rf.d0,by decide⟩ (by decide) (by simp[dD])
  .rw[e]at l;obtain⟨B,j,m1,o⟩:=M l;exact I.tR H j (pR':=15) (mR':=m1) ⟨to,r,g,f,o⟩ ⟨I.rf.rc,λh=>by omega,λ_=>e,λh=>by omega,I.rf.d0,by decide⟩ (by decide) (by simp[dD])
 .have e:=y.1;subst e;exact I.mO j y (mR':=P) ⟨to,r,g,f,o⟩ (by decide) (by omega)
def Cx.Inv.Re (I:C.Inv xq L m gs w t q a c S Zo k sc rc gc d0 dz said cnt zf zs 9 mR pS mS)(H:C.Ok):C.dE 0 xq L m gs w sl t:=by
 obtain⟨to,P,j,f,Z⟩:=I.rb;rcases fR Z (nl _ _)with⟨_,Y,U⟩|⟨m',a',w',es,rfl,l,N,M⟩
 .have g:=I.sh.wg;rcases I.rf.g0 (by decide)with e|e
  .rw[e]at g;obtain⟨W,l,m1,M⟩:=Y g;have o:=g.setSt (KK+1);have B:jy C.A.Wg w (w.setCell (stA C.A.Wg) (.int .u64 (KK+1))):=oS g rfl o;have ap:=H.O.apart;have Q:=I.cC.ks.group H.O B.size B.rest o;have ad:pS<=6:=by have U:=I.sf.g2;have h3:=I.sf.g3;have h4:=I.sf.g4;have:=I.sf.p;omega
   have y:Sh C.A sc rc 1 (w.setCell (stA C.A.Wg) (.int .u64 (KK+1))):=by obtain⟨s,r,hS⟩:=I.sh.gN;obtain⟨s',r',N⟩:=I.sh.iO;exact⟨⟨s,r,(B.rest _ (by omega)).trans hS⟩,⟨s',r',(B.rest _ (by omega)).trans N⟩,o⟩
   refine I.xd (pS':=pS) (mS':=mS) (pR':=11) (mR':=m1) (d0':=d0) I.cC.sW I.cC.nW H.O.lW B Q l (λe D=>?_) (λh=>by omega) (I.dP.zero I.cC.two.pos _ _ λe D=>?_) y I.fA ⟨to,P,j,f,M⟩ ⟨I.rf.rc,λh=>by omega,λh=>by omega,λ_ _=>by omega,I.rf.d0,by decide⟩ (λR=>?_) ?_ rfl (by decide) (by simp[dD])
   .simp at D;rcases D with rfl|rfl<;>exact wh H.O I.cC.ap I.cC.ks.size rfl _
   .simp at D;rcases D with rfl|rfl<;>(rintro(h|h|h)<;>cases h)
   .rw[I.nH _ _ y.gN y.iO];exact R
   .exact { I.sf with g1:=λ_=>by decide,g2:=λh=>by omega,g3:=λh=>by omega,g4:=λh=>by omega }
  .rw[e]at g;obtain⟨W,l,m1,M⟩:=U g;exact I.tR H l (pR':=10) (mR':=m1) ⟨to,P,j,f,M⟩ ⟨I.rf.rc,λh=>by omega,λ_=>e,λh=>by omega,I.rf.d0,by decide⟩ (by decide) (by simp[dD])
 .have e:=N.1;subst e;exact I.mO l N (mR':=m') ⟨to,P,j,f,M⟩ (by decide) (by omega)
def Cx.Inv.Q5 (I:C.Inv xq L m gs w t q a c S Zo k sc rc gc d0 dz said cnt zf zs 10 mR pS mS)(H:C.Ok):C.dE 0 xq L m gs w sl t:=by
 obtain⟨to,r,g,f,D⟩:=I.rb;rcases fR D (nl _ _)with⟨_,B⟩|⟨M,a',w',es,rfl,j,y,o⟩
 .have l:=I.sh.wg;have e:=I.rf.g5 (.inl rfl);rw[e]at l;obtain⟨N,j,m1,o⟩:=B l;exact I.tR H j (pR':=15) (mR':=m1) ⟨to,r,g,f,o⟩ ⟨I.rf.rc,λh=>by omega,λ_=>e,λh=>by omega,I.rf.d0,by decide⟩ (by decide) (by simp[dD])
 .have e:=y.1;subst e;exact I.mO j y (mR':=M) ⟨to,r,g,f,o⟩ (by decide) (by omega)
def Cx.Inv.Q6 (I:C.Inv xq L m gs w t q a c S Zo k sc rc gc d0 dz said cnt zf zs 11 mR pS mS)(H:C.Ok):C.dE 0 xq L m gs w sl t:=by
 obtain⟨to,r,g,f,B⟩:=I.rb;rcases fR B (wL _ _)with⟨_,M,j,m1,o⟩|⟨D,a',w',es,rfl,j,y,o⟩
 .exact I.pX j (λe l=>by simp at l;subst l;exact M5 H.O I.cC.ap I.cC.ks.size rfl _ _) (I.dP.zero I.cC.two.pos _ _ λe l=>by simp at l;subst l;rintro(h|h|h)<;>cases h) (pR':=12) (mR':=m1) ⟨to,r,g,f,o⟩ ⟨I.rf.rc,λh=>by omega,λh=>by omega,λ_ _=>I.rf.gw (by decide) (by decide),I.rf.d0,by decide⟩ (λh=>bx h.1 (by decide)) (.inl (by simp[dD]))
 .have e:=y.1;subst e;exact I.mO j y (mR':=D) ⟨to,r,g,f,o⟩ (by decide) (by omega)
def Cx.Inv.Gc (I:C.Inv xq L m gs w t q a c S Zo k sc rc gc d0 dz said cnt zf zs 13 mR pS mS)(H:C.Ok)(N:a.status = .running):C.dE 0 xq L m gs w sl t:=by
 obtain⟨to,U,g,w0,o,f,W,hw⟩:=I.rb;rcases hw with⟨rfl,rfl⟩|⟨_,rfl,_⟩
 rotate_left
 .cases N
 obtain⟨g1,g2,g3⟩:=W;have j:=I.sh.wg;have P:=I.rf.gw (by decide) (by decide)
 by_cases Y:gc=4
 .subst Y;obtain⟨g',y,m1,hn⟩:=(g3 w).2 j;have l:WgAt C.A.tWg C.A.Wg _ 0 0:=j.setSm 0;have D:jy C.A.Wg w (w.setCell (smA C.A.Wg) (.int .u32 0)):=oS j rfl l;have ap:=H.O.apart;have Q:=I.cC.ks.group H.O D.size D.rest l;have M:pS=10:=by have h1:=I.sf.g1;have h2:=I.sf.g2;have W:=I.sf.g3;have:=I.sf.p;omega
  subst M;have B:Sh C.A sc rc 5 (w.setCell (smA C.A.Wg) (.int .u32 0)):=by obtain⟨s,r,hS⟩:=I.sh.gN;obtain⟨s',r',Z⟩:=I.sh.iO;exact⟨⟨s,r,(D.rest _ (by omega)).trans hS⟩,⟨s',r',(D.rest _ (by omega)).trans Z⟩,l⟩
  refine I.xd (pS':=10) (mS':=mS) (pR':=14) (mR':=m1) (d0':=d0) I.cC.sW I.cC.nW H.O.lW D Q y (M6 H.O I.cC.ap I.cC.ks.size) (λh=>by omega) (I.dP.Px I.cC.two.pos _ _ _) B I.fA ⟨to,U,o,f,hn⟩ ⟨I.rf.rc,λh=>by omega,λ_=>rfl,λh=>by omega,I.rf.d0,by decide⟩ (λR=>?_) ?_ rfl (by decide) (by simp[dD])
  .rw[I.nH _ _ B.gN B.iO];exact R
  .exact { I.sf with g1:=λh=>by omega,g2:=λh=>by omega,g3:=λh=>by omega,g4:=λ_=>.inr rfl }
 .have y:=(g3 w).1 ⟨_,by rw[KU gc P.2 Y]at j;exact j⟩
  exact I.pX y (by simp) (I.dP.zero I.cC.two.pos _ _ (by simp)) (pR':=13) (mR':=0) ⟨to,U,a,w0,o,f,⟨g1,g2,g3⟩,.inr ⟨rfl,rfl,by omega⟩⟩ I.rf (λh=>bx h.1 (by decide)) (.inr ⟨rfl,by decide⟩)
def Cx.Inv.Q7 (I:C.Inv xq L m gs w t q a c S Zo k sc rc gc d0 dz said cnt zf zs 12 mR pS mS)(H:C.Ok):C.dE 0 xq L m gs w sl t:=by
 obtain⟨to,r,g,f,N⟩:=I.rb;rcases fR N (wL _ _)with M|⟨Q,a',w',es,rfl,l,y,P⟩
 .obtain⟨g1,g2,g3⟩:=M;have o:=I.rf.gw (by decide) (by decide);have h1:=I.gW;have h2:=I.eL;have e1:dD C.A.n k 13<dD C.A.n k 12:=by simp[dD]
  have B:C.Inv xq (dD C.A.n k 13+ee C.A.n k pS) (1+2*mS+2*sumTo gs.size q) gs w t q a c S Zo k sc rc gc d0 dz said cnt zf zs 13 1 pS mS:=
   ⟨I.cC,I.dP,I.sh,I.fA,⟨to,r,a,w,g,f,⟨g1,g2,g3⟩,.inl ⟨rfl,rfl⟩⟩,⟨I.rf.rc,λh=>by omega,λh=>by omega,λ_ _=>o,I.rf.d0,by decide⟩,I.sb,I.sf,λh=>bx h.1 (by decide),rfl,rfl,by omega,I.ef⟩
  obtain⟨j,w',u,Z,xq',D,R,U,W,Y⟩:=B.Gc (sl:=sl) H g1;exact⟨j,w',u,Z,xq',D,R,U,W,Y.imp id λ⟨e,h⟩=>⟨e,.inl (by rcases h with h|h<;>omega)⟩⟩
 .have e:=y.1;subst e;exact I.mO l y (mR':=Q) ⟨to,r,g,f,P⟩ (by decide) (by omega)
def Cx.Inv.Q8 (I:C.Inv xq L m gs w t q a c S Zo k sc rc gc d0 dz said cnt zf zs 14 mR pS mS)(H:C.Ok):C.dE 0 xq L m gs w sl t:=by
 obtain⟨to,r,g,f,D⟩:=I.rb;rcases fR D ⟨_,rfl⟩with⟨_,B⟩|⟨M,a',w',es,rfl,j,y,o⟩
 .have l:=I.sh.wg;have e:=I.rf.g5 (.inr (by decide));rw[e]at l;obtain⟨N,j,m1,o⟩:=B l;exact I.tR H j (pR':=15) (mR':=m1) ⟨to,r,g,f,o⟩ ⟨I.rf.rc,λh=>by omega,λ_=>e,λh=>by omega,I.rf.d0,by decide⟩ (by decide) (by simp[dD])
 .have e:=y.1;subst e;exact I.mO j y (mR':=M) ⟨to,r,g,f,o⟩ (by decide) (by omega)
def Cx.Inv.Q9 (I:C.Inv xq L m gs w t q a c S Zo k sc rc gc d0 dz said cnt zf zs 15 mR pS mS):C.dE 0 xq L m gs w sl t:=by
 obtain⟨to,r,g,f,D⟩:=I.rb;rcases fR D ⟨_,rfl⟩with⟨_,N,j,m1,o⟩|⟨M,a',w',es,rfl,j,y,o⟩
 .have B:d0=1:=I.rf.d0;subst B;exact I.pX j (λe l=>by simp at l;subst l;exact wi rfl) (I.dP.word I.cC.two.pos _ _ λe l=>by simp at l;subst l;rfl) (pR':=16) (mR':=m1) ⟨to,r,g,f,o⟩ ⟨I.rf.rc,λh=>by omega,λ_=>I.rf.g5 (.inr (by decide)),λh=>by omega,rfl,by decide⟩ (λh=>bx h.1 (by decide)) (.inl (by simp[dD]))
 .have e:=y.1;subst e;exact I.mO j y (mR':=M) ⟨to,r,g,f,o⟩ (by decide) (by omega)
def Cx.Inv.Ra (I:C.Inv xq L m gs w t q a c S Zo k sc rc gc d0 dz said cnt zf zs 16 mR pS mS)(H:C.Ok):C.dE 0 xq L m gs w sl t\/C.A1 xq gs w sl t:=by
 obtain⟨to,gr,M,B,hg⟩:=I.rb;rcases fR hg ⟨_,rfl⟩with⟨_,g',o,m1,hn⟩|⟨m',a',w',es,rfl,o,hD,hn⟩
 .refine .inr ?_
  replace o:stepG prog true a w = .go g' w #[Go.ConcX.mk (.acquire (stA C.A.Wg))]:=o
  have am:=I.rf.g5 (.inr (by decide));have W:pS=10:=by have h1:=I.sf.g1;have h2:=I.sf.g2;have h3:=I.sf.g3;have:=I.sf.p;omega
  subst W;have y:said=true:=by have:=I.sf.said;simpa using this
  obtain⟨Z,hr,an,f⟩:=I.cC.EB (sl:=sl) o (λe R=>by simp at R;subst R;exact M1 H.O I.cC.ks.size rfl);rw[I.nH _ _ I.sh.gN I.sh.iO]at f;have U:gC a #[Go.ConcX.mk (.acquire (stA C.A.Wg))]=#[{ g:=0,fn:=a.frame.fn,pos:=a.frame.place,act:=.mark (.acquire (stA C.A.Wg)) }]:=by simp[gC,ofEvents_eq,Go.ConcX.mk,MemAct.ofEvent]
  have P:dN C.A.Wg C.z d0 dz said (t++gC a #[Go.ConcX.mk (.acquire (stA C.A.Wg))]):=I.dP.zero I.cC.two.pos _ _ λe R=>by simp at R;subst R;rintro(h|h|h)<;>cases h
  obtain⟨r,t1,t2,t3,t4,t5⟩:=P.told y;obtain⟨r0,u1,u2,u3,u4,u5⟩:=I.dP.told y;have Q:d0=0:=I.rf.d0;have D:(t++gC a #[Go.ConcX.mk (.acquire (stA C.A.Wg))])[t.size]?=some { g:=0,fn:=a.frame.fn,pos:=a.frame.place,act:=.mark (.acquire (stA C.A.Wg)) }:=by rw[U];simp
  have Y:r<t.size:=by have:=uQ t1;rw[U]at this;simp at this;refine Nat.lt_of_le_of_ne (by omega) λe=>?_;subst e;rw[Trace.act?,D]at t1;simp at t1
  have N:=f.pt.join t1 t2 t3 t4 (q:=t.size) (by rw[Trace.act?,D];rfl) (by rw[Trace.g?,D];rfl) ⟨0,by rw[Trace.g?,D];rfl,by rw[deaf_old (aW _)];exact I.dP.d0.trans Q⟩ Y (λj h _=>t5 j h) (P.d0.trans Q);obtain⟨rfl,rfl⟩:=M;refine⟨Z,g',_,upd q C.z mS,S,k,to,gr,cnt,m1,hr,⟨f.two.g0,⟨λj x hj hx=>?_,f.two.above⟩,N⟩,f.fV,λl hl=>?_,f.tr,I.fA,B,hn,f.ks.size⟩
  .by_cases hz:j=C.z
   .subst hz;rw[f.two.gz]at hx;cases hx;rw[upd_same,P.dz];exact I.sb
   .rw[upd_ne q mS hz];exact f.two.old j x (by omega) hz hx
  .rcases hl with hl|⟨ad,e,hb⟩
   .exact f.fN l hl
   .exact⟨ad,e,by rw[hb];exact f.sW⟩
 .have e:=hD.1;subst e;exact .inl (I.mO o hD (mR':=m') ⟨to,gr,M,B,hn⟩ (by decide) (by omega))
end
end
section
open Go.ConcN (sumTo upd upd_same upd_ne)
section
variable {C:Cx}{xq xq':Ai × List Ai × Z}{L m:Nat}{gs:Array Ah}{w w':Z}{t:Trace}{q:Nat->Nat}{a a' c c':Ah}{S:Nat->Prop}{Zo:Loc->Prop}{k:Nat}{sc rc:Bool}{gc d0 dz:Nat}{said:Bool}{cnt:Nat}{zf:Ai}{zs:List Ai}{pR mR pS mS pR' mR' pS' mS' dz':Nat}{said':Bool}{sl:Option (Nat × Nat)}{es:Array Event}{to:D}{g:Ah}
def Cx.Inv.Qc (I:C.Inv xq L m gs w t q a c S Zo k sc rc gc d0 dz said cnt zf zs 0 mR pS mS)(H:C.Ok)(g:a.status = .running):C.dE 0 xq L m gs w sl t:=by
 obtain⟨to,o,f,rfl,B⟩:=I.rb;rcases fR B (la _ _)with j|⟨o,a',w',es,rfl,l,r,D⟩
 .by_cases hm:(k:Int)<C.cn
  .have M:=I.em;have y:C.Inv xq L (1+2*mS+2*sumTo gs.size q) gs w t q a c S Zo k sc rc gc d0 dz said cnt zf zs 1 1 pS mS:=
    ⟨I.cC,I.dP,I.sh,I.fA,⟨hm,to,a,w,f,j,.inl ⟨rfl,g,λ_=>rfl⟩⟩,⟨I.rf.rc,λ_=>I.rf.g0 (by decide),λh=>by omega,λh=>by omega,I.rf.d0,by decide⟩,I.sb,I.sf,λh=>bx h.2.1 (by decide),I.eL,rfl,I.gW,I.ef⟩
   exact(y.EP (sl:=sl) H g).mono (by omega)
  .exact I.BJ H (by decide) f (.inl hm) (Po hm I.sf.kn j)
 .have e:=r.1;subst e;exact I.zY H l r (mR':=o+2) ⟨to,o,f,rfl,D⟩ (by decide) (by omega)
def Cx.Inv.IJ (I:C.Inv xq L m gs w t q a c S Zo k sc rc gc d0 dz said cnt zf zs 6 mR pS mS)(H:C.Ok):C.dE 0 xq L m gs w sl t:=by
 obtain⟨y,to,b,g,f,M⟩:=I.rb;rcases fR M (pZ _ _ _)with o|⟨P,a',w',es,rfl,r,l,N⟩
 .exact I.BJ H (by decide) g (.inr y) o
 .refine I.Bq H f r l (pR':=6) (mR':=P) ⟨y,to,b,g,?_,N⟩ I.rf (by decide) (.inr ⟨rfl,by omega⟩);obtain⟨R,Q,B,h⟩:=f.row;obtain⟨j,D⟩:=l.1.row _ _ _ h;exact⟨f.s,f.lo,by rw[l.1.size];exact f.lt,f.zo,⟨j,Q,B,D⟩⟩
def Cx.Inv.Qf (I:C.Inv xq L m gs w t q a c S Zo k sc rc gc d0 dz said cnt zf zs pR mR pS mS)(H:C.Ok)(f:a.status = .running):C.dE 0 xq L m gs w sl t\/C.A1 xq gs w sl t:=by
 have hp:=I.rf.p
 by_cases e:pR=0
 .subst e;exact .inl (I.Qc H f)
 by_cases e:pR=1
 .subst e;exact .inl (I.EP H f)
 by_cases e:pR=2
 .subst e;exact .inl (I.G5 H)
 by_cases e:pR=3
 .subst e;exact .inl (I.call3 H)
 by_cases e:pR=4
 .subst e;exact .inl (I.Mh H)
 by_cases e:pR=5
 .subst e;exact .inl (I.G6 H)
 by_cases e:pR=6
 .subst e;exact .inl (I.IJ H)
 by_cases e:pR=7
 .subst e;exact .inl I.Rb
 by_cases e:pR=8
 .subst e;exact .inl (I.Rc H)
 by_cases e:pR=9
 .subst e;exact .inl (I.Re H)
 by_cases e:pR=10
 .subst e;exact .inl (I.Q5 H)
 by_cases e:pR=11
 .subst e;exact .inl (I.Q6 H)
 by_cases e:pR=12
 .subst e;exact .inl (I.Q7 H)
 by_cases e:pR=13
 .subst e;exact .inl (I.Gc H f)
 by_cases e:pR=14
 .subst e;exact .inl (I.Q8 H)
 by_cases e:pR=15
 .subst e;exact .inl I.Q9
 have e:pR=16:=by omega
 subst e;exact I.Ra H
/-! ### the Fi -/
def RB.qe {p m:Nat}(h:C.RB S Zo k sc gc zf zs w' a p m)(hS:p=1->m=0->∃s r,w'.heap[C.A.cS]?=some (.chan 0 #[] false s r false))(x M:Ah):∃D,C.RB S Zo k sc gc zf zs w' (woken prog x M w' a) p D/\D<=m+1/\(p=1->D=m):=by
 rcases RB.status h with Q|⟨_,rfl,rfl,_⟩|⟨_,rfl,rfl,B⟩
 .rw[woken_run Q];exact⟨m,h,by omega,λ_=>rfl⟩
 .obtain⟨l,to,g,y,o,j,f⟩:=h;rcases f with⟨f,_⟩|⟨_,rfl,P⟩
  .cases f
  .obtain⟨s,r,hS⟩:=hS rfl rfl;have:woken prog x M w' (parked g (take C.A.meet) (.recv true))=parked g (take C.A.meet) (.recv true):=woken_recv_open x M hS;rw[this];exact⟨0,⟨l,to,g,y,o,j,.inr ⟨rfl,rfl,P⟩⟩,by omega,λ_=>rfl⟩
 .obtain⟨to,N,g,y,l,o,j,f⟩:=h;rcases f with⟨f,_⟩|⟨_,rfl,_⟩
  .cases f
  .unfold woken;split
   .rw[Go.ConcX.again_blocked j.1 j.2.1];exact⟨1,⟨to,N,g,y,l,o,j,.inl ⟨rfl,rfl⟩⟩,by omega,λh=>by cases h⟩
   .exact⟨0,⟨to,N,g,y,l,o,j,.inr ⟨rfl,rfl,B⟩⟩,by omega,λh=>by cases h⟩
def Cx.Inv.wo (I:C.Inv xq L m gs w t q a c S Zo k sc rc gc d0 dz said cnt zf zs pR mR pS mS)(h:Sh C.A sc rc gc w'):pR=1->mR=0->∃s r,w'.heap[C.A.cS]?=some (.chan 0 #[] false s r false):=by
 rintro rfl rfl;obtain⟨_,to,g,l,_,_,f⟩:=I.rb;rcases f with⟨f,_⟩|⟨_,_,j⟩
 .cases f
 .have:=h.gN;rw[j]at this;exact this
def Cx.Inv.rD (I:C.Inv xq L m gs w t q a c S Zo k sc rc gc d0 dz said cnt zf zs pR mR pS mS)(j:stepG prog false c w = .go c' w es)(B:∀e∈es,ku C.bW Zo C.A.meet.Rd C.A.Wg w.heap.size (MemAct.ofEvent e))(ht:dN C.A.Wg C.z d0 dz' said' (t++jC C.z c es))(r:C.SB S Zo k rc dz' w c' pS' mS')(y:SF C.A.n k pS' sc rc gc dz' said')
  (hb:¬(pS'=2/\mS'=0)) (R:ee C.A.n k pS'<ee C.A.n k pS\/(ee C.A.n k pS'=ee C.A.n k pS/\mS'<mS)):C.dE C.z xq L m gs w sl t:=by
 obtain⟨g,M,l,f⟩:=I.cC.Oz (sl:=sl) j B;obtain⟨mR',o,D,_⟩:=RB.qe I.rb (I.wo I.sh) c c';have N:=I.gW;have P:=I.eL;have Q:=I.em;refine⟨g,w,_,q,xq,_,_,M,⟨_,c',S,Zo,k,sc,rc,gc,d0,dz',said',cnt,zf,zs,pR,mR',pS',mS',⟨f,ht,I.sh,I.fA,o,I.rf,r,y,λh=>hb h.2.2,rfl,rfl,by omega,I.ef⟩⟩,.inr ⟨rfl,?_⟩⟩;rw[l];omega
def wK {M:dI}(h:w'.heap[M.Wg]?=w.heap[M.Wg]?):RA M w w':=⟨λk=>k.imp (λx=>h.trans x) λx=>h.trans x,λx=>h.trans x⟩
def wM {M:dI}(h:w'.heap[M.Wg]?=w.heap[M.Wg]?):Go.Proofs.YthbdpfccfcceiaaGreatDoor.RB M w w':=λk=>k.imp (λx=>h.trans x) (·.imp (λx=>h.trans x) (·.imp (λx=>h.trans x) λx=>h.trans x))
def Cx.Inv.Od(I:C.Inv xq L m gs w t q a c S Zo k sc rc gc d0 dz false cnt zf zs pR mR pS mS)(H:C.Ok)(B:(∀a l,o≠.number a l)/\∀a t,o≠.view a t)(M:stepG prog false c w = .go c' (cy w o) #[])(Z:gc≠5)(R:C.SB (λj=>S j\/j=w.heap.size) (λl=>Zo l\/iJ w.heap.size l) k rc dz (cy w o) c' pS' mS')(U:SF C.A.n k pS' sc rc gc dz false)
  (hb:¬(pS'=2/\mS'=0)) (hd:ee C.A.n k pS'<ee C.A.n k pS):C.dE C.z xq L m gs w sl t:=by
 obtain⟨xq',τ,d,Y,r2,r3⟩:=I.fA.push H.H.nt (Dc H I);obtain⟨D,hr,am,f⟩:=I.cC.Oe (sl:=sl) H.O H.G B M r3 (oR Y I.cC.tr);have g:=I.cC.ks;have lo:∀j,j<C.A.lo->(cy w o).heap[j]?=w.heap[j]?:=λj hj=>gD w o (aR hj g.size)
 have r:Sh C.A sc rc gc (cy w o):=I.sh.jG (lo _ H.O.lS) (lo _ H.O.lD) (lo _ H.O.lW);have Q:C.RB (λj=>S j\/j=w.heap.size) (λl=>Zo l\/iJ w.heap.size l) k sc gc zf zs (cy w o) a pR mR:=by
  refine RB.env I.rb (λ_=>f.ks) (λb hb=>?_) (λ_ _=>wK (lo _ H.O.lW)) (λ_ _=>wM (lo _ H.O.lW)) (λ_ _ h=>h) (λh=>bx (I.rf.g5 (.inr h)) Z);have e:=gD w o hb.lt;refine⟨⟨.inl hb.s,hb.lo,by rw[dW];have:=hb.lt;omega,λx hx N=>?_,by rw[e];exact hb.row⟩,e⟩;rcases N with N|⟨y,e,hy⟩
  .exact hb.zo x hx N
  .cases e;have:=hb.lt;omega
 obtain⟨mR',P,ad,_⟩:=RB.qe Q (I.wo r) c c';have h1:=I.gW;have h2:=I.eL;refine⟨D,_,_,q,xq',_,_,hr,⟨_,c',_,_,k,sc,rc,gc,d0,dz,false,cnt+1,zf,zs,pR,mR',pS',mS',⟨f,I.dP.before I.cC.two.pos _ _ (by simp),r,r2,P,I.rf,R,U,λh=>hb h.2.2,rfl,rfl,by omega,λea W B hs=>hs.elim (I.ef ea W B) λe=>?_⟩⟩,.inl Y⟩;have:=H.O.le ea W B;have:=g.size;omega
def Cx.Inv.Hh (I:C.Inv xq L m gs w t q a c S Zo k sc rc gc d0 dz false cnt zf zs pR mR pS mS)(H:C.Ok){b:Nat}(f:pp C.A S Zo b w)(M:stepG prog false c w = .go c' w' es)(o:Dz C.A.meet b w w' es)(hg:gc≠5)(U:C.SB S Zo k rc dz w' c' pS' mS')(W:SF C.A.n k pS' sc rc gc dz false)
  (hb:¬(pS'=2/\mS'=0)) (hd:ee C.A.n k pS'<ee C.A.n k pS\/(ee C.A.n k pS'=ee C.A.n k pS/\mS'<mS)):C.dE C.z xq L m gs w sl t:=by
 obtain⟨D,hr,P,l⟩:=I.cC.Hi (sl:=sl) H.O f.s f.lo f.lt f.zo f.row M o;have lo:∀j,j<C.A.lo->w'.heap[j]?=w.heap[j]?:=λj hj=>o.1.rest j (by have:=f.lo;omega)
 have r:Sh C.A sc rc gc w':=I.sh.jG (lo _ H.O.lS) (lo _ H.O.lD) (lo _ H.O.lW);have R:C.RB S Zo k sc gc zf zs w' a pR mR:=by
  refine RB.env I.rb (λ_=>l.ks) (λB g=>?_) (λ_ _=>wK (lo _ H.O.lW)) (λ_ _=>wM (lo _ H.O.lW)) (λ_ _ h=>h) (λh=>bx (I.rf.g5 (.inr h)) hg);have N:B≠b:=λe=>by subst e;exact g.zo ⟨B,0,none⟩ rfl (f.zo ⟨B,0,none⟩ rfl)
  have e:=o.1.rest B N;exact⟨⟨g.s,g.lo,by rw[o.1.size];exact g.lt,g.zo,by rw[e];exact g.row⟩,e⟩
 obtain⟨mR',Q,ad,_⟩:=RB.qe R (I.wo r) c c';have h1:=I.gW;have h2:=I.eL;have h3:=I.em;have Y:∀e∈es,¬so C.A.Wg e:=λe Z=>by rcases o.2 e Z with⟨x,rfl,_⟩|⟨x,y,rfl,_⟩<;>(rintro(h|h|h)<;>cases h)
 refine⟨D,_,_,q,xq,_,_,hr,⟨_,c',S,Zo,k,sc,rc,gc,d0,dz,false,cnt,zf,zs,pR,mR',pS',mS',⟨l,I.dP.before I.cC.two.pos _ _ Y,r,I.fA,Q,I.rf,U,W,λh=>hb h.2.2,rfl,rfl,by omega,I.ef⟩⟩,.inr ⟨rfl,?_⟩⟩;rw[P];omega
def Cx.Inv.xg (I:C.Inv xq L m gs w t q a c S Zo k sc rc gc d0 dz said cnt zf zs pR mR pS mS)(H:C.Ok)(j:jy C.A.Wg w w'){gc':Nat}(D:WgAt C.A.tWg C.A.Wg w' (th gc').1 (th gc').2)(R:stepG prog false c w = .go c' w' es)(he:∀e∈es,ku C.bW Zo C.A.meet.Rd C.A.Wg w.heap.size (MemAct.ofEvent e))(an:dN C.A.Wg C.z d0 dz said (t++jC C.z c es))
  (hA:7<=pR->pR<=10->RA C.A.meet w w') (hB:11<=pR->pR<=12->Go.Proofs.YthbdpfccfcceiaaGreatDoor.RB C.A.meet w w') (a0:pR<14) (Z:RF pR rc gc' d0) (Q:pR=13->mR=0->gc'<=3\/mayWake prog c=true/\c'.status = .running) (ad:C.SB S Zo k rc dz w' c' pS' mS') (am:SF C.A.n k pS' sc rc gc' dz said) (hb:pS'≠2) (hd:ee C.A.n k pS'<ee C.A.n k pS):C.dE C.z xq L m gs w sl t:=by
 have ap:=H.O.apart;have l:=I.cC.ks.group H.O j.size j.rest D;obtain⟨N,hr,a1,B⟩:=I.cC.QG (sl:=sl) I.cC.sW I.cC.nW j l R he;have M:Sh C.A sc rc gc' w':=by obtain⟨s,r,hS⟩:=I.sh.gN;obtain⟨s',r',hD⟩:=I.sh.iO;exact⟨⟨s,r,(j.rest _ (by omega)).trans hS⟩,⟨s',r',(j.rest _ (by omega)).trans hD⟩,D⟩
 have own:∀o,lZ C.A S Zo o w->lZ C.A S Zo o w'/\w'.heap[o]?=w.heap[o]?:=λo f=>by have e:=j.rest o (by have:=f.lo;have:=H.O.lW;omega);exact⟨⟨f.s,f.lo,by rw[j.size];exact f.lt,f.zo,by rw[e];exact f.row⟩,e⟩
 have h1:=I.gW;have h2:=I.eL;have key:∃mR',C.RB S Zo k sc gc' zf zs w' (woken prog c c' w' a) pR mR':=by
  by_cases hx:pR=13/\mR=0
  .obtain⟨rfl,rfl⟩:=hx;rcases Q rfl rfl with h|⟨h3,y⟩
   .obtain⟨W,h,_⟩:=RB.qe (RB.env (gc':=gc') I.rb (λ_=>l) own hA hB (λ_ _ _=>h) λh=>by omega) (λh=>by cases h) c c';exact⟨W,h⟩
   .obtain⟨to,gr,g,w0,e1,e2,e3,e4⟩:=I.rb;rcases e4 with⟨e4,_⟩|⟨_,rfl,_⟩
    .cases e4
    .have U:woken prog c c' w' { g with status:=.blocked }=g:=by unfold woken;rw[h3,y];exact Go.ConcX.again_blocked e3.1 e3.2.1 w'
     rw[U];exact⟨1,to,gr,g,w0,e1,e2,e3,.inl ⟨rfl,rfl⟩⟩
  .obtain⟨W,h,_⟩:=RB.qe (RB.env (gc':=gc') I.rb (λ_=>l) own hA hB (λh P=>bx ⟨h,P⟩ hx) λh=>by omega) (λh P=>by
    subst h P;obtain⟨_,to,g,w0,_,_,y⟩:=I.rb;rcases y with⟨y,_⟩|⟨_,_,h5⟩
    .cases y
    .have:=M.gN;rw[h5]at this;exact this) c c'
   exact⟨W,h⟩
 obtain⟨mR',Y⟩:=key;exact⟨N,_,_,q,xq,_,_,hr,⟨_,c',S,Zo,k,sc,rc,gc',d0,dz,said,cnt,zf,zs,pR,mR',pS',mS',⟨B,an,M,I.fA,Y,Z,ad,am,λh=>hb h.2.2.1,rfl,rfl,by omega,I.ef⟩⟩,.inr ⟨rfl,.inl (by omega)⟩⟩
end
end
section
open Go.ConcN (sumTo upd upd_same upd_ne)
section
variable {C:Cx}{xq xq':Ai × List Ai × Z}{L m:Nat}{gs:Array Ah}{w w':Z}{t:Trace}{q:Nat->Nat}{a a' c c':Ah}{S:Nat->Prop}{Zo:Loc->Prop}{k:Nat}{sc rc:Bool}{gc d0 dz:Nat}{said:Bool}{cnt:Nat}{zf:Ai}{zs:List Ai}{pR mR pS mS pR' mR' pS' mS' dz':Nat}{said':Bool}{sl:Option (Nat × Nat)}{es:Array Event}{to:D}{g:Ah}
def As {n p f:Nat}(h:SF n k p sc rc gc dz said)(h1:p<=3)(a:f<=2\/(f=3/\(k=n\/rc=true))):SF n k f sc rc gc dz said:=by
 refine⟨h.kn,?_,?_,λh=>?_,λ_=>h.qE (by omega),λh=>by omega,λ_=>h.g1 (by omega),λh=>by omega,λh=>by omega,λh=>by omega,by omega⟩
 .rw[h.sc];simp;omega
 .rw[h.said];simp;omega
 .rcases a with a|a
  .omega
  .exact a.2
def Cx.Inv.EG (I:C.Inv xq L m gs w t q a c S Zo k sc rc gc d0 dz said cnt zf zs pR mR pS mS)(H:C.Ok)(hp:pS<=4)(j:stepG prog false c w = .go c' w' es)(o:Ds C.A.meet w w' es)(l:C.SB S Zo k rc dz w c' pS mS')(hb:pS≠2)(hm:mS'<mS):C.dE C.z xq L m gs w sl t:=by
 obtain⟨rfl,f⟩:=o;have r:said=false:=by rw[I.sf.said];simp;omega
 subst r;refine I.rD j (λe g=>DU H.O I.cC.ap I.cC.ks.size (f e g)) (I.dP.before I.cC.two.pos _ _ λe g=>?_) l I.sf (λh=>hb h.1) (.inr ⟨rfl,hm⟩);obtain⟨x,rfl,_⟩:=f e g;rintro(h|h|h)<;>cases h
def Cx.Inv.qO (I:C.Inv xq L m gs w t q a c S Zo k sc rc gc d0 dz said cnt zf zs pR mR pS mS)(f:stepG prog false c w = .go c' w' es)(j:DQ w w' es)(g:C.SB S Zo k rc dz w c' pS mS')(hb:pS≠2)(hm:mS'<mS):C.dE C.z xq L m gs w sl t:=by obtain⟨rfl,rfl⟩:=j;exact I.rD f (by simp) (I.dP.leave I.cC.two.pos _ _ (by simp)) g I.sf (λh=>hb h.1) (.inr ⟨rfl,hm⟩)
def OP {D:Bool}{p m:Nat}(h:C.RB S Zo k sc gc zf zs w a p m)(hp:p≠1):C.RB S Zo k D gc zf zs w a p m:=by
 match p,h with
 |0,⟨to,Q,j,l,h⟩=>exact⟨to,Q,j,l,h⟩
 |1,_=>exact bx rfl hp
 |2,⟨j,l,to,r,h⟩=>exact⟨j,l,to,r,h⟩
 |3,⟨j,l,to,b,r,B,h⟩=>exact⟨j,l,to,b,r,B,h⟩
 |4,⟨P,f,c,M,N,y,R,U,h⟩=>exact⟨P,f,c,M,N,y,R,U,h⟩
 |5,⟨j,to,r,h⟩=>exact⟨j,to,r,h⟩
 |6,⟨j,to,b,r,B,h⟩=>exact⟨j,to,b,r,B,h⟩
 |7,⟨to,o,j,l,h⟩=>exact⟨to,o,j,l,h⟩
 |8,⟨to,o,j,l,h⟩=>exact⟨to,o,j,l,h⟩
 |9,⟨to,o,j,l,h⟩=>exact⟨to,o,j,l,h⟩
 |10,⟨to,o,j,l,h⟩=>exact⟨to,o,j,l,h⟩
 |11,⟨to,o,j,l,h⟩=>exact⟨to,o,j,l,h⟩
 |12,⟨to,o,j,l,h⟩=>exact⟨to,o,j,l,h⟩
 |13,⟨to,o,g,W,j,l,r,h⟩=>exact⟨to,o,g,W,j,l,r,h⟩
 |14,⟨to,o,j,l,h⟩=>exact⟨to,o,j,l,h⟩
 |15,⟨to,o,j,l,h⟩=>exact⟨to,o,j,l,h⟩
 |_+16,⟨to,o,j,l,h⟩=>exact⟨to,o,j,l,h⟩
def Cx.Inv.BK (I:C.Inv xq L m gs w t q a c S Zo k sc rc gc d0 dz said cnt zf zs pR mR pS mS)(H:C.Ok)(hp:pS=0\/pS=3)(D:k=C.A.n\/rc=true)(l:mF prog C.A.meet C.K c w):C.dE C.z xq L m gs w sl t:=by
 obtain⟨R,o,l⟩:=l;obtain⟨s,r,hS⟩:=I.sh.gN;have ad:sc=false:=by rw[I.sf.sc];simp;omega
 subst ad;obtain⟨B,es,Z,M,N⟩:=l s r hS;have W:dz=0:=I.sf.qE (by omega);subst W;have hs:said=false:=by rw[I.sf.said];simp;omega
 subst hs;obtain⟨U,hr,a4,j⟩:=I.cC.IK (sl:=sl) H.O I.dP.dz Z M;have a1:=Au H.O I.cC.ks I.sh true s r;have ap:=H.O.apart;have ht:=rK w C.A.cS 0 #[] true s r false;have Y:=I.sf.g1 (by omega);have eW:=ht.rest C.A.Wg (by omega);have own:∀y,lZ C.A S Zo y w->lZ C.A S Zo y (w.setChan C.A.cS 0 #[] true s r false)/\(w.setChan C.A.cS 0 #[] true s r false).heap[y]?=w.heap[y]?:=λy f=>by have e:=ht.rest y (by have:=f.lo;have:=H.O.lS;omega);exact⟨⟨f.s,f.lo,by rw[ht.size];exact f.lt,f.zo,by rw[e];exact f.row⟩,e⟩
 have Q:=RB.env (gc':=gc) I.rb (λ_=>j.ks) own (λ_ _=>wK eW) (λ_ _=>wM eW) (λ_ _ h=>h) (λh=>by have:=I.rf.g5 (.inr h);omega);have P:B.status = .running:=ep N (mr _ _) λ_ _ h=>h.1
 have a3:dN C.A.Wg C.z d0 0 false (t++jC C.z c es):=I.dP.before I.cC.two.pos _ _ λe he=>by rintro(h|h|h)<;>(rw[(M e he).1]at h;cases h)
 have a0:SF C.A.n k 4 true rc gc 0 false:=⟨I.sf.kn,rfl,rfl,λ_=>D,λ_=>rfl,λh=>by omega,λ_=>Y,λh=>by omega,λh=>by omega,λh=>by omega,by decide⟩;have hd:ee C.A.n k 4<ee C.A.n k pS:=by
  rcases hp with rfl|rfl
  .simp only[ee];omega
  .simp[ee]
 have b1:=I.gW;have b2:=I.eL;have key:∃mR',C.RB S Zo k true gc zf zs (w.setChan C.A.cS 0 #[] true s r false) (woken prog c B (w.setChan C.A.cS 0 #[] true s r false) a) pR mR':=by
  by_cases R:pR=1
  .subst R;obtain⟨e1,to,g,w0,e2,e3,e4⟩:=Q;obtain⟨q1,q2,q3,_,_⟩:=Aq e1 I.sf.kn e3;rcases e4 with⟨e4,e5,e6⟩|⟨_,rfl,_⟩
   .rw[woken_run e5];exact⟨1,e1,to,g,w0,e2,e3,.inl ⟨rfl,e5,e6⟩⟩
   .have am:woken prog c B (w.setChan C.A.cS 0 #[] true s r false) (parked g (take C.A.meet) (.recv true))={ parked g (take C.A.meet) (.recv true)with status:=.running }:=by unfold woken;rw[o,P];exact again_recv_closed (wP (aR H.O.lS I.cC.ks.size) 0 #[] true s r false)
    rw[am];refine⟨1,e1,to,g,w0,e2,e3,.inl ⟨rfl,rfl,λw'=>?_⟩⟩;rw[stepG_tries];have:({ g with status:=.running }:Ah)=g:=by rw[<- q1]
    rw[this]
  .obtain⟨m',h,_⟩:=RB.qe Q (λh=>bx h R) c B;exact⟨m',OP h R⟩
 obtain⟨mR',an⟩:=key;exact⟨U,_,_,q,xq,_,_,hr,⟨_,B,S,Zo,k,true,rc,gc,d0,0,false,cnt,zf,zs,pR,mR',4,C.K,⟨j,a3,a1,I.fA,an,I.rf,N,a0,λh=>bx h.2.2.1 (by decide),rfl,rfl,by omega,I.ef⟩⟩,.inr ⟨rfl,.inl (by omega)⟩⟩
def Nr (I:C.Inv xq L m gs w t q a c S Zo k sc rc gc d0 dz said cnt zf zs pR mR pS mS):pp C.A (λj=>S j\/j=w.heap.size) (λl=>Zo l\/iJ w.heap.size l) w.heap.size (cy w C.A.meet.zO):=
 ⟨.inr rfl,I.cC.ks.size,by rw[dW];omega,λx f=>.inr ⟨x,rfl,f⟩,⟨_,_,_,rB w _⟩⟩
def Cx.Inv.Py (I:C.Inv xq L m gs w t q a c S Zo k sc rc gc d0 dz said cnt zf zs pR mR 0 mS)(H:C.Ok):C.dE C.z xq L m gs w sl t:=by
 have y:Goes prog false (Rs C.A.meet) (Ds C.A.meet) (jW prog C.A.meet C.K (C.A.n-k)) mS c w:=I.sb;rcases fR y (la _ _)with f|⟨N,a',w',es,rfl,g,o,j⟩
 .have B:=I.sf.kn;cases l:C.A.n-k with
  |zero=>rw[l]at f;exact I.BK H (.inl rfl) (.inl (by omega)) f
  |succ r=>
   rw[l,BS]at f;obtain⟨_,M,g,j⟩:=f;have D:said=false:=by rw[I.sf.said];simp
   subst D;exact I.Od H AY g (by have:=I.sf.g1 (by decide);omega) (pS':=1) (mS':=C.K+2) ⟨_,r,C.K,l,rfl,Nr I,j⟩ (As I.sf (by decide) (.inl (by decide))) (λh=>bx h.1 (by decide)) (by simp only[ee];omega)
 .have e:=o.1;subst e;exact I.EG H (by decide) g o j (by decide) (by omega)
def M0 {g:Ah}(h:g.offers=none)(r:Nat)(b:Bool):offersAt { g with status:=.blocked } r b=[]:=by simp[offersAt,h]
def Cx.Inv.we (I:C.Inv xq L m gs w t q a c S Zo k sc rc gc d0 dz said cnt zf zs pR mR pS mS)(h:¬(pR=1/\mR=0))(r:Nat)(b:Bool):offersAt a r b=[]:=by
 rcases RB.status I.rb with l|⟨_,f,j,_⟩|⟨_,rfl,rfl,_⟩
 .exact tD (by rw[l];simp) r b
 .exact bx ⟨f,j⟩ h
 .obtain⟨to,o,g,y,_,_,e3,e4⟩:=I.rb;rcases e4 with⟨e4,_⟩|⟨_,rfl,_⟩
  .cases e4
  .exact M0 e3.2.1 r b
def Cx.Inv.Fg (I:C.Inv xq L m gs w t q a c S Zo k sc rc gc d0 dz said cnt zf zs pR mR 2 mS)(H:C.Ok)(R:c.status = .running):C.dE C.z xq L m gs w sl t:=by
 obtain⟨Y,gz,w0,hn,U,hz⟩:=I.sb;rcases hz with⟨rfl,_,B⟩|⟨_,rfl,_⟩
 rotate_left
 .cases R
 obtain⟨s1,s2,s3,s4,s5⟩:=U;have e:C.A.n-(Y+1)=k:=by omega
 have W:C.A.meet.n-(Y+1)=k:=e;rw[W]at s3 s4 s5;have j:stepG prog false c w = .comm gz (sr C.A.cS C.A.cD (C.A.meet.E k) C.A.meet.zv C.A.meet.zd) true .select w #[]:=(B w).trans (s3 w);obtain⟨s,r,hS⟩:=I.sh.gN;obtain⟨s',r',N⟩:=I.sh.iO;have am:sc=false:=by rw[I.sf.sc];simp
 subst am;have an:said=false:=by rw[I.sf.said];simp
 subst an;have b1:=I.gW;have b2:=I.eL;have b3:=I.em;have a1:C.A.cS≠C.A.cD:=H.O.apart.2.2.2.2.2.2.2.2.2.2.2.2.2.2
 by_cases l:pR=1/\mR=0
 .obtain⟨rfl,rfl⟩:=l;have o:rc=false:=by rw[I.rf.rc];simp
  rw[o]at N;obtain⟨hm,to,g,w1,P,a0,hw⟩:=I.rb;rcases hw with⟨hw,_⟩|⟨_,rfl,_⟩
  .cases hw
  obtain⟨g1,g2,g3,g4,g5⟩:=Aq hm I.sf.kn a0;obtain⟨y,u,Q,Z,D,f⟩:=I.cC.Mx (sl:=sl) H.O j hS N (show _=parked g #[rcase C.A.cS C.A.meet.zv] (.recv true)from rfl);refine⟨y,_,u,q,xq,_,_,Q,⟨_,_,S,Zo,k+1,false,rc,gc,d0,dz,false,cnt,zf,zs,2,C.K,0,C.K,⟨f,I.dP.met (λh=>by cases h) Z.mark,Au H.O I.cC.ks I.sh false _ _,I.fA,⟨by omega,hm,to,P,g4 (by omega) _ f.ks⟩,⟨I.rf.rc,λ_=>I.rf.g0 (by decide),λh=>by omega,λh=>by omega,I.rf.d0,by decide⟩,?_,⟨by omega,rfl,rfl,λh=>by omega,λ_=>I.sf.qE (by decide),λh=>by omega,λ_=>I.sf.g1 (by decide),λh=>by omega,λh=>by omega,λh=>by omega,by decide⟩,λh=>bx h.1 (by decide),rfl,rfl,?_,I.ef⟩⟩,.inr ⟨rfl,.inl ?_⟩⟩
  .show Goes _ _ _ _ (jW _ _ _ (C.A.n-(k+1))) _ _ _;rw[show C.A.n-(k+1)=Y by omega];exact s4 _ f.ks
  .simp only[dD,ee]at b2 ⊢;omega
  .simp only[dD,ee]at b2 ⊢;omega
 .cases o:rc with
  |true=>
   rw[o]at N;obtain⟨y,u,Q,Z,D,f⟩:=I.cC.IM (sl:=sl) j hS N (I.we l _ _) (I.we l _ _);have hd:ee C.A.n k 3<ee C.A.n k 2:=by simp only[ee];omega
   have M:C.SB S Zo k rc dz w (gz.finishComm prog (sr C.A.cS C.A.cD (C.A.meet.E k) C.A.meet.zv C.A.meet.zd) .select 1 C.A.meet.zd false) 3 C.K:=s5 w I.cC.ks;exact⟨y,w,u,q,xq,_,_,Q,⟨a,_,S,Zo,k,false,rc,gc,d0,dz,false,cnt,zf,zs,pR,mR,3,C.K,⟨f,I.dP.met (λh=>by cases h) Z.mark,I.sh,I.fA,I.rb,I.rf,M,As I.sf (by decide) (.inr ⟨rfl,.inr o⟩),λh=>bx h.2.2.1 (by decide),rfl,rfl,by omega,I.ef⟩⟩,.inr ⟨rfl,.inl (by omega)⟩⟩
  |false=>rw[o]at N;obtain⟨y,Q,D,f⟩:=I.cC.NU (sl:=sl) j hS N (I.we l _ _) (I.we l _ _);have M:C.SB S Zo k rc dz w (parked gz (sr C.A.cS C.A.cD (C.A.meet.E k) C.A.meet.zv C.A.meet.zd) .select) 2 0:=⟨Y,gz,w0,hn,⟨s1,s2,by rw[W];exact s3,by rw[W];exact s4,by rw[W];exact s5⟩,.inr ⟨rfl,by rw[e];rfl,o⟩⟩;refine⟨y,w,_,q,xq,_,_,Q,⟨a,_,S,Zo,k,false,rc,gc,d0,dz,false,cnt,zf,zs,pR,mR,2,0,⟨f,I.dP.met (λ_ op ad=>by simp at ad) (by simp),I.sh,I.fA,I.rb,I.rf,M,I.sf,λh=>l ⟨h.1,h.2.1⟩,rfl,rfl,by omega,I.ef⟩⟩,.inr ⟨rfl,.inr ⟨b2.symm,?_⟩⟩⟩;rw[D];omega
def Cx.Inv.Pz (I:C.Inv xq L m gs w t q a c S Zo k sc rc gc d0 dz said cnt zf zs pR mR 1 mS)(H:C.Ok)(g:c.status = .running):C.dE C.z xq L m gs w sl t:=by
 obtain⟨b,r,M,N,rfl,f,U⟩:=I.sb;rcases fR U (pZ _ _ _)with D|⟨M,a',w',es,rfl,y,o,B⟩
 .have h1:=I.em;have P:C.Inv xq L (mR+2*1+2*sumTo gs.size q) gs w t q a c S Zo k sc rc gc d0 dz said cnt zf zs pR mR 2 1:=
   ⟨I.cC,I.dP,I.sh,I.fA,I.rb,I.rf,⟨r,c,w,N,D,.inl ⟨rfl,g,λ_=>rfl⟩⟩,As I.sf (by decide) (.inl (by decide)),λh=>bx h.2.2.2 (by decide),I.eL,rfl,I.gW,I.ef⟩
  exact(P.Fg (sl:=sl) H g).mono (by omega)
 .have W:said=false:=by rw[I.sf.said];simp
  subst W;refine I.Hh H f y o (by have:=I.sf.g1 (by decide);omega) (pS':=1) (mS':=M+2) ⟨b,r,M,N,rfl,?_,B⟩ I.sf (λh=>bx h.1 (by decide)) (.inr ⟨rfl,by omega⟩);obtain⟨Z,Y,Q,j⟩:=f.row;obtain⟨l,R⟩:=o.1.row _ _ _ j;exact⟨f.s,f.lo,by rw[o.1.size];exact f.lt,f.zo,⟨l,Y,Q,R⟩⟩
def Cx.Inv.PC (I:C.Inv xq L m gs w t q a c S Zo k sc rc gc d0 dz said cnt zf zs pR mR 3 mS)(H:C.Ok):C.dE C.z xq L m gs w sl t:=by
 have j:Goes prog false (Rs C.A.meet) (Ds C.A.meet) (mF prog C.A.meet C.K) mS c w:=I.sb;rcases fR j (la _ _)with g|⟨o,a',w',es,rfl,f,h,l⟩
 .exact I.BK H (.inr rfl) (I.sf.done (by decide)) g
 .have e:=h.1;subst e;exact I.EG H (by decide) f h l (by decide) (by omega)
end
end
section
open Go.ConcN (sumTo upd upd_same upd_ne)
section
variable {C:Cx}{xq xq':Ai × List Ai × Z}{L m:Nat}{gs:Array Ah}{w w':Z}{t:Trace}{q:Nat->Nat}{a a' c c':Ah}{S:Nat->Prop}{Zo:Loc->Prop}{k:Nat}{sc rc:Bool}{gc d0 dz:Nat}{said:Bool}{cnt:Nat}{zf:Ai}{zs:List Ai}{pR mR pS mS pR' mR' pS' mS' dz':Nat}{said':Bool}{sl:Option (Nat × Nat)}{es:Array Event}{to:D}{g:Ah}
def Cx.Inv.Jt (I:C.Inv xq L m gs w t q a c S Zo k sc rc gc d0 dz said cnt zf zs pR mR 4 mS)(H:C.Ok):C.dE C.z xq L m gs w sl t:=by
 have B:Goes prog false (RG C.A.meet) DQ (uA prog C.A.meet) mS c w:=I.sb;rcases fR B (mr _ _)with⟨_,y,f,m1,j⟩|⟨M,a',w',es,rfl,f,o,j⟩
 .have D:said=false:=by rw[I.sf.said];simp
  subst D;have g:dz=0:=I.sf.qE (by decide);subst g;have l:C.SB S Zo k rc 0 w y 5 m1:=j;exact I.rD f (λe r=>by simp at r;subst r;exact M8 H.O I.cC.ks.size rfl) (I.dP.release I.cC.two.pos _ _) l ⟨I.sf.kn,I.sf.sc,rfl,λ_=>I.sf.done (by decide),λ_=>rfl,λh=>by omega,λ_=>I.sf.g1 (by decide),λh=>by omega,λh=>by omega,λh=>by omega,by decide⟩ (λh=>bx h.1 (by decide)) (.inl (by simp[ee]))
 .have e:=o.1;subst e;exact I.qO f o j (by decide) (by omega)
def Cx.Inv.Ju (I:C.Inv xq L m gs w t q a c S Zo k sc rc gc d0 dz said cnt zf zs pR mR 5 mS):C.dE C.z xq L m gs w sl t:=by
 have D:Goes prog false (RG C.A.meet) DQ (xG prog C.A.meet) mS c w:=I.sb;rcases fR D (mr _ _)with⟨_,B,f,m1,l⟩|⟨M,a',w',es,rfl,f,y,l⟩
 .have j:dz=0:=I.sf.qE (by decide);subst j;have o:C.SB S Zo k rc 1 w B 6 m1:=l;have r:=I.dP.leave I.cC.two.pos c.frame.fn c.frame.place (es:=#[Go.ConcX.mk .disable]) λe g=>by simp at g;subst g;rfl
  exact I.rD f (λe g=>by simp at g;subst g;exact wj rfl) r o ⟨I.sf.kn,I.sf.sc,I.sf.said,λ_=>I.sf.done (by decide),λh=>by omega,λ_ _=>rfl,λ_=>I.sf.g1 (by decide),λh=>by omega,λh=>by omega,λh=>by omega,by decide⟩ (λh=>bx h.1 (by decide)) (.inl (by simp[ee]))
 .have e:=y.1;subst e;exact I.qO f y l (by decide) (by omega)
def Cx.Inv.Jv (I:C.Inv xq L m gs w t q a c S Zo k sc rc gc d0 dz said cnt zf zs pR mR 6 mS)(H:C.Ok):C.dE C.z xq L m gs w sl t:=by
 have W:Goes prog false (RG C.A.meet) DQ (xC prog C.A.meet) mS c w:=I.sb;rcases fR W (mr _ _)with⟨_,D,M⟩|⟨m',a',w',es,rfl,j,R,Q⟩
 .have g:=I.sh.wg;have P:dz=1:=I.sf.vh (by decide) (by decide);subst P;have Y:=I.sf.g1 (by decide);have r:∀e∈#[rd (stA C.A.Wg),wr (stA C.A.Wg)],ku C.bW Zo C.A.meet.Rd C.A.Wg w.heap.size (MemAct.ofEvent e):=λe o=>by simp at o;rcases o with rfl|rfl<;>exact tF H.O I.cC.ks.size rfl _
  have y:dN C.A.Wg C.z d0 1 said (t++jC C.z c #[rd (stA C.A.Wg),wr (stA C.A.Wg)]):=I.dP.atom I.cC.two.pos (by decide) _ _ λe o=>by
   simp at o;rcases o with rfl|rfl
   .exact⟨_,_,rfl⟩
   .exact⟨_,_,rfl⟩
  have ad:pR<=13:=by have:=I.rf.g5;have:=I.rf.p;omega
  by_cases e:gc=0
  .subst e;obtain⟨B,j,q1,hq⟩:=D g;have f:WgAt C.A.tWg C.A.Wg (w.setCell (stA C.A.Wg) (.int .u64 0)) 0 0:=g.setSt 0;have N:jy C.A.Wg w (w.setCell (stA C.A.Wg) (.int .u64 0)):=oS g rfl f;have Z:pR<=9:=by have D:=I.rf.gw;have M:=I.rf.g5;omega
   have l:C.SB S Zo k rc 1 (w.setCell (stA C.A.Wg) (.int .u64 0)) B 10 q1:=hq;refine I.xg H N (gc':=5) f j r y (λ_ _=>⟨λ_=>.inr f,λ_=>f⟩) (λh=>by omega) (by omega) ⟨I.rf.rc,λ_=>.inr rfl,λ_=>rfl,λh=>by omega,I.rf.d0,I.rf.p⟩ (λh=>by omega) l ⟨I.sf.kn,I.sf.sc,I.sf.said,λ_=>I.sf.done (by decide),λh=>by omega,λh=>by omega,λh=>by omega,λh=>by omega,λh=>by omega,λ_=>.inr rfl,by decide⟩ (by decide) (by simp[ee])
  .have e:gc=1:=by omega
   subst e;obtain⟨B,j,m1,Q⟩:=M g;have f:WgAt C.A.tWg C.A.Wg (w.setCell (stA C.A.Wg) (.int .u64 1)) 1 0:=g.setSt 1;have N:jy C.A.Wg w (w.setCell (stA C.A.Wg) (.int .u64 1)):=oS g rfl f;have U:11<=pR:=by have D:=I.rf.g0;have M:=I.rf.g5;omega
   have l:C.SB S Zo k rc 1 (w.setCell (stA C.A.Wg) (.int .u64 1)) B 7 m1:=Q;refine I.xg H N (gc':=2) f j r y (λ_ h=>by omega) (λ_ _=>λ_=>.inr (.inl f)) (by omega) ⟨I.rf.rc,λh=>by omega,λh=>by omega,λ_ _=>by omega,I.rf.d0,I.rf.p⟩ (λ_ _=>.inl (by decide)) l ⟨I.sf.kn,I.sf.sc,I.sf.said,λ_=>I.sf.done (by decide),λh=>by omega,λ_ _=>rfl,λh=>by omega,λ_=>rfl,λh=>by omega,λh=>by omega,by decide⟩ (by decide) (by simp[ee])
 .have e:=R.1;subst e;exact I.qO j R Q (by decide) (by omega)
def Cx.Inv.Jw (I:C.Inv xq L m gs w t q a c S Zo k sc rc gc d0 dz said cnt zf zs pR mR 7 mS)(H:C.Ok):C.dE C.z xq L m gs w sl t:=by
 have N:Goes prog false (RW C.A.meet) DQ (xD prog C.A.meet) mS c w:=I.sb;rcases fR N (nA _ _)with⟨_,M⟩|⟨P,a',w',es,rfl,f,B,o⟩
 .have r:=I.sh.wg;have j:dz=1:=I.sf.vh (by decide) (by decide);subst j;have l:=I.sf.g2 (.inl rfl);subst l;obtain⟨D,f,m1,o⟩:=M r;have y:C.SB S Zo k rc 1 w D 8 m1:=o;exact I.rD f (λe g=>by simp at g;subst g;exact tF H.O I.cC.ks.size rfl _) (I.dP.atom I.cC.two.pos (by decide) _ _ λe g=>by simp at g;subst g;exact⟨_,_,rfl⟩) y ⟨I.sf.kn,I.sf.sc,I.sf.said,λ_=>I.sf.done (by decide),λh=>by omega,λ_ _=>rfl,λh=>by omega,λ_=>rfl,λh=>by omega,λh=>by omega,by decide⟩ (λh=>bx h.1 (by decide)) (.inl (by simp[ee]))
 .have e:=B.1;subst e;exact I.qO f B o (by decide) (by omega)
def Cx.Inv.Jx (I:C.Inv xq L m gs w t q a c S Zo k sc rc gc d0 dz said cnt zf zs pR mR 8 mS)(H:C.Ok):C.dE C.z xq L m gs w sl t:=by
 have Q:Goes prog false (RW C.A.meet) DQ (xE prog C.A.meet) mS c w:=I.sb;rcases fR Q (nA _ _)with⟨_,D⟩|⟨W,a',w',es,rfl,g,M,y⟩
 .have j:=I.sh.wg;have o:dz=1:=I.sf.vh (by decide) (by decide);subst o;have r:=I.sf.g2 (.inr rfl);subst r;obtain⟨N,g,m1,y⟩:=D j;have f:WgAt C.A.tWg C.A.Wg (w.setCell (stA C.A.Wg) (.int .u64 0)) 0 0:=j.setSt 0;have P:jy C.A.Wg w (w.setCell (stA C.A.Wg) (.int .u64 0)):=oS j rfl f;have hp:11<=pR/\pR<=13:=by have D:=I.rf.g0;have R:=I.rf.g5;have U:=I.rf.p;omega
  have B:C.SB S Zo k rc 1 (w.setCell (stA C.A.Wg) (.int .u64 0)) N 9 m1:=y;refine I.xg H P (gc':=3) f g (λe l=>by simp at l;subst l;exact tF H.O I.cC.ks.size rfl _) (I.dP.atom I.cC.two.pos (by decide) _ _ λe l=>by simp at l;subst l;exact⟨_,_,rfl⟩) (λ_ h=>by omega) (λ_ _=>λ_=>.inr (.inr (.inl f))) (by omega) ⟨I.rf.rc,λh=>by omega,λh=>by omega,λ_ _=>by omega,I.rf.d0,I.rf.p⟩ (λ_ _=>.inl (by decide)) B ⟨I.sf.kn,I.sf.sc,I.sf.said,λ_=>I.sf.done (by decide),λh=>by omega,λ_ _=>rfl,λh=>by omega,λh=>by omega,λ_=>rfl,λh=>by omega,by decide⟩ (by decide) (by simp[ee])
 .have e:=M.1;subst e;exact I.qO g M y (by decide) (by omega)
def Cx.Inv.Jy (I:C.Inv xq L m gs w t q a c S Zo k sc rc gc d0 dz said cnt zf zs pR mR 9 mS)(H:C.Ok):C.dE C.z xq L m gs w sl t:=by
 have W:Goes prog false (RW C.A.meet) DQ (xF prog C.A.meet) mS c w:=I.sb;rcases fR W (nA _ _)with⟨_,j,P⟩|⟨Z,a',w',es,rfl,g,R,o⟩
 .have l:=I.sh.wg;have r:dz=1:=I.sf.vh (by decide) (by decide);subst r;have y:=I.sf.g3 rfl;subst y;obtain⟨N,g,D,o⟩:=P l;have f:WgAt C.A.tWg C.A.Wg (w.setCell (smA C.A.Wg) (.int .u32 1)) 0 1:=l.setSm 1;have U:jy C.A.Wg w (w.setCell (smA C.A.Wg) (.int .u32 1)):=oS l rfl f;have hp:11<=pR/\pR<=13:=by have P:=I.rf.g0;have Q:=I.rf.g5;have Y:=I.rf.p;omega
  have B:N.status = .running:=by
   cases D with
   |zero=>have Q:_/\(1:Nat)=0:=o;exact bx Q.2 (by decide)
   |succ D=>
    rcases o with h|h
    .exact bx h.2 (by decide)
    .exact h.1
  have M:C.SB S Zo k rc 1 (w.setCell (smA C.A.Wg) (.int .u32 1)) N 10 D:=o;refine I.xg H U (gc':=4) f g (M9 H.O I.cC.ks.size) (I.dP.Pw I.cC.two.pos _ _ _) (λ_ h=>by omega) (λ_ _=>λ_=>.inr (.inr (.inr f))) (by omega) ⟨I.rf.rc,λh=>by omega,λh=>by omega,λ_ _=>by omega,I.rf.d0,I.rf.p⟩ (λ_ _=>.inr ⟨j,B⟩) M ⟨I.sf.kn,I.sf.sc,I.sf.said,λ_=>I.sf.done (by decide),λh=>by omega,λ_ h=>by omega,λh=>by omega,λh=>by omega,λh=>by omega,λ_=>.inl rfl,by decide⟩ (by decide) (by simp[ee])
 .have e:=R.1;subst e;exact I.qO g R o (by decide) (by omega)
def Cx.Inv.Js (I:C.Inv xq L m gs w t q a c S Zo k sc rc gc d0 dz said cnt zf zs pR mR 10 mS)(f:c.status = .running):C.dE C.z xq L m gs w sl t:=by
 have o:QuitsD prog mS dz c:=I.sb;cases mS with
 |zero=>rw[o.1]at f;cases f
 |succ n=>
  rcases o with⟨h,_⟩|⟨_,r,es,hm,j,g⟩
  .rw[h]at f;cases f
  .have l:C.SB S Zo k rc (deafBehind dz es) w r 10 n:=g;exact I.rD (j w) (λe y=>wj (hm e y)) (I.dP.leave I.cC.two.pos _ _ hm) l ⟨I.sf.kn,I.sf.sc,I.sf.said,λ_=>I.sf.done (by decide),λh=>by omega,λ_ h=>by omega,λh=>by omega,λh=>by omega,λh=>by omega,λ_=>I.sf.g4 rfl,by decide⟩ (λh=>bx h.1 (by decide)) (.inr ⟨rfl,by omega⟩)
def Cx.Inv.Qg (I:C.Inv xq L m gs w t q a c S Zo k sc rc gc d0 dz said cnt zf zs pR mR pS mS)(H:C.Ok)(f:c.status = .running):C.dE C.z xq L m gs w sl t:=by
 have hp:=I.sf.p
 by_cases e:pS=0
 .subst e;exact I.Py H
 by_cases e:pS=1
 .subst e;exact I.Pz H f
 by_cases e:pS=2
 .subst e;exact I.Fg H f
 by_cases e:pS=3
 .subst e;exact I.PC H
 by_cases e:pS=4
 .subst e;exact I.Jt H
 by_cases e:pS=5
 .subst e;exact I.Ju
 by_cases e:pS=6
 .subst e;exact I.Jv H
 by_cases e:pS=7
 .subst e;exact I.Jw H
 by_cases e:pS=8
 .subst e;exact I.Jx H
 by_cases e:pS=9
 .subst e;exact I.Jy H
 have e:pS=10:=by omega
 subst e;exact I.Js f
end
end
section
open Go.ConcN (sumTo upd upd_same upd_ne)
section
variable {C:Cx}{xq xq':Ai × List Ai × Z}{L m:Nat}{gs:Array Ah}{w w':Z}{t:Trace}{q:Nat->Nat}{a a' c c':Ah}{S:Nat->Prop}{Zo:Loc->Prop}{k:Nat}{sc rc:Bool}{gc d0 dz:Nat}{said:Bool}{cnt:Nat}{zf:Ai}{zs:List Ai}{pR mR pS mS:Nat}{sl:Option (Nat × Nat)}
def SB.early {p m:Nat}(h:C.SB S Zo k rc dz w c p m)(hp:p<10):c.status = .running\/c.status = .blocked:=by
 match p,hp,h with
 |0,_,h=>exact .inl (ep h (la _ _) (BO _))
 |1,_,⟨b,r,f,_,_,_,h⟩=>exact .inl (ep h (pZ _ _ _) λ_ _ h=>h.1)
 |2,_,⟨r,g,j,_,_,h⟩=>
  rcases h with h|⟨hm,rfl,a⟩
  .exact .inl h.2.1
  .exact .inr rfl
 |3,_,h=>exact .inl (ep h (la _ _) λ_ _ h=>h.1)
 |4,_,h=>exact .inl (ep h (mr _ _) λ_ _ h=>h.1)
 |5,_,h=>exact .inl (ep h (mr _ _) λ_ _ h=>h.1)
 |6,_,h=>exact .inl (ep h (mr _ _) λ_ _ h=>h.1)
 |7,_,h=>exact .inl (ep h (nA _ _) λ_ _ h=>h.1)
 |8,_,h=>exact .inl (ep h (nA _ _) λ_ _ h=>h.1)
 |9,_,h=>exact .inl (ep h (nA _ _) λ_ _ h=>h.1)
def Cx.Inv.awake (I:C.Inv xq L m gs w t q a c S Zo k sc rc gc d0 dz said cnt zf zs pR mR pS mS):a.status = .running\/c.status = .running:=by
 rcases RB.status I.rb with h|⟨_,rfl,rfl,g⟩|⟨_,rfl,rfl,r⟩
 .exact .inl h
 .refine .inr ?_;have hp:pS<4:=by have:=I.sf.sc;rw[g]at this;simpa using this
  rcases SB.status I.sb with h|⟨_,j,l,_⟩|h
  .exact h
  .exact bx ⟨rfl,rfl,j,l⟩ I.both
  .rcases SB.early I.sb (by omega)with f | f<;>(rw[h]at f;cases f)
 .refine .inr ?_;have hp:pS<10:=by have:=I.sf.g4;have:=I.sf.p;omega
  rcases SB.status I.sb with h|⟨_,j,l,o⟩|h
  .exact h
  .have:=I.rf.rc;rw[o]at this;simp at this
  .rcases SB.early I.sb hp with f | f<;>(rw[h]at f;cases f)
def Cx.Inv.at (I:C.Inv xq L m gs w t q a c S Zo k sc rc gc d0 dz said cnt zf zs pR mR pS mS)(d:Nat):C.Inv xq L m gs (w.at d) t q a c S Zo k sc rc gc d0 dz said cnt zf zs pR mR pS mS:=
 ⟨I.cC.at d,I.dP,⟨I.sh.gN,I.sh.iO,I.sh.wg⟩,I.fA,RB.env I.rb (λh=>h.at d) (λb hb=>⟨⟨hb.s,hb.lo,hb.lt,hb.zo,hb.row⟩,rfl⟩) (λ_ _=>wK rfl) (λ_ _=>wM rfl) (λ_ _ h=>h) (λ_=>⟨d,rfl⟩),I.rf,
  SB.env I.sb (λh=>h.at d) I.cC.ks (λb hb=>⟨⟨hb.s,hb.lo,hb.lt,hb.zo,hb.row⟩,rfl⟩) (λ_ _=>rfl),I.sf,I.both,I.eL,I.em,I.gW,I.ef⟩
def Cx.End (C:Cx)(xq:Ai × List Ai × Z)(gs:Array Ah)(w:Z)(t:Trace):Prop:=
 ∃a' j S k to f cnt h,jX prog (λl=>C.bW l\/iJ C.A.Wg l) gs w.heap.size t j a'/\cM C.G0 0 S w xq.2.2/\(∀l,(C.bW l\/iJ C.A.Wg l)->∃a:Addr,l = .cell a/\S a.block)/\Tr (imag prog C.F) C.X C.T C.Fin xq.1 xq.2.1 xq.2.2/\
  fu (imag prog C.F) C.Fin C.I.jf xq cnt (C.fr.finish (.tuple #[to,Y ((k:Nat):Int)])) C.cs/\C.kI k to f/\Goes prog true AtRel DQ (λg _=>g=f) h a' w/\C.A.lo<=w.heap.size
def Cx.Comes (C:Cx)(xq:Ai × List Ai × Z)(gs:Array Ah)(w:Z)(sl:Option (Nat × Nat))(t:Trace):Prop:=
 ∃N a h g t1 f,runNT prog N (crowd gs w sl) t=(.next (crowd a h g),t1)/\C.End f a h t1/\gU (imag prog C.F) C.Fin xq f
def Cx.Comes.step {a:Array Ah}{f:Option (Nat × Nat)}{u:Trace}(D:stepT prog (crowd gs w sl)=(.next (crowd a w' f),u))(B:gU (imag prog C.F) C.Fin xq xq')(h:C.Comes xq' a w' f (t++u)):C.Comes xq gs w sl t:=by obtain⟨N,g,M,j,t1,l,o,r,y⟩:=h;exact⟨N+1,g,M,j,t1,l,by rw[runNT_succ_next D];exact o,r,B.trans y⟩
def QH (H:C.Ok)(xq:Ai × List Ai × Z)(hx:Acc (TransGen (Sub (imag prog C.F) C.Fin)) xq):∀(L m:Nat) (gs:Array Ah) (w:Z) (sl:Option (Nat × Nat)) (t:Trace) (q:Nat->Nat),C.Any xq L m gs w t q->C.Comes xq gs w sl t:=by
 induction hx with
 |intro xq _ ih=>
  intro L
  induction L using Nat.strongRecOn with
  |ind L a7=>
   intro m
   induction m using Nat.strongRecOn with
   |ind m W=>
    intro gs w sl t q hA;obtain⟨a,c,S,Zo,k,sc,rc,gc,d0,dz,said,cnt,zf,zs,pR,mR,pS,mS,I⟩:=hA;have r:∀{i d f},stepT prog (crowd gs w sl)=runT prog (crowd gs (w.at d) f) i->C.dE i xq L m gs (w.at d) f t->C.Comes xq gs w sl t:=by
     intro i d f j hn;obtain⟨g,w',u,l,xq',L',Y,Q,y,N⟩:=hn;rcases N with h|⟨rfl,h|⟨rfl,h⟩⟩
     .exact Cx.Comes.step (j.trans Q) (.inr h) (ih xq' h L' Y g w' f (t++u) l y)
     .exact Cx.Comes.step (j.trans Q) .refl (a7 L' h Y g w' f (t++u) l y)
     .exact Cx.Comes.step (j.trans Q) .refl (W Y h g w' f (t++u) l y)
    have a1:a.status = .running\/a.status = .blocked:=by
     rcases RB.status I.rb with h|h|h
     .exact .inl h
     .exact .inr h.1
     .exact .inr h.1
    have a3:c.status = .running\/c.status = .blocked\/c.status = .finished:=by
     rcases SB.status I.sb with h|h|h
     .exact .inl h
     .exact .inr (.inl h.1)
     .exact .inr (.inr h)
    obtain⟨d,f,h|h|h⟩:=I.cC.two.step (w:=w) (sl:=sl) a1 a3 I.awake
    .obtain⟨R,j⟩:=h;rcases(I.at d).Qf (sl:=f) H R with hn|⟨g,a',u,l,S',k',to,gr,B,Y,Q,h1,h2,h3,h4,h5,h6,h7,h8⟩
     .exact r j hn
     .exact⟨1,g,w.at d,f,t++u,xq,by rw[runNT_succ_next (j.trans Q)];rfl,⟨a',l,S',k',to,gr,B,Y,h1,h2,h3,h4,h5,h6,h7,h8⟩,.refl⟩
    .exact r h.2 ((I.at d).Qg (sl:=f) H h.1)
    .obtain⟨g,am,l,x,x',j,o,U,P,hg,D,a4,a9⟩:=h;have Id:=I.at d;rw[Id.nH x x' Id.sh.gN Id.sh.iO]at o;obtain⟨ad,a8,ba,an⟩:=RB.qe Id.rb (Id.wo Id.sh) x x';have h1:=I.gW;have h2:=I.eL;have h3:=I.em;have M:dh C.F C.X C.T C.Fin C.G0 C.A C.bW C.z g (w.at d) (t++am) l (woken prog x x' (w.at d) a) c xq S Zo:=
      ⟨o,Id.cC.pt.mute U (P _),Id.cC.fV,Id.cC.tr,Id.cC.ks,Id.cC.ap,Id.cC.fN,Id.cC.zo,Id.cC.sW,Id.cC.sS,Id.cC.sD,Id.cC.nW,Id.cC.nS,Id.cC.nD⟩
     refine Cx.Comes.step j .refl (W (ad+2*mS+2*sumTo g.size l) (by rw[a4];omega) g (w.at d) f (t++am) l ⟨_,c,S,Zo,k,sc,rc,gc,d0,dz,said,cnt,zf,zs,pR,ad,pS,mS,⟨M,I.dP.rest hg λop a0=>?_,Id.sh,I.fA,a8,I.rf,Id.sb,I.sf,λh=>I.both ⟨h.1,(an h.1).symm.trans h.2.1,h.2.2⟩,h2,rfl,h1,I.ef⟩⟩);rcases D op a0 with e|e<;>rw[e]<;>simp
end
end
end Go.Proofs.YthbdpfccfcceiaaGreatDoor
