/-
  Of hurt_card.
-/
import Derived.Test.YthbdpfccfcceiaaGreatDoorH3x
import Derived.Lib.SlicesCompact
import Derived.Sort.Walk0
import Derived.Test.YthbdpfccfcceiaaGreatDoorIter
import Derived.Sort.KeysCollected
import Derived.Test.YthbdpfccfcceiaaGreatDoorIter2
import Derived.Deep.RegionHeld3
set_option linter.all false
namespace Go.Proofs.YthbdpfccfcceiaaGreatDoor
set_option maxRecDepth 20000
set_option maxHeartbeats 4000000
open Go.Proofs.Tryz
variable {g o r:Nat}{S:Nat->Prop}{a:DataW D}{d:Z}
section
open Go.RowKit Go.Maps
def ly (l:List Int)(t:Int):Bool:=match l.getLast? with|some m=>decide (t<m)|none=>false
def D7 {w:Z}{v:D}{l:List Int}(h:w.ownsRow 0 3 1 v l.length (l.map (Value.int .i64)))(C:l≠[]) :
  ∃g cap,v = ag g l.length cap/\∀j,j<l.length->w.cell? ⟨g,j,none⟩=some (Y (l.getD j 0)):=by
 rcases h.2 with⟨_,r⟩|⟨g,cap,a,e,_,B,M,_,y,o⟩
 .exact bx (aA r) C
 .refine⟨g,cap,e,λj f=>?_⟩;rw[ct B];have:(l.map (Value.int .i64))[j]?=a.toList[j]?:=by rw[<- o,bu];simp[f]
  rw[bt,aQ f]at this;rw[<- Array.getElem?_toList,<- this];simp[List.getD,aQ f]
section
variable {own own':Nat->da}{c:Nat}{w w':Z}{p:Nat}{s:XS}{mo ph mv mm:Nat}{pt mw:Int->Nat}{sl:Ac->D}
def RX (h:XR own c w p s mo ph mv mm pt mw sl)(key:Ac)(f:key.size<=8)(l:(s.bU key).length<1000000)(t:Int) :
  Calls prog 125 #[ab ph,.string key,Y t] w λe w'=>e = .returned (.bool (ly (s.bU key) t))/\w'=w:=by
 have c1:w.cell? ⟨ph,1,none⟩=some (.map (some mm)):=ct h.dJ 1
 by_cases hm:s.bU key=[]
 .refine IA ph mm s.nm _ key t w c1 h.e9 f none 0 (by rw[iv,if_pos hm];rfl) ⟨by rw[hm];rfl,rfl⟩
 .obtain⟨g,cap,hv,j⟩:=D7 (h.row key hm) hm;obtain⟨len,a⟩:∃len,(s.bU key).length=len+1:=⟨(s.bU key).length-1,by have:=List.length_pos_iff.2 hm;omega⟩;refine IB ph mm s.nm _ key t w c1 h.e9 f g len cap (by rw[iv,if_neg hm,hv,a];rfl) (by omega) _ (j len (by omega)) ⟨?_,rfl⟩;unfold ly;rw[List.getLast?_eq_getElem?,a];simp only[Nat.add_sub_cancel];rw[aQ (by omega)];simp[List.getD,aQ (show len<(s.bU key).length by omega)]
def JP {g:Ac->Option (Ac × Bool)}{key v:D}(h:encS (λk=>(g k).map fg) key=some v):∃(k:Ac) (x:D),key = .string k/\v=(λv:D=>v) x:=by
 cases key<;>simp[encS]at h
 exact⟨_,v,rfl,rfl⟩
def wu (s:XS)(t:XT):Prop:=∃k,(t.wr k).isSome=true/\ly (s.bU k) t.ft=true
variable {R:Al}
def R7 (h:XR own c w p s mo ph mv mm pt mw sl)(tx:Int)(t:XT)(e:s.cx tx=some t)(M:∀k,(t.wr k).isSome=true->k.size<=8)(am:∀k,(s.bU k).length<1000000)
  (h0:¬wu s t->∀w',An w w'->R (.returned (.bool false)) w')
  (h1:wu s t->∀w',An w w'->R (.returned (.bool true)) w') :
  Calls prog 71 #[ab p,.pointer (some ⟨pt tx,0,none⟩)] w R:=by
 have c1:w.cell? ⟨pt tx,1,none⟩=some (.map (some (mw tx))):=ct (h.tx tx t e) 1;have hw:=h.wr tx t e;have H0:Hid _:=h0;have H1:Hid _:=h1;clear h0 h1
 go_enter func71,ntmps71
 go_wp2_with (first
  |(at_range;refine Rt _ rfl _ 130 rfl 9 138 gS underlying130 (mw tx) t.nw _ rfl hw ?_;intro w0 a0 a3 bm)
  |go_in)
 go_frame
 go_loopw [5] (λ_ wr=>∃(left:D->Bool) (C:Nat),jO wr prog 9 (mw tx) w.heap.size t.nw (encS λk=>(t.wr k).map fg) left C/\An w wr/\∀k,(t.wr k).isSome=true->left (.string k)=false->ly (s.bU k) t.ft=false)
  (λ_ wr=>wr.rangeLeft (mw tx) w.heap.size)
 case atStart=>exact⟨_,_,a0,Kp.jh a3 (λ_ h=>by cases h),λk hk hl=>by rw[iv]at hl;rw[Option.isSome_map,hk]at hl;cases hl⟩
 case round=>
  obtain⟨left,C,an,U,f⟩:=hrel;have HD:Hid _:=f;clear f
  go_wp2_with (first
   |(at_next;refine Rr _ rfl _ rfl 9 gS Value.string (λv:D=>v) (mw tx) w.heap.size t.nw _ left C (λkey v hv=>?inv) rfl an ?_ ?_)
   |go_in)
  case inv=>exact JP hv
  .intro _ ba
   go_wp2
   refine H0.out (λ⟨k,a8,Q⟩=>?_) _ U;rw[HD.out k a8 (ba _)]at Q;cases Q
  .intro k v N o be l g a1 bl bb bf a4 bp P;have ad:(t.wr k).isSome=true:=by
    rw[iv]at l;cases hq:t.wr k with
    |none=>rw[hq]at l;cases l
    |some _=>rfl
   have r:An w N:=U.trans (Kp.jh (S:=λb=>b=w.heap.size) a4 (λb hb=>by cases hb;rfl)) (λb hb e=>by omega);have hx:=h.kept r;have d0:N.cell? ⟨p,0,none⟩=some (ab ph):=ct hx.store 0;have d1:N.cell? ⟨pt tx,0,none⟩=some (Y t.ft):=ct (hx.tx tx t e) 0;clear l be;have a:Hid (∀W:Z,W=N.drew->Calls prog 125 #[ab ph,.string k,Y t.ft] W λe w'=>e = .returned (.bool (ly (s.bU k) t.ft))/\w'=W):=λW hW=>by subst hW;exact RX (hx.kept (Kp.dr _ _)) k (M k ad) (am k) t.ft
   have B:jO N.drew prog 9 (mw tx) w.heap.size t.nw (encS λk=>(t.wr k).map fg) g o:=a1.of_block rfl rfl;have y:An w N.drew:=r.trans (Kp.dr _ _) (λ_ _ h=>h);cases j:ly (s.bU k) t.ft
   .rw[j]at a
    go_wp2_with fail
    go_region_with (go_at_call 125;refine(a.out _ rfl).mono ?_;rintro e w' ⟨rfl,rfl⟩)
    all_goals
     clear d0 d1 P
     go_wp2_with fail
     go_roundw
     case rel=>
      refine⟨g,o,B,y,λk' a7 a9=>?_⟩
      by_cases ek:k'=k
      .subst ek;exact j
      .exact HD.out k' a7 (by rw[<- bb _ (λe=>ek (by injection e))];exact a9)
     case measure=>rw[B.left_eq,an.left_eq];exact bf
   .rw[j]at a
    go_wp2_with fail
    go_region_with (go_at_call 125;refine(a.out _ rfl).mono ?_;rintro e w' ⟨rfl,rfl⟩)
    all_goals
     clear d0 d1 P
     go_wp2_with fail
     exact H1.out ⟨k,ad,j⟩ _ y
end
end
section
open Go.RowKit Go.Maps
section
variable {own own':Nat->da}{c:Nat}{w w':Z}{p:Nat}{s:XS}{mo ph mv mm:Nat}{pt mw:Int->Nat}{sl:Ac->D}
def Dx (g:Ac->Int->Option (Ac × Bool))(k:Ac)(m:Int)(v:Ac × Bool):(λa b=>((jv g k m (some v)) a b).map fg)=jv (λa b=>(g a b).map fg) k m (some (fg v)):=by
 funext a b
 by_cases e:a=k/\b=m
 .simp[jv,e]
 .simp[jv,e]
def Ev (bU:Ac->List Int)(sl:Ac->D)(key:Ac)(t:Int)(v':D) :
  jc (encS λk=>if bU k=[]then none else some (sl k)) (.string key) v' (encS λk=>if(cV bU key (bU key++[t])) k=[]then none else some (cV sl key v' k)):=by
 have:(λk=>if(cV bU key (bU key++[t])) k=[]then none else some (cV sl key v' k))=cV (λk=>if bU k=[]then none else some (sl k)) key (some v'):=by
  funext k
  by_cases e:k=key
  .subst e;simp[cV]
  .simp[cV,e]
 rw[this];exact Eu _ _ _
variable {R:Al}
def RP (h:XR own c w p s mo ph mv mm pt mw sl)(key val:Ac)(g:Bool)(t:Int)(Q:key.size<=8)(a7:(Lit.int .i64 t).wf=true)(j:(s.bU key).length<1000000)(a1:s.nm<1000000)(a3:s.nv<1000000)
  (hR:∀w' own' a8 nv' B,Kp (λb=>b=mv\/b=mm\/own b=⟨c,7,0,key⟩) w w'->(∀b,b<w.heap.size->own' b=own b)->nv'<=s.nv+1->B<=s.nm+1->
   XR own' c w' p { s with bU:=cV s.bU key (s.bU key++[t]),cE:=jv s.cE key t (some (val,g)),nv:=nv',nm:=B } mo ph mv mm pt mw a8->R (.returned (.tuple #[])) w') :
  Calls prog 79 #[ab ph,.string key,Y t,.agg #[.string val,.bool g]] w R:=by
 have c0:w.cell? ⟨ph,0,none⟩=some (.map (some mv)):=ct h.dJ 0;have c1:w.cell? ⟨ph,1,none⟩=some (.map (some mm)):=ct h.dJ 1;have a0:mv≠mm:=dK (own:=own) (by rw[h.fh,h.gi];simp);obtain⟨v,hv,Z,N⟩:∃v,((encS λk=>if s.bU k=[]then none else some (sl k)) (.string key)).getD (ae)=v/\w.ownsRow 0 3 1 v (s.bU key).length ((s.bU key).map (Value.int .i64))/\∀b,v.ownBlock=some b->own b=⟨c,7,0,key⟩:=by
  by_cases hm:s.bU key=[]
  .exact⟨ae,by rw[iv,if_pos hm];rfl,by rw[hm];exact World.ownsRow_nil w 0 3 1,λb hb=>by simp[Value.ownBlock]at hb⟩
  .exact⟨sl key,by rw[iv,if_neg hm];rfl,h.row key hm,h.ib key hm⟩
 have a4:v.ownBlock≠some ph:=λe=>by have:=N ph e;rw[h.fS]at this;simp at this
 have hp:jc (iu λk m=>(s.cE k m).map fg) (.agg #[.string key,Y t]) (.agg #[.string val,.bool g]) (iu λk m=>((jv s.cE key t (some (val,g))) k m).map fg):=by rw[Dx];exact Et _ _ _ _
 refine Bf ph mv mm s.nm s.nv _ _ key val g t w c0 c1 h.e9 h.gn a0 a1 a3 Q a7 v (s.bU key) hv Z j a4 hp (λw' v' f y D M S=>?_);have P:Kp (λb=>b=mv\/b=mm\/own b=⟨c,7,0,key⟩) w w':=f.mono (λb _ hb=>hb.imp id (λhb=>hb.imp id (N b)));have o:=D _ (Ev s.bU sl key t v');generalize W:(if(iu (λk m=>Option.map fg (s.cE k m)) (Value.agg #[Value.string key,Value.int IntKind.i64 t])).isSome=true then s.nv else s.nv+1)=nv' at y;generalize U:(if(encS (λk=>if s.bU k=[]then none else some (sl k)) (Value.string key)).isSome=true then s.nm else s.nm+1)=B at o;have b1:nv'<=s.nv+1:=by rw[<- W];split<;>omega
 have b2:B<=s.nm+1:=by rw[<- U];split<;>omega
 have old:∀b,b<w.heap.size->own b≠⟨c,3,0,eb⟩->own b≠⟨c,4,0,eb⟩->own b≠⟨c,7,0,key⟩->w'.heap[b]?=w.heap[b]?:=λb hb e1 e2 e3=>
  P.block b hb (λhb=>by
   rcases hb with hb|hb|hb
   .exact e1 (by rw[hb,h.fh])
   .exact e2 (by rw[hb,h.gi])
   .exact e3 hb)
 have lp:=bX h.store;have lh:=bX h.dJ;have lo:=h.opn.lt;have lv:=h.gn.lt;have lm:=h.e9.lt;have a:∀b,b<w.heap.size->(λb=>if v'.ownBlock=some b then(⟨c,7,0,key⟩:da)else own b) b=own b:=λb hb=>by
  by_cases e:v'.ownBlock=some b
  .simp only[e,if_true];rcases S with j|⟨b',am,a9⟩
   .exact(N b (j ▸ e)).symm
   .rw[am]at e;cases e;omega
  .simp[e]
 refine hR w' (λb=>if v'.ownBlock=some b then⟨c,7,0,key⟩else own b) (cV sl key v') nv' B P a b1 b2
  ⟨(a p lp).trans h.dc,(a mo lo).trans h.dQ,(a ph lh).trans h.fS,(a mv lv).trans h.fh,(a mm lm).trans h.gi,?_,?_,?_,?_,?_,?_,y,o,?_,?_,h.log.frame (λb l _ f=>old b l (λe=>by rw[e]at f;simp at f) (λe=>by rw[e]at f;simp at f) (λe=>by rw[e]at f;simp at f)) (λb l _ _=>a b l),h.gV.frame (λb l _ f=>old b l (λe=>by rw[e]at f;simp at f) (λe=>by rw[e]at f;simp at f) (λe=>by rw[e]at f;simp at f)) (λb l _ _=>a b l)⟩
 .exact(old p lp (by rw[h.dc];simp) (by rw[h.dc];simp) (by rw[h.dc];simp)).trans h.store
 .exact(old ph lh (by rw[h.fS];simp) (by rw[h.fS];simp) (by rw[h.fS];simp)).trans h.dJ
 .exact h.opn.of_block (old mo lo (by rw[h.dQ];simp) (by rw[h.dQ];simp) (by rw[h.dQ];simp))
 .intro n t1 e1;exact⟨(a _ (bX (h.tx n t1 e1))).trans (h.ed n t1 e1).1,(a _ (h.wr n t1 e1).lt).trans (h.ed n t1 e1).2⟩
 .intro n t1 e1;have j:=(h.ed n t1 e1).1;exact(old _ (bX (h.tx n t1 e1)) (by rw[j];simp) (by rw[j];simp) (by rw[j];simp)).trans (h.tx n t1 e1)
 .intro n t1 e1;have j:=(h.ed n t1 e1).2;exact(h.wr n t1 e1).of_block (old _ (h.wr n t1 e1).lt (by rw[j];simp) (by rw[j];simp) (by rw[j];simp))
 .intro k f b e
  by_cases C:k=key
  .subst C;rw[kj]at e;simp[e]
  .rw[jI _ C]at e;have hm:s.bU k≠[]:=by simpa [cV,C]using f
   exact(a b ((h.row k hm).lt b e).2).trans (h.ib k hm b e)
 .intro k f
  by_cases C:k=key
  .subst C;simp only[kj,aj,ai,ax,ao,bj,List.map_cons,List.map_nil];exact M
  .have hm:s.bU k≠[]:=by simpa [cV,C]using f
   simp only[jI _ C];have h0:=h.row k hm;refine⟨h0.1,?_⟩;rcases h0.2 with h1|⟨g,cap,ad,e,an,hg,r⟩
   .exact Or.inl h1
   .have j:=h.ib k hm g (by rw[e];rfl);exact Or.inr ⟨g,cap,ad,e,an,(old g (bX hg) (by rw[j];simp) (by rw[j];simp) (by rw[j];simp[C])).trans hg,r⟩
end
end
section
open Go.RowKit Go.Maps
def Cp (lg:List (Aj))(o:lg.length<=5000)(hb:∀b∈lg,b.length<=400):∀f∈cG lg,f≠[]/\f.length<=100000000:=by
 intro f a;refine⟨?_,?_⟩
 .have:∀(lg:List (Aj)) (f:Aj),f∈cG lg->f≠[]:=by
   intro lg
   induction lg using wY with
   |h0=>intro f a;simp[cG,mN]at a
   |h1 l x g=>
    intro f a;rw[ot]at a;unfold kK at a;split at a
    .rcases aM.1 a with h|h
     .exact g f h
     .simp at h;subst h;simp[dv,cQ]
    .rcases aM.1 a with h|h
     .exact g f (List.dropLast_subset _ h)
     .simp at h;subst h;simp[dv,cQ]
  exact this lg f a
 .have h1:=za a;have j:=yd lg 400 hb;omega
section
variable {own own':Nat->da}{c:Nat}{w w':Z}{p:Nat}{s:XS}{mo ph mv mm:Nat}{pt mw:Int->Nat}{sl:Ac->D}
def XR.Ao (h:XR own c w p s mo ph mv mm pt mw sl)(l:XL)(hb:∀b,b<w.heap.size->(own b).c=c->(own b).k≠0->(own b).k≠8->(own b).k≠9->w'.heap[b]?=w.heap[b]?)(f:∀b,b<w.heap.size->own' b=own b)
  (o:w'.heap[p]?=some (.cells #[ab ph,Y s.cJ,Y s.now,l.lf,Y (gQ l.lg.length:Nat),Y l.sy,Y s.begun,.map (some mo),Y s.bk.taken,.map (some s.bk.mu)] 102 (0,0)))
  (M:po own' c w' l):XR own' c w' p { s with log:=l } mo ph mv mm pt mw sl:=by
 have N:=bX h.store;have r:=bX h.dJ;have lo:=h.opn.lt;have lv:=h.gn.lt;have lm:=h.e9.lt;have g:∀b k i x,b<w.heap.size->own b=⟨c,k,i,x⟩->k≠0->k≠8->k≠9->w'.heap[b]?=w.heap[b]?:=λb k i x a e y B C=>hb b a (by rw[e]) (by rw[e];exact y) (by rw[e];exact B) (by rw[e];exact C)
 refine⟨(f p N).trans h.dc,(f mo lo).trans h.dQ,(f ph r).trans h.fS,(f mv lv).trans h.fh,(f mm lm).trans h.gi,o,?_,?_,?_,?_,?_,?_,?_,?_,?_,M,h.gV.frame (λb a D j=>hb b a D (by omega) (by omega) (by omega)) (λb a _ _=>f b a)⟩
 .exact(g ph _ _ _ r h.fS (by decide) (by decide) (by decide)).trans h.dJ
 .exact h.opn.of_block (g mo _ _ _ lo h.dQ (by decide) (by decide) (by decide))
 .intro n t e;exact⟨(f _ (bX (h.tx n t e))).trans (h.ed n t e).1,(f _ (h.wr n t e).lt).trans (h.ed n t e).2⟩
 .intro n t e;exact(g _ _ _ _ (bX (h.tx n t e)) (h.ed n t e).1 (by decide) (by decide) (by decide)).trans (h.tx n t e)
 .intro n t e;exact(h.wr n t e).of_block (g _ _ _ _ (h.wr n t e).lt (h.ed n t e).2 (by decide) (by decide) (by decide))
 .exact h.gn.of_block (g mv _ _ _ lv h.fh (by decide) (by decide) (by decide))
 .exact h.e9.of_block (g mm _ _ _ lm h.gi (by decide) (by decide) (by decide))
 .intro k j b e;exact(f b ((h.row k j).lt b e).2).trans (h.ib k j b e)
 .intro k j;exact ra (h.row k j) (λb e=>g b _ _ _ ((h.row k j).lt b e).2 (h.ib k j b e) (by decide) (by decide) (by decide))
def fG (own:Nat->da)(c:Nat):Prop:=(own 0).c≠c/\(own 1).c≠c
variable {R:Al}
def Gt (h:XR own c w p s mo ph mv mm pt mw sl)(hT:db w)(hN:fG own c)(k t:Int)(rv:D)(body:Aj)(hl:s.log.lg.length<=4999)(bf:∀b∈s.log.lg,b.length<=400)(hb:body.length<=400)(be:rv.oneCell'=true)(hr:jM w (.agg #[.int .u8 k,Y t,rv]) body)(bw:∀b,rv.ownBlock=some b->(own b).c≠c)
  (hR:∀w' own' l',Kp (λb=>(own b).c=c/\((own b).k=0\/(own b).k=8\/(own b).k=9)) w w'->(∀b,b<w.heap.size->own' b=own b)->(∀b,w.heap.size<=b->(own' b)≠own b->(own' b).c=c)->l'.lg=s.log.lg++[body]->l'.sy=s.log.sy->
   XR own' c w' p { s with log:=l' } mo ph mv mm pt mw sl->R (.returned (.tuple #[])) w') :
  Calls prog 78 #[.pointer (some ⟨p,3,none⟩),.agg #[.int .u8 k,Y t,rv]] w R:=by
 obtain⟨pf,cap,a3⟩:=eM h.log.nz;have ba:=h.store;rw[a3]at ba;have an:=h.log.nz;rw[a3]at an;have bA:=oq s.log.lg;have am:=h.log.len;have jD:∀b,(Value.slice pf (cG s.log.lg).length cap).ownBlock=some b->own b=⟨c,8,0,eb⟩:=λb e=>h.log.jD b (by rw[a3];exact e)
 have U:((cG s.log.lg).length=0\/gQ s.log.lg.length=4)↔s.log.lg.length % 4=0:=by rw[Kr,Ln];omega
 refine Lz p 3 _ 102 pf (cG s.log.lg).length cap (gQ s.log.lg.length) k t rv body w (by decide) (by decide) be (by omega) ba rfl rfl s.log.lv (cG s.log.lg) hT an rfl (Cp _ (by omega) bf) h.log.my (by omega) (by have:=Lo s.log.lg.length;omega) hr ?_ ?_ ?_ ?_
 .intro b e;have hn:=bw b e;exact⟨λe2=>hn (by rw[e2,h.dc]),λe2=>hn (by rw[jD b e2])⟩
 .intro b e;have hc:(own b).c=c:=by
   rcases e with e|e
   .rw[e,h.dc]
   .rw[jD b e]
  exact⟨λe2=>hN.1 (by rw[<- e2];exact hc),λe2=>hN.2 (by rw[<- e2];exact hc)⟩
 .intro hq M S w' a7 B N ⟨bv,hbv,hbvl⟩ hlf' Z;have C:=U.1 hq;have ad:Kp (λb=>(own b).c=c/\((own b).k=0\/(own b).k=8\/(own b).k=9)) w w':=Z.mono (λb _ e=>by
   rcases e with e|e
   .rw[e,h.dc];simp
   .rw[jD b e];simp)
  have W:cG (s.log.lg++[body])=cG s.log.lg++[fJ (cG s.log.lg).length++dv body]:=by rw[ot];simp[kK,C]
  have bq:M.ownBlock≠some bv:=λe=>by obtain⟨c1,r⟩:=nc B e;obtain⟨c2,h2⟩:=N.block hbv;exact j5 r h2 (by decide) rfl
  have o:∀b,b<w.heap.size->(λb=>if M.ownBlock=some b then(⟨c,8,0,eb⟩:da)else if bv=b then⟨c,9,((cG s.log.lg).length:Nat),eb⟩else own b) b=own b:=λb hb=>by
   have:bv≠b:=by omega
   by_cases e:M.ownBlock=some b
   .simp only[e,if_true];rcases hlf' with r|⟨b',r,h2⟩
    .rw[r]at e;exact(jD b e).symm
    .rw[r]at e;cases e;omega
   .simp[e,this]
  refine hR w' _ ⟨M,s.log.lv++[S],s.log.lg++[body],s.log.sy⟩ ad o (λb _ e=>?_) rfl rfl (h.Ao _ (λb hb hc h0 h8 h9=>ad.block b hb (λe=>by rcases e.2 with e|e|e<;>contradiction)) o ?_ ?_)
  .by_cases e1:M.ownBlock=some b
   .simp[e1]
   .by_cases e2:bv=b
    .simp[e1,e2]
    .simp[e1,e2]at e
  .rw[a7];simp only[aj,ai,ax,ao,Lq _ C]
   rfl
  .refine⟨λb e=>?_,?_,λi v hv b e=>?_,λi v f hv hf=>?_⟩
   .have e':M.ownBlock=some b:=e;simp[e']
   .show w'.ownsRow 0 _ 1 M (cG (s.log.lg++[body])).length (s.log.lv++[S]);rw[W];simpa using B
   .have a:(s.log.lv++[S])[i]?=some v:=hv;rcases Nat.lt_trichotomy i s.log.lv.length with y|y|y
    .rw[az y]at a;have r:=h.log.jT i v a b e;have a4:=((h.log.my i v _ a (aQ (by omega))).lt b e).2;exact(o b a4).trans r
    .subst y;simp at a;subst a;rw[hbv]at e;cases e;simp[bq,am]
    .rw[bh (by simp;omega)]at a;cases a
   .have a:(s.log.lv++[S])[i]?=some v:=hv;have P:(cG (s.log.lg++[body]))[i]?=some f:=hf;rw[W]at P;rcases Nat.lt_trichotomy i s.log.lv.length with y|y|y
    .rw[az y]at a;rw[az (by omega)]at P;have h0:=h.log.my i v f a P;refine ra h0 (λb e=>Z.block b (h0.lt b e).2 ?_);have r:=h.log.jT i v a b e;rintro(e2|e2)
     .rw[e2,h.dc]at r;simp at r
     .rw[jD b e2]at r;simp at r
    .subst y;simp at a;rw[am]at P;simp at P;subst a;subst P;exact N
    .rw[bh (by simp;omega)]at a;cases a
 .intro hq j v f S w' a1 hf a7 B N a9 Z;have C:s.log.lg.length % 4≠0:=λe=>hq (U.2 e)
  have bp:j.length+1=(cG s.log.lg).length:=by rw[<- am,a1];simp
  have bb:s.log.lv[j.length]?=some v:=by rw[a1];simp
  have fh:∀b,v.ownBlock=some b->own b=⟨c,9,(j.length:Nat),eb⟩:=λb e=>h.log.jT j.length v bb b e
  have ad:Kp (λb=>(own b).c=c/\((own b).k=0\/(own b).k=8\/(own b).k=9)) w w':=Z.mono (λb _ e=>by
   rcases e with e|e|e
   .rw[e,h.dc];simp
   .rw[jD b e];simp
   .rw[fh b e];simp)
  have bm:(cG s.log.lg).getLastD []=f:=by rw[List.getLastD_eq_getLast?,List.getLast?_eq_getElem?,show(cG s.log.lg).length-1=j.length by omega,hf];rfl
  have W:cG (s.log.lg++[body])=(cG s.log.lg).dropLast++[f++dv body]:=by rw[ot];unfold kK;rw[if_neg C,bm]
  have a8:(cG s.log.lg).dropLast.length=j.length:=by simp;omega
  have bl:∀i,i<j.length->(cG s.log.lg).dropLast[i]?=(cG s.log.lg)[i]?:=λi y=>by rw[List.getElem?_dropLast,if_pos (by omega)]
  have o:∀b,b<w.heap.size->(λb=>if S.ownBlock=some b then(⟨c,9,(j.length:Nat),eb⟩:da)else own b) b=own b:=λb hb=>by
   by_cases e:S.ownBlock=some b
   .simp only[e,if_true];rcases a9 with r|⟨b',r,h2⟩
    .rw[r]at e;exact(fh b e).symm
    .rw[r]at e;cases e;omega
   .simp[e]
  refine hR w' _ ⟨.slice pf (cG s.log.lg).length cap,j++[S],s.log.lg++[body],s.log.sy⟩ ad o (λb _ e=>?_) rfl rfl (h.Ao _ (λb hb hc h0 h8 h9=>ad.block b hb (λe=>by rcases e.2 with e|e|e<;>contradiction)) o ?_ ?_)
  .by_cases e1:S.ownBlock=some b
   .simp[e1]
   .simp[e1]at e
  .rw[a7];simp only[aj,ai,ax,ao,Lp _ C]
   rfl
  .refine⟨λb e=>?_,?_,λi u hu b e=>?_,λi u g hu hg=>?_⟩
   .have e':(Value.slice pf (cG s.log.lg).length cap).ownBlock=some b:=e;exact(o b (an.lt b e').2).trans (jD b e')
   .show w'.ownsRow 0 _ 1 (.slice pf (cG s.log.lg).length cap) (cG (s.log.lg++[body])).length (j++[S]);rw[W,aj,a8];simp only[ai,ax,ao];rw[bp];exact B
   .have l:(j++[S])[i]?=some u:=hu;rcases Nat.lt_trichotomy i j.length with y|y|y
    .rw[az y]at l;have a0:s.log.lv[i]?=some u:=by rw[a1,az y];exact l
     have r:=h.log.jT i u a0 b e;have a4:=((h.log.my i u _ a0 (aQ (by omega))).lt b e).2;exact(o b a4).trans r
    .subst y;simp at l;subst l;simp[e]
    .rw[bh (by simp;omega)]at l;cases l
   .have l:(j++[S])[i]?=some u:=hu;have Q:(cG (s.log.lg++[body]))[i]?=some g:=hg;rw[W]at Q;rcases Nat.lt_trichotomy i j.length with y|y|y
    .rw[az y]at l;rw[az (by omega),bl i y]at Q;have a0:s.log.lv[i]?=some u:=by rw[a1,az y];exact l
     have h0:=h.log.my i u g a0 Q;refine ra h0 (λb e=>Z.block b (h0.lt b e).2 ?_);have r:=h.log.jT i u a0 b e;rintro(e2|e2|e2)
     .rw[e2,h.dc]at r;simp at r
     .rw[jD b e2]at r;simp at r
     .rw[fh b e2]at r;simp at r;omega
    .subst y;rw[<- a8]at Q;simp at l Q;subst l;subst Q;exact N
    .rw[bh (by simp;omega)]at l;cases l
end
end
section
open Go.RowKit Go.Maps
def comm (s:XS)(t:XT)(left:D->Bool)(nv nm:Nat):XS:=
 { s with now:=s.now+1,bU:=λk=>if((t.wr k).isSome && !left (.string k))=true then s.bU k++[s.now+1]else s.bU k,cE:=λk m=>if m=s.now+1/\((t.wr k).isSome && !left (.string k))=true then t.wr k else s.cE k m,nv:=nv,nm:=nm }
def IP (s:XS)(t:XT)(left:D->Bool)(h:∀k,left (.string k)=(t.wr k).isSome):comm s t left s.nv s.nm={ s with now:=s.now+1 }:=by
 have:∀k,((t.wr k).isSome && !left (.string k))=false:=λk=>by rw[h k];cases(t.wr k).isSome<;>rfl
 simp[comm,this]
def IQ (s:XS)(t:XT)(left f:D->Bool)(nv nm nv' l:Nat)(k:Ac)(v:Ac × Bool)(o:t.wr k=some v)(y:left (.string k)=true)(g:f (.string k)=false)(h:∀z,z≠.string k->f z=left z) :
  { comm s t left nv nm with bU:=cV (comm s t left nv nm).bU k ((comm s t left nv nm).bU k++[s.now+1]),cE:=jv (comm s t left nv nm).cE k (s.now+1) (some v),nv:=nv',nm:=l }=comm s t f nv' l:=by
 have j:∀a:Ac,a≠k->Value.string a≠Value.string k:=λa r e=>r (by injection e)
 simp only[comm,XS.mk.injEq,true_and,and_true];refine⟨?_,?_⟩
 .funext a
  by_cases e:a=k
  .subst e;simp[cV,o,y,g]
  .simp[cV,e,h _ (j a e)]
 .funext a m
  by_cases e:a=k
  .subst e
   by_cases em:m=s.now+1
   .subst em;simp[jv,o,g]
   .simp[jv,em]
  .simp[jv,e,h _ (j a e)]
section
variable {own own':Nat->da}{c:Nat}{w w':Z}{p:Nat}{s:XS}{mo ph mv mm:Nat}{pt mw:Int->Nat}{sl:Ac->D}
def XR.tick (h:XR own c w p s mo ph mv mm pt mw sl)(n:Int):XR own c (w.setCell ⟨p,2,none⟩ (Y n)) p { s with now:=n } mo ph mv mm pt mw sl:=by
 have hb:∀b,b≠p->(w.setCell ⟨p,2,none⟩ (Y n)).heap[b]?=w.heap[b]?:=λb hb=>Below.heap_setCell w _ _ b hb
 refine⟨h.dc,h.dQ,h.fS,h.fh,h.gi,?_,?_,?_,h.ed,?_,?_,?_,?_,h.ib,λk a=>?_,h.log.frame (λb _ _ a=>hb b (oB h.dc a (by omega))) (λ_ _ _ _=>rfl),h.gV.frame (λb _ _ a=>hb b (qT h.dc a (by omega))) (λ_ _ _ _=>rfl)⟩
 .rw[vF h.store];rfl
 .exact(hb ph (dK (own:=own) (by rw[h.fS,h.dc];simp))).trans h.dJ
 .exact h.opn.of_block (hb mo (dK (own:=own) (by rw[h.dQ,h.dc];simp)))
 .intro n t e;exact(hb _ (dK (own:=own) (by rw[(h.ed n t e).1,h.dc];simp))).trans (h.tx n t e)
 .intro n t e;exact(h.wr n t e).of_block (hb _ (dK (own:=own) (by rw[(h.ed n t e).2,h.dc];simp)))
 .exact h.gn.of_block (hb mv (dK (own:=own) (by rw[h.fh,h.dc];simp)))
 .exact h.e9.of_block (hb mm (dK (own:=own) (by rw[h.gi,h.dc];simp)))
 .have l:=h.row k a;refine⟨l.1,?_⟩;rcases l.2 with o|⟨g,cap,f,e,j,y,r⟩
  .exact Or.inl o
  .exact Or.inr ⟨g,cap,f,e,j,(hb g (dK (own:=own) (by rw[h.ib k a g (by rw[e];rfl),h.dc];simp))).trans y,r⟩
def XR.PG (h:XR own c w p s mo ph mv mm pt mw sl)(n:Int):XR own c (w.setCell ⟨p,1,none⟩ (Y n)) p { s with cJ:=n } mo ph mv mm pt mw sl:=by
 have hb:∀b,b≠p->(w.setCell ⟨p,1,none⟩ (Y n)).heap[b]?=w.heap[b]?:=λb hb=>Below.heap_setCell w _ _ b hb
 refine⟨h.dc,h.dQ,h.fS,h.fh,h.gi,?_,?_,?_,h.ed,?_,?_,?_,?_,h.ib,λk a=>?_,h.log.frame (λb _ _ a=>hb b (oB h.dc a (by omega))) (λ_ _ _ _=>rfl),h.gV.frame (λb _ _ a=>hb b (qT h.dc a (by omega))) (λ_ _ _ _=>rfl)⟩
 .rw[vF h.store];rfl
 .exact(hb ph (dK (own:=own) (by rw[h.fS,h.dc];simp))).trans h.dJ
 .exact h.opn.of_block (hb mo (dK (own:=own) (by rw[h.dQ,h.dc];simp)))
 .intro n t e;exact(hb _ (dK (own:=own) (by rw[(h.ed n t e).1,h.dc];simp))).trans (h.tx n t e)
 .intro n t e;exact(h.wr n t e).of_block (hb _ (dK (own:=own) (by rw[(h.ed n t e).2,h.dc];simp)))
 .exact h.gn.of_block (hb mv (dK (own:=own) (by rw[h.fh,h.dc];simp)))
 .exact h.e9.of_block (hb mm (dK (own:=own) (by rw[h.gi,h.dc];simp)))
 .have l:=h.row k a;refine⟨l.1,?_⟩;rcases l.2 with o|⟨g,cap,f,e,j,y,r⟩
  .exact Or.inl o
  .exact Or.inr ⟨g,cap,f,e,j,(hb g (dK (own:=own) (by rw[h.ib k a g (by rw[e];rfl),h.dc];simp))).trans y,r⟩
variable {R:Al}
def Qn {cx:Int->Option XT}{tx:Int}:∀n t,(cN cx tx none) n=some t->cx n=some t:=λn t e=>by
 by_cases en:n=tx
 .subst en;rw[gH]at e;cases e
 .rw[xk _ en]at e;exact e
end
end
section
open Go.RowKit Go.Maps
section
variable {own own':Nat->da}{c:Nat}{w w':Z}{p:Nat}{s:XS}{mo ph mv mm:Nat}{pt mw:Int->Nat}{sl:Ac->D}
variable {R:Al}
def outer (own:Nat->da)(c n:Nat):Nat->da:=λb=>if b<n then own b else⟨c+1,99,0,eb⟩
def jk {n b:Nat}(h:b<n):outer own c n b=own b:=by simp[outer,h]
def mZ {n b:Nat}(h:n<=b):(outer own c n b).c≠c:=by
 have:¬b<n:=by omega
 simp[outer,this]
def XR.outer (h:XR own c w p s mo ph mv mm pt mw sl)(a:An w w'):XR (outer own c w.heap.size) c w' p s mo ph mv mm pt mw sl:=
 h.frame (λb hb _=>a.block b hb (λe=>e)) (λ_ hb _=>jk hb)
def fG.outer (h:fG own c)(a:db w):fG (outer own c w.heap.size) c:=by unfold fG;rw[jk a.lt.1,jk a.lt.2];exact h
def R0 (h:XR own c w p s mo ph mv mm pt mw sl)(hT:db w)(hN:fG own c)(t:Nat)(ht:t<4294967296)(hl:s.log.lg.length<=4999)(l:∀b∈s.log.lg,b.length<=400)
  (hR:∀w' own' W,Kp (λb=>(own b).c=c) w w'->(∀b,b<w.heap.size->own' b=own b)->W.lg=s.log.lg++[oe t]->W.sy=s.log.sy->
   XR own' c w' p { s with cJ:=t,log:=W } mo ph mv mm pt mw sl->R (.returned (.tuple #[])) w') :
  Calls prog 46 #[ab p,.agg #[.int .u8 72,Y t,ae]] w R:=by
 have Z:=bR h;have HT:=bR hT;have HN:=bR hN;have HR:=bR hR;have HL:=bR hl;have D:=bR l;have U:=bR ht;have b0:(w.alloc (.cells #[.int .u8 72,Y t,ae] 110)).cell? ⟨w.heap.size,0,none⟩=some (.int .u8 72):=by go_simp
 have b1:(w.alloc (.cells #[.int .u8 72,Y t,ae] 110)).cell? ⟨w.heap.size,1,none⟩=some (Y t):=by go_simp
 have b2:(w.alloc (.cells #[.int .u8 72,Y t,ae] 110)).cell? ⟨w.heap.size,2,none⟩=some (ae):=by go_simp
 have f:Hid (An w (w.alloc (.cells #[.int .u8 72,Y t,ae] 110))):=Kp.al _ _ _;clear h hT hN hR hl l ht
 go_enter func46,ntmps46
 go_wp2_with fail
 generalize w.alloc (.cells #[.int .u8 72,Y t,ae] 110)=A at b0 b1 b2 f ⊢
 go_region_law (refine lO rfl 78 _ _ _ rfl func78 (by kernel_rfl) (by kernel_rfl) _ (by simp[Act.eval];rfl) ?_;refine Gt (Z.out.outer (f.out.trans (Kp.dr _ _) (λ_ _ h=>h))) (HT.out.kept (f.out.trans (Kp.dr _ _) (λ_ _ h=>h))) (HN.out.outer HT.out) 72 t (ae) (oe t) HL.out D.out (by rw[Bw];omega) rfl (Or.inl ⟨t,ae,U.out,rfl,rfl,rfl⟩) (λb e=>by simp[Value.ownBlock]at e) ?_;intro C B l1 g r _ o y j;have H1:=bR j;have M:=bR g;have P:=bR r;have N:=bR o;have Q:=bR y;have d0:C.cell? ⟨w.heap.size,0,none⟩=some (.int .u8 72):=(g.cell (a:=⟨w.heap.size,0,none⟩) (bH A _ b0) (λe=>mZ (aW _) e.1)).trans b0;have d1:C.cell? ⟨w.heap.size,1,none⟩=some (Y t):=(g.cell (a:=⟨w.heap.size,1,none⟩) (bH A _ b1) (λe=>mZ (aW _) e.1)).trans b1;have c1:C.cell? ⟨p,1,none⟩=some (Y s.cJ):=ct j.store 1;have f1:C.frozen? ⟨p,1,none⟩=false:=sY j.store 1;clear g r o y j;refine⟨_,rfl,?_⟩)
 all_goals
  clear b0 b1 b2
  go_wp2_with fail
  refine bodyPost_ret (results_none rfl _ _ _) rfl ?_;refine HR.out _ B l1 ((((f.out.mono (λ_ _ h=>h.elim)).trans (Kp.dr _ _) (λ_ _ h=>h)).trans M.out (λb hb e=>?_)).trans (Kp.sc (S:=λb=>(own b).c=c) C _ _ (by show(own p).c=c;rw[Z.out.dc])) (λ_ _ h=>h)) (λb hb=>?_) N.out Q.out (H1.out.PG t)
  .have:=e.1;rw[jk hb]at this;exact this
  .rw[P.out b (aR hb f.out.size),jk hb]
end
end
section
open Go.RowKit Go.Maps
def eJ (ws:List (Ac × Ac × Bool))(k:Ac):Option (Ac × Bool):=(ws.find? (λx=>decide (x.1=k))).map (·.2)
def iU (ws:List (Ac × Ac × Bool))(j:Nat)(v:D):Bool:=match v with | .string k=>(ws.drop j).any (λx=>decide (x.1=k))|_=>false
def AW (ws:List (Ac × Ac × Bool))(k:Ac):(eJ ws k).isSome=ws.any (λx=>decide (x.1=k)):=by unfold eJ;rw[Option.isSome_map,Bool.eq_iff_iff,List.find?_isSome,List.any_eq_true]
def AV (ws:List (Ac × Ac × Bool))(a:(ws.map Prod.fst).Nodup):∀x∈ws,eJ ws x.1=some x.2:=by
 induction ws with
 |nil=>intro x f;cases f
 |cons y r h=>
  intro x f;rw[List.map_cons,List.nodup_cons]at a;rcases bE.1 f with rfl|f
  .simp[eJ]
  .have g:y.1≠x.1:=λe=>a.1 (by rw[e];exact aK.2 ⟨x,f,rfl⟩)
   have:=h a.2 x f;unfold eJ at this ⊢;rw[List.find?_cons_of_neg (by simpa using g)];exact this
def Ma (ws:List (Ac × Ac × Bool))(k:Ac):iU ws 0 (.string k)=(eJ ws k).isSome:=by rw[AW];rfl
def L8 (ws:List (Ac × Ac × Bool)):iU ws ws.length=λ_=>false:=by
 funext v
 unfold iU;split<;>simp
def L9 (ws:List (Ac × Ac × Bool))(g:(ws.map Prod.fst).Nodup)(j:Nat)(x:Ac × Ac × Bool)(o:ws[j]?=some x):iU ws j (.string x.1)=true/\iU ws (j+1) (.string x.1)=false/\∀z,z≠.string x.1->iU ws (j+1) z=iU ws j z:=by
 obtain⟨l,rfl⟩:=ak.1 o;have f:ws.drop j=ws[j]::ws.drop (j+1):=List.drop_eq_getElem_cons l;have a:((ws.drop j).map Prod.fst).Nodup:=by rw[List.map_drop];exact g.sublist (List.drop_sublist _ _)
 rw[f,List.map_cons,List.nodup_cons]at a;refine⟨?_,?_,λz B=>?_⟩
 .unfold iU;simp only[];rw[f,List.any_cons];simp
 .unfold iU;simp only[];rw[Bool.eq_false_iff];intro h;rw[List.any_eq_true]at h;obtain⟨y,r,e⟩:=h;exact a.1 (aK.2 ⟨y,r,by simpa using e⟩)
 .unfold iU;split
  .rename_i k
   rw[f,List.any_cons];have:¬ws[j].1=k:=λe=>B (by rw[e])
   simp[this]
  .rfl
section
variable {own own':Nat->da}{c:Nat}{w w':Z}{p:Nat}{s:XS}{mo ph mv mm:Nat}{pt mw:Int->Nat}{sl:Ac->D}
variable {R:Al}
def im.cells {g n cap:Nat}{ws:List (Ac × Ac × Bool)}(h:im w (ag g n cap) ws){j:Nat}{x:Ac × Ac × Bool}(a:ws[j]?=some x):w.cell? ⟨g,j*3,none⟩=some (.string x.1)/\w.cell? ⟨g,j*3+1,none⟩=some (.string x.2.1)/\w.cell? ⟨g,j*3+2,none⟩=some (.bool x.2.2):=by
 obtain⟨y,f,e,l⟩:=h;obtain⟨r,e2,o⟩:=l (λe=>by rw[e]at a;simp at a);injection e with e _ _
 rw[e2]at e;injection e with e
 injection e with e
 subst e;exact o j x a
structure uC (own0:Nat->da)(c:Nat)(w0:Z)(p:Nat)(s:XS)(rv:D)(ws:List (Ac × Ac × Bool))(mo ph mv mm:Nat)(pt mw:Int->Nat)(wr:Z)(own':Nat->da)(sl':Ac->D)(j nv nm:Nat):Prop where
 xr:XR own' c wr p (comm s ⟨0,eJ ws,0⟩ (iU ws j) nv nm) mo ph mv mm pt mw sl'
 wA:∀b,b<w0.heap.size->own' b=own0 b
 kp:Kp (λb=>(own0 b).c=c) w0 wr
 hv:nv<=s.nv+j
 hm:nm<=s.nm+j
 rd:im wr rv ws
def My {f:Nat->da}{w0 wr W:Z}{rv:D}{ws:List (Ac × Ac × Bool)}{a1:Ac->D}{j nv nm:Nat}(r:uC f c w0 p s rv ws mo ph mv mm pt mw wr own' a1 j nv nm)(P:(ws.map Prod.fst).Nodup)
  (key val:Ac) (g:Bool) (hx:ws[j]?=some (key,val,g)) (N:key.size<=8) (a4:0<=s.now/\s.now<2000) (a3:(s.bU key).length<1000000) (ba:s.nv+j<1000000) (a9:s.nm+j<1000000) (am:∀b,rv.ownBlock=some b->b<w0.heap.size/\(f b).c≠c)
  (y:An wr W)
  (hR:∀w' a o nv' l,uC f c w0 p s rv ws mo ph mv mm pt mw w' a o (j+1) nv' l->R (.returned (.tuple #[])) w') :
  Calls prog 79 #[ab ph,.string key,Y (s.now+1),.agg #[.string val,.bool g]] W R:=by
 obtain⟨M,Q,S⟩:=L9 ws P j _ hx;have an:eJ ws key=some (val,g):=AV ws P (key,val,g) (aI hx);have B:=r.xr.kept y;have U:(comm s ⟨0,eJ ws,0⟩ (iU ws j) nv nm).bU key=s.bU key:=by simp[comm,M]
 have hv:=r.hv;have hm:=r.hm;have kW:Kp (λb=>(f b).c=c) w0 W:=r.kp.trans y (λ_ _ h=>h.elim);refine RP B key val g (s.now+1) N (WalkArith.wf_i64 (by omega)) (by rw[U];omega) (show nm<1000000 by omega) (show nv<1000000 by omega) (λw' a o nv' l C ad h1 h2 a0=>?_);have a7:nv'<=nv+1:=h1;have a8:l<=nm+1:=h2;have hc:∀b,(b=mv\/b=mm\/own' b=⟨c,7,0,key⟩)->(own' b).c=c:=λb h=>by
  rcases h with h|h|h
  .rw[h,B.fh]
  .rw[h,B.gi]
  .rw[h]
 refine hR w' a o nv' l ⟨?_,λb hb=>?_,?_,by omega,by omega,?_⟩
 .rw[<- IQ s ⟨0,eJ ws,0⟩ (iU ws j) (iU ws (j+1)) nv nm nv' l key (val,g) an M Q S];exact a0
 .rw[ad b (aR hb kW.size)];exact r.wA b hb
 .refine kW.trans C (λb hb h=>?_);rw[<- r.wA b hb];exact hc b h
 .refine(r.rd.kept y).kp C (λb e h=>?_);obtain⟨h3,h4⟩:=am b e;exact h4 (by rw[<- r.wA b h3];exact hc b h)
def Gs (h:XR own c w p s mo ph mv mm pt mw sl)(hT:db w)(hN:fG own c)(rv:D)(ws:List (Ac × Ac × Bool))(c7:rv.oneCell'=true)(c3:im w rv ws)(M:ws≠[])(ca:(ws.map Prod.fst).Nodup)(hn:ws.length<=10)(a9:∀x∈ws,x.1.size<=8/\x.2.1.size<=20)(ce:∀b,rv.ownBlock=some b->(own b).c≠c)
  (hl:s.log.lg.length<=4999) (b6:∀b∈s.log.lg,b.length<=400) (a3:0<=s.now/\s.now<2000) (an:∀k,(s.bU k).length<1000000) (cc:s.nv+10<1000000) (cb:s.nm+10<1000000) (t:Nat) (ht:(t:Int)=s.now+1)
  (hR:∀w' own' N l' nv' ad,Kp (λb=>(own b).c=c) w w'->(∀b,b<w.heap.size->own' b=own b)->l'.lg=s.log.lg++[dg t ws]->l'.sy=s.log.sy->nv'<=s.nv+ws.length->ad<=s.nm+ws.length->
   XR own' c w' p (comm { s with log:=l' } ⟨0,eJ ws,0⟩ (λ_=>false) nv' ad) mo ph mv mm pt mw N->R (.returned (.tuple #[])) w') :
  Calls prog 46 #[ab p,.agg #[.int .u8 67,Y t,rv]] w R:=by
 obtain⟨pw,cap,rfl,ba⟩:=c3;obtain⟨g,rfl,hc⟩:=ba M;have bw:Hid (im w (ag g ws.length cap) ws):=⟨_,cap,rfl,ba⟩;have H0:=bR h;have HT:=bR hT;have HN:=bR hN;have HR:=bR hR;have HL:=bR hl;have cm:=bR b6;have bA:=bR a9;have cq:=bR ca;have Q:=bR ce;have cr:=bR M;have a7:=bR hn;have bv:=bR a3;have bq:=bR an;have cv:=bR cc;have cu:=bR cb;have y:Hid (g<w.heap.size):=by obtain⟨x,hx⟩:∃x,ws[0]?=some x:=⟨ws[0]'(List.length_pos_iff.2 M),aQ (List.length_pos_iff.2 M)⟩;exact bH w _ (hc 0 x hx).1
 have cl:Hid ((dg t ws).length<=400):=by have:=xY t ws a9;show _<=_;omega
 have cz:Hid (t<4294967296):=by show _<_;omega
 have dk:(ws.length:Int)<=10:=by omega
 have bB:=bR ht;have b0:(w.alloc (.cells #[.int .u8 67,Y t,ag g ws.length cap] 110)).cell? ⟨w.heap.size,0,none⟩=some (.int .u8 67):=by go_simp
 have b1:(w.alloc (.cells #[.int .u8 67,Y t,ag g ws.length cap] 110)).cell? ⟨w.heap.size,1,none⟩=some (Y t):=by go_simp
 have b2:(w.alloc (.cells #[.int .u8 67,Y t,ag g ws.length cap] 110)).cell? ⟨w.heap.size,2,none⟩=some (ag g ws.length cap):=by go_simp
 have o:Hid (An w (w.alloc (.cells #[.int .u8 67,Y t,ag g ws.length cap] 110))):=Kp.al _ _ _;clear h hT hN hR hl b6 a9 ca ce M hn a3 an cc cb ba hc ht
 go_enter func46,ntmps46
 go_wp2_with fail
 generalize w.alloc (.cells #[.int .u8 67,Y t,ag g ws.length cap] 110)=A at b0 b1 b2 o ⊢
 go_region_law (refine lO rfl 78 _ _ _ rfl func78 (by kernel_rfl) (by kernel_rfl) _ (by simp[Act.eval];rfl) ?_;refine Gt (H0.out.outer (o.out.trans (Kp.dr _ _) (λ_ _ h=>h))) (HT.out.kept (o.out.trans (Kp.dr _ _) (λ_ _ h=>h))) (HN.out.outer HT.out) 67 t (ag g ws.length cap) (dg t ws) HL.out cm.out cl.out rfl (Or.inr ⟨t,_,ws,cz.out,rfl,rfl,bw.out.kept (o.out.trans (Kp.dr _ _) (λ_ _ h=>h)),cr.out,by have:=a7.out;omega,λx hx=>by have:=bA.out x hx;omega,rfl⟩) (λb e=>by simp only[Value.ownBlock,aH]at e;subst e;rw[jk y.out];exact Q.out g rfl) ?_;intro r l l1 C cd _ b7 cf Z;have H1:=bR Z;have P:=bR C;have a8:=bR cd;have co:=bR b7;have cw:=bR cf;have d0:r.cell? ⟨w.heap.size,0,none⟩=some (.int .u8 67):=(C.cell (a:=⟨w.heap.size,0,none⟩) (bH A _ b0) (λe=>mZ (aW _) e.1)).trans b0;have d1:r.cell? ⟨w.heap.size,1,none⟩=some (Y t):=(C.cell (a:=⟨w.heap.size,1,none⟩) (bH A _ b1) (λe=>mZ (aW _) e.1)).trans b1;have d2:r.cell? ⟨w.heap.size,2,none⟩=some (ag g ws.length cap):=(C.cell (a:=⟨w.heap.size,2,none⟩) (bH A _ b2) (λe=>mZ (aW _) e.1)).trans b2;have c1:r.cell? ⟨p,2,none⟩=some (Y s.now):=ct Z.store 2;have f1:r.frozen? ⟨p,2,none⟩=false:=sY Z.store 2;have dl:w.heap.size≠p:=λe=>mZ (own:=own) (c:=c) (aW w.heap.size) (by rw[e,jk (by rw[<- e];exact bx (bX H0.out.store) (by rw[<- e];exact Nat.lt_irrefl _))];rw[H0.out.dc]);clear C cd b7 cf Z;refine⟨_,rfl,?_⟩)
 all_goals
  clear b0 b1 b2
  go_wp2_with fail
  have B:Hid (Kp (λb=>(l b).c=c) r (r.setCell ⟨p,2,none⟩ (Y t))):=Kp.sc r _ _ (by show(l p).c=c;rw[H1.out.dc]);have bS:Hid (XR l c (r.setCell ⟨p,2,none⟩ (Y t)) p (comm { s with log:=l1 } ⟨0,eJ ws,0⟩ (iU ws 0) s.nv s.nm) mo ph mv mm pt mw sl):=by have h1:=H1.out.tick t;rw[bB.out]at h1;have h2:=IP { s with log:=l1 } ⟨0,eJ ws,0⟩ (iU ws 0) (λk=>Ma ws k);rw[bB.out];show XR _ _ _ _ (comm { s with log:=l1 } ⟨0,eJ ws,0⟩ (iU ws 0) ({ s with log:=l1 }:XS).nv ({ s with log:=l1 }:XS).nm) _ _ _ _ _ _ _;rw[h2];exact h1
  have bl:Hid (l g=own g):=(a8.out g (aR y.out o.out.size)).trans (jk y.out);have bm:Hid (g<(r.setCell ⟨p,2,none⟩ (Y t)).heap.size):=aR (aR (aR y.out o.out.size) P.out.size) B.out.size;have am:Hid (im (r.setCell ⟨p,2,none⟩ (Y t)) (ag g ws.length cap) ws):=by
   refine((bw.out.kept (o.out.trans (Kp.dr _ _) (λ_ _ h=>h))).kp P.out (λb e h=>?_)).kp B.out (λb e h=>?_)
   .simp only[Value.ownBlock,aH]at e;subst e;have:=h.1;rw[jk y.out]at this;exact Q.out g rfl this
   .simp only[Value.ownBlock,aH]at e;subst e;rw[bl.out]at h;exact Q.out g rfl h
  generalize dd:r.setCell ⟨p,2,none⟩ (Y t)=W1 at B bS bm am ⊢;clear d0 d1 d2 c1 f1
  go_loopw [29] (λbf wr=>∃(j:Nat) (own':Nat->da) (N:Ac->D) (nv nm:Nat),j<=ws.length/\bf = Y j/\uC l c W1 p { s with log:=l1 } (ag g ws.length cap) ws mo ph mv mm pt mw wr own' N j nv nm) (λbf _=>ws.length-(intOf bf).toNat)
  case atStart=>exact⟨0,l,sl,s.nv,s.nm,aZ _,rfl,bS.out,λ_ _=>rfl,Kp.refl _ _,aW _,aW _,am.out⟩
  case round=>
   obtain⟨j,own',N,nv,nm,hj,rfl,hM⟩:=hrel
   by_cases cT:j<ws.length
   .obtain⟨x,hx⟩:∃x,ws[j]?=some x:=⟨ws[j],aQ cT⟩;obtain⟨a0,a1,a2⟩:=hM.rd.cells hx;obtain⟨key,val,f⟩:=x;have HM:=bR hM;have de:(j:Int)<ws.length:=by omega
    clear hM
    go_wp2_with fail
    clear a0 a1 a2;have e0:(wr.alloc (.cells #[.string key,.string val,.bool f] 153)).cell? ⟨wr.heap.size,0,none⟩=some (.string key):=by go_simp
    have e1:(wr.alloc (.cells #[.string key,.string val,.bool f] 153)).cell? ⟨wr.heap.size,1,none⟩=some (.string val):=by go_simp
    have e2:(wr.alloc (.cells #[.string key,.string val,.bool f] 153)).cell? ⟨wr.heap.size,2,none⟩=some (.bool f):=by go_simp
    have U:An wr (wr.alloc (.cells #[.string key,.string val,.bool f] 153)):=Kp.al _ _ _;generalize wr.alloc (.cells #[.string key,.string val,.bool f] 153)=W at e0 e1 e2 U ⊢;have bb:=HM.out.xr.kept U;have d3:W.cell? ⟨p,0,none⟩=some (ab ph):=ct bb.store 0;have d0:W.cell? ⟨p,2,none⟩=some (Y (s.now+1)):=ct bb.store 2;have b3:Hid (∀{R:Al},(∀w' be ci nv' ad,uC l c W1 p { s with log:=l1 } (ag g ws.length cap) ws mo ph mv mm pt mw w' be ci (j+1) nv' ad->R (.returned (.tuple #[])) w')->Calls prog 79 #[ab ph,.string key,Y (s.now+1),.agg #[.string val,.bool f]] W.drew R):=
     λhR=>My HM.out cq.out key val f hx (bA.out _ (aI hx)).1 bv.out (bq.out key) (by have:=cv.out;have:=a7.out;show s.nv+j<1000000;omega) (by have:=cu.out;have:=a7.out;show s.nm+j<1000000;omega) (λb e=>by simp only[Value.ownBlock,aH]at e;subst e;exact⟨bm.out,by rw[bl.out];exact Q.out g rfl⟩) (U.trans (Kp.dr _ _) (λ_ _ h=>h)) hR
    clear bb U hx
    go_region_law (refine lO rfl 79 _ _ _ rfl func79 (by kernel_rfl) (by kernel_rfl) _ (by simp[Act.eval];rfl) ?_;refine b3.out ?_;intro w5 a4 ck ch cg b5;have bp:=bR b5;clear b5;refine⟨_,rfl,?_⟩)
    all_goals
     clear e0 e1 e2 d0 d3 b3
     go_wp2_with fail
     first
      |go_roundw
       case rel=>exact⟨j+1,a4,ck,ch,cg,by omega,by go_num,bp.out⟩
       case measure=>simp[intOf];omega
      |exact⟨⟨j+1,a4,ck,ch,cg,by omega,by go_num,bp.out⟩,by simp[intOf];omega⟩
   .have cA:j=ws.length:=by omega
    subst cA;have HM:=bR hM;clear hM
    go_wp2_with fail
    first|go_end0|skip
    refine HR.out _ own' N l1 nv nm ((((o.out.mono (λ_ _ h=>h.elim)).trans (Kp.dr _ _) (λ_ _ h=>h)).trans P.out (λb hb e=>?_)).trans (B.out.trans HM.out.kp (λ_ _ h=>h)) (λb hb e=>?_)) (λb hb=>?_) co.out cw.out HM.out.hv HM.out.hm ?_
    .have:=e.1;rw[jk hb]at this;exact this
    .have S:=aR hb o.out.size;rw[a8.out b S,jk hb]at e;exact e
    .have S:=aR hb o.out.size;rw[HM.out.wA b (aR (aR S P.out.size) B.out.size),a8.out b S,jk hb]
    .have:=HM.out.xr;rw[L8]at this;exact this
end
end
section
open Go.RowKit Go.Maps
def ij (s:XS)(k:Ac)(t:Int):Ac × Bool:=
 match((s.bU k).filter (λm=>decide (m<=t))).getLast? with
 |none=>(eb,false)
 |some m=>match s.cE k m with|some v=>(v.1,!v.2)|none=>(eb,true)
def Cr:∀(l:List Int) (t:Int),l.Pairwise (·<·)->l.filter (λm=>decide (m<=t))=l.take (l.countP (λm=>decide (m<=t)))
 |[],_,_=>rfl
 |x::r,t,h=>by
  obtain⟨j,o⟩:=List.pairwise_cons.1 h
  by_cases f:x<=t
  .rw[List.filter_cons_of_pos (by simpa using f),List.countP_cons_of_pos (by simpa using f),List.take_succ_cons,Cr r t o]
  .have g:∀y∈r,¬y<=t:=λy a=>by have:=j y a;omega
   have e1:r.filter (λm=>decide (m<=t))=[]:=by rw[List.filter_eq_nil_iff];intro y a;simpa using g y a
   have e2:r.countP (λm=>decide (m<=t))=0:=by rw[List.countP_eq_zero];intro y a;simpa using g y a
   rw[List.filter_cons_of_neg (by simpa using f),List.countP_cons_of_neg (by simpa using f),e1,e2];rfl
section
variable {own own':Nat->da}{c:Nat}{w w':Z}{p:Nat}{s:XS}{mo ph mv mm:Nat}{pt mw:Int->Nat}{sl:Ac->D}
variable {R:Al}
def Gy (h:XR own c w p s mo ph mv mm pt mw sl)(key:Ac)(t:Int)(j:key.size<=8)(W:(s.bU key).length<1000000)(P:(s.bU key).Pairwise (·<·))(Z:∀m∈s.bU key,(Lit.int .i64 m).wf=true/\(s.cE key m).isSome=true)
  (y:∀w',An w w'->R (.returned (.tuple #[.string (ij s key t).1,.bool (ij s key t).2])) w') :
  Calls prog 91 #[ab ph,.string key,Y t] w R:=by
 have c0:w.cell? ⟨ph,0,none⟩=some (.map (some mv)):=ct h.dJ 0;have c1:w.cell? ⟨ph,1,none⟩=some (.map (some mm)):=ct h.dJ 1
 by_cases hm:s.bU key=[]
 .have hv:ij s key t=(eb,false):=by simp[ij,hm]
  rw[hv]at y;exact QS ph mm s.nm _ key t w c1 h.e9 j none 0 (by rw[iv,if_pos hm];rfl) (y w (Kp.refl _ _))
 .obtain⟨g,cap,hv,S⟩:=D7 (h.row key hm) hm;have U:((encS λk=>if s.bU k=[]then none else some (sl k)) (.string key)).getD (ae) = ag g (s.bU key).length cap:=by rw[iv,if_neg hm,hv];rfl
  have B:=Cr (s.bU key) t P
  by_cases M:(s.bU key).countP (λm=>decide (m<=t))=0
  .have l:ij s key t=(eb,false):=by simp[ij,B,M]
   rw[l]at y;exact QT ph mm s.nm _ key t w c1 h.e9 j g cap (s.bU key) U W S P M (λq=>y _ (Kp.drewN _ _ _))
  .obtain⟨a,f⟩:∃a,(s.bU key).countP (λm=>decide (m<=t))=a+1:=⟨_,(Nat.succ_pred_eq_of_ne_zero M).symm⟩;have N:a+1<=(s.bU key).length:=by rw[<- f];exact List.countP_le_length
   have C:(s.bU key).getD a 0∈s.bU key:=by simp only[List.getD,aQ (show a<(s.bU key).length by omega),aC];exact List.getElem_mem _
   obtain⟨Q,r⟩:=Z _ C;obtain⟨v,D⟩:=Option.isSome_iff_exists.1 r;have o:((s.bU key).filter (λm=>decide (m<=t))).getLast?=some ((s.bU key).getD a 0):=by rw[B,f,List.getLast?_eq_getElem?,aw,Nat.min_eq_left N,Nat.add_sub_cancel,bu];simp[List.getD,aQ (show a<(s.bU key).length by omega)]
   have l:ij s key t=(v.1,!v.2):=by simp only[ij,o,D]
   rw[l]at y;exact QU ph mv mm s.nm s.nv _ _ key t w c0 c1 h.e9 h.gn j g cap (s.bU key) U W S P a f _ rfl Q v.1 v.2 (by rw[JN,D];rfl) y
structure A5 (s:XS)(k:Ac):Prop where
 len:(s.bU k).length<1000000
 up:(s.bU k).Pairwise (·<·)
 cE:∀m∈s.bU k,(Lit.int .i64 m).wf=true/\(s.cE k m).isSome=true
end
end
section
open Go.RowKit Go.Maps
section
variable {own own':Nat->da}{c:Nat}{w w':Z}{p:Nat}{s:XS}{mo ph mv mm:Nat}{pt mw:Int->Nat}{sl:Ac->D}
variable {R:Al}
def R6 (h:XR own c w p s mo ph mv mm pt mw sl)(h0:R (.returned (Y s.now)) w) :
  Calls prog 15 #[ab p] w R:=by
 have c0:w.cell? ⟨p,2,none⟩=some (Y s.now):=ct h.store 2;clear h
 go_enter func15,ntmps15
 go_wp2
 exact h0
def dn (mu:Nat):XS:={ now:=0,cJ:=0,begun:=0,cx:=λ_=>none,dm:=0,bU:=λ_=>[],cE:=λ_ _=>none,nv:=0,nm:=0,log:=⟨ae,[],[],0⟩,bk:=⟨mu,0,λ_=>none,0⟩ }
def zm (mo ph mu:Nat):Ak:=#[ab ph,Y 0,Y 0,ae,Y 0,Y 0,Y 0,.map (some mo),Y 0,.map (some mu)]
def MS (w:Z)
  (a:R (.returned (.pointer (some ⟨w.heap.size+5,0,none⟩))) ((((((w.alloc (.map #[] 0)).alloc (.map #[] 0)).alloc (.cells #[.map (some w.heap.size),.map (some (w.heap.size+1))] 209)).alloc (.map #[] 0)).alloc (.map #[] 0)).alloc (.cells (zm (w.heap.size+3) (w.heap.size+2) (w.heap.size+4)) 102))) :
  Calls prog 33 #[] w R:=by
 have f:=@run_makeMap prog
 go_enter func33,ntmps33
 go_wp2
 exact a
end
end
section
open Go.RowKit Go.Maps Go.Sort
def jg (l:Aj):Ac:=⟨l.toArray⟩
def vZ (a:Ac):jg a.data.toList=a:=by simp[jg]
def om (l:Aj):(jg l).data.toList=l:=by simp[jg]
def blt (a b:Ac):Prop:=a.data.toList<b.data.toList
def Bt (a:Ac):¬blt a a:=List.lt_irrefl _
def HY {a b c:Ac}(h:blt a b)(f:blt b c):blt a c:=List.lt_trans h f
section
variable {w:Z}{base:Nat}{v:D}
end
end
section
open Go.RowKit Go.Maps
section
variable {P:Ad}{k:Af}{w:Z}{b n:Nat}{f:D->Option D}
def zC {f:DataW D}{R:D->Option (DataW D × List MemPlace)}(h:w.ownsMap P k R b n f){es:List (Lit × DataW D)}(e:f = .map es):∀p∈es,∃x,keyOf P k x=some p.1:=by
 obtain⟨j,a,_,F,_,l⟩:=h;intro p hp;rw[l]at e;injection e with e
 subst e;obtain⟨x,o,rfl⟩:=aK.1 (mem_sorted.1 hp);obtain⟨y,g⟩:=F.reads x o;exact⟨x.key,by rw[WideElems.rg_of g];exact WideElems.rd_key g⟩
def cH.Ir (h:cH w P k b n f)(K:Keyed P k)(L:List D)(Z:L.Nodup)(M:∀x,x∈L↔(f x).isSome=true):n=L.length:=by
 obtain⟨ch,R,hs,N⟩:=h;obtain⟨C,B,hp⟩:=R.tidy K;have j:=zC R B;rw[<- hs,B];show C.length=L.length;have key:∀x∈L,∃l,keyOf P k x=some l:=λx g=>N.key x ((M x).1 g)
 have U:(L.map λx=>keyOf P k x).Nodup:=by unfold List.Nodup;rw[List.pairwise_map];refine List.Pairwise.imp_of_mem (λ{a b} Y hb o e=>?_) Z;obtain⟨l,y⟩:=key a Y;exact o (K.inj y (e ▸ y))
 have W:(C.map λp=>some p.1).Nodup:=by unfold List.Nodup;rw[List.pairwise_map];exact hp.imp (λo e=>o (by injection e))
 have r:(L.map λx=>keyOf P k x).Perm (C.map λp=>some p.1):=by
  rw[List.perm_ext_iff_of_nodup U W];intro a;rw[aK,aK];constructor
  .rintro⟨x,g,rfl⟩;obtain⟨l,y⟩:=key x g;have S:=N.has x l y;rw[(M x).1 g,B,has_eq]at S;obtain⟨p,hp,Q⟩:=List.any_eq_true.1 S;exact⟨p,hp,by rw[y,WideAt.sameKey_eq Q]⟩
  .rintro⟨p,hp,rfl⟩;obtain⟨x,g⟩:=j p hp;refine⟨x,?_,g⟩;rw[M,<- N.has x p.1 g,B,has_eq,List.any_eq_true];exact⟨p,hp,WideAt.sameKey_self (K.key g)⟩
 have:=r.length_eq;simpa using this.symm
end
section
variable {own:Nat->da}{c:Nat}{w:Z}{p:Nat}{s:XS}{mo ph mv mm:Nat}{pt mw:Int->Nat}{sl:Ac->D}
end
end
section
open Go.RowKit Go.Maps Go.Sort Go.Shelf
def Fz (m:Nat):AnyZ.SortsIn prog sortedW_ren Fence.wide m:=
 ⟨λblk g cap j W h a f=>callsIn_wide.2 (AnyM.slices_Sort_string sortW blk g cap j W h a f),
  λp cap W=>callsIn_wide.2 (AnyM.slices_Sort_string_none sortW p cap W)⟩
def LS (b:Nat)(w:Z):Calls prog 127 #[.map (some b)] w λe w'=>e = .returned (.func (.func 172) #[] #[ab w.heap.size])/\w'=w.alloc (.cells #[.map (some b)] 130):=
 (callsIn_wide (n:=5)).1 (AnyZ.keys_in keysW Fence.wide 5 trivial rfl (some b) w)
def P9(b r:Nat)(w:Z)(f:w.ownsMap prog 9 nZ b r a)(o:Maps.size a<=1000) :
  Calls prog 126 #[.func (.func 172) #[] #[ab w.heap.size]] (w.alloc (.cells #[.map (some b)] 130)) λe w'=>∃(v:D) (h:List (Aj)),e = .returned v/\h.Perm (strKeys a)/\
   w'.ownsRow (w.alloc (.cells #[.map (some b)] 130)).heap.size 9 1 v h.length ((h.mergeSort (λx y=>decide (x<=y))).map encStr)/\Below (w.alloc (.cells #[.map (some b)] 130)).heap.size (w.alloc (.cells #[.map (some b)] 130)) w':=by
 have l:=f.lt;have j:SeqGives Fence.wide 2 prog 172 #[ab w.heap.size] encStr (λh=>h.Perm (strKeys a)) (Maps.size a) (w.alloc (.cells #[.map (some b)] 130)):=
  AnyZ.keys_gives (ρ:=keysW_ren) { keysW with } Fence.wide _ trivial rfl (by omega) w.heap.size b r a _ (by simp) (by simp) (by obtain⟨C,g,hb,B,S,R⟩:=f;exact⟨C,g,(Below.heap_alloc _ _ b l).trans hb,B,S,R⟩)
 have:=AnyZ.sorted_in sortedW Fence.wide 5 trivial trivial trivial trivial rfl (by omega) (Fz _) (enters_of func133 (by kernel_rfl) rfl) 172 #[ab w.heap.size] trivial (enters_of func172 (by kernel_rfl) rfl) _ _ (by unfold maxLen;omega) (by omega) _ j;refine((callsIn_wide (n:=5)).1 this).mono ?_;rintro e w' ⟨v,h,M,N,P,_,Q⟩;exact⟨v,h,M,N,P,Q⟩
def Dh (a b:Aj):(decide (a<=b) || decide (b<=a))=true:=by simp only[bz,bC];exact List.le_total a b
def Di (a b c:Aj)(h1:decide (a<=b)=true)(f:decide (b<=c)=true):decide (a<=c)=true:=by simp only[bC]at *;exact List.le_trans h1 f
def qF (l:Aj):encStr l = .string (jg l):=by simp[encStr,jg]
def P8 (b n:Nat)(f:D->Option D)(w:Z)(h:cH w prog 9 b n f)(hn:n<=1000) :
  Calls prog 126 #[.func (.func 172) #[] #[ab w.heap.size]] (w.alloc (.cells #[.map (some b)] 130)) λe w'=>∃(v:D) (ks:List Ac),e = .returned v/\ks.Pairwise blt/\(∀k,k∈ks↔(f (.string k)).isSome=true)/\ks.length=n/\
   w'.ownsRow w.heap.size 9 1 v ks.length (ks.map Value.string)/\An w w':=by
 obtain⟨ch,hO,hs,hf⟩:=h;refine(P9 b n w hO (by omega)).mono ?_;rintro e w' ⟨v,B,he,j,M,U⟩;obtain⟨es,Q,hp⟩:=hO.tidy gS;have r:=zC hO Q;have hk:∀q∈es,∃x,q.1 = .string x:=λq R=>by obtain⟨x,P⟩:=r q R;obtain⟨l,_,C,_⟩:=Maps.keyOf_str underlying9 P;exact⟨l,C⟩
 have an:(strKeys ch).Nodup:=by rw[Q];show(es.map λp=>strOf p.1).Nodup;refine List.pairwise_map.2 (hp.imp_of_mem λ{a b} ha hb a0 e=>a0 ?_);obtain⟨x,P⟩:=hk a ha;obtain⟨y,hy⟩:=hk b hb;rw[P,hy]at e ⊢;exact congrArg _ e
 have Y:∀k:Ac,k.data.toList∈strKeys ch↔(f (.string k)).isSome=true:=λk=>by
  rw[Q];show k.data.toList∈(es.map λp=>strOf p.1)↔_;rw[aK];constructor
  .rintro⟨q,R,e⟩;obtain⟨x,P⟩:=r q R;obtain⟨l,e1,e2,_⟩:=Maps.keyOf_str underlying9 P;rw[e2]at e;have e':l=k.data.toList:=e;have a4:x = .string k:=by rw[e1,qF,e',vZ]
   rw[<- a4,<- hf.has x q.1 P,Q,has_eq,List.any_eq_true];exact⟨q,R,WideAt.sameKey_self (gS.key P)⟩
  .intro h;obtain⟨l,C⟩:=hf.key _ h;have hh:=hf.has _ l C;rw[h,Q,has_eq]at hh;obtain⟨q,R,a3⟩:=List.any_eq_true.1 hh;obtain⟨x,e1,e2,_⟩:=Maps.keyOf_str underlying9 C;refine⟨q,R,?_⟩;rw[WideAt.sameKey_eq a3,e2];have:Value.string k = .string (jg x):=by rw[<- qF];exact e1
   show x=_;rw[Value.string.inj this,om]
 have o:=List.mergeSort_perm B (λx y=>decide (x<=y));have a1:=List.pairwise_mergeSort (le:=λx y=>decide (x<=y)) Di Dh B;have ad:(B.mergeSort (λx y=>decide (x<=y))).Nodup:=(o.trans j).nodup_iff.2 an;have W:(B.mergeSort (λx y=>decide (x<=y))).length=B.length:=o.length_eq;have N:B.length=n:=by rw[j.length_eq,<- hs,Q];simp[strKeys,Maps.size]
 refine⟨v,(B.mergeSort (λx y=>decide (x<=y))).map jg,he,?_,λk=>?_,by simpa using N,?_,?_⟩
 .rw[List.pairwise_map];refine(a1.and ad).imp ?_;intro a b S;show(jg a).data.toList<(jg b).data.toList;rw[om,om];have h1:a<=b:=by simpa using S.1
  rcases List.le_iff_lt_or_eq.1 h1 with h2|h2
  .exact h2
  .exact bx h2 S.2
 .rw[<- Y k,<- (o.trans j).mem_iff,aK];constructor
  .rintro⟨l,C,rfl⟩;rw[om];exact C
  .intro C;exact⟨_,C,vZ k⟩
 .have h3:w'.ownsRow w.heap.size 9 1 v B.length ((B.mergeSort (λx y=>decide (x<=y))).map encStr):=⟨M.1,M.2.imp id (λ⟨g,cap,am,e1,e2,e3⟩=>⟨g,cap,am,e1,aX (by simp) e2,e3⟩)⟩;rw[List.length_map,W,List.map_map];have:(Value.string ∘ jg)=encStr:=by funext l;exact(qF l).symm
  rw[this];exact h3
 .exact(Kp.al (λ_=>False) w _).trans (Kp.qW U _) (λ_ _ h=>h)
end
section
open Go.RowKit Go.Maps Go.Sort Go.Shelf
def LR (b:Nat)(w:Z):Calls prog 137 #[.map (some b)] w λe w'=>e = .returned (.func (.func 181) #[] #[ab w.heap.size])/\w'=w.alloc (.cells #[.map (some b)] 207):=
 (callsIn_wide (n:=5)).1 (AnyZ.keys_in keysM Fence.wide 5 trivial rfl (some b) w)
def P7(b r:Nat)(w:Z)(f:w.ownsMap prog 9 nZ b r a)(o:Maps.size a<=30000) :
  Calls prog 126 #[.func (.func 181) #[] #[ab w.heap.size]] (w.alloc (.cells #[.map (some b)] 207)) λe w'=>∃(v:D) (h:List (Aj)),e = .returned v/\h.Perm (strKeys a)/\
   w'.ownsRow (w.alloc (.cells #[.map (some b)] 207)).heap.size 9 1 v h.length ((h.mergeSort (λx y=>decide (x<=y))).map encStr)/\Below (w.alloc (.cells #[.map (some b)] 207)).heap.size (w.alloc (.cells #[.map (some b)] 207)) w':=by
 have l:=f.lt;have j:SeqGives Fence.wide 2 prog 181 #[ab w.heap.size] encStr (λh=>h.Perm (strKeys a)) (Maps.size a) (w.alloc (.cells #[.map (some b)] 207)):=
  AnyZ.keys_gives (ρ:=keysM_ren) { keysM with } Fence.wide _ trivial rfl (by omega) w.heap.size b r a _ (by simp) (by simp) (by obtain⟨C,g,hb,B,S,R⟩:=f;exact⟨C,g,(Below.heap_alloc _ _ b l).trans hb,B,S,R⟩)
 have:=AnyZ.sorted_in sortedW Fence.wide 5 trivial trivial trivial trivial rfl (by omega) (Fz _) (enters_of func133 (by kernel_rfl) rfl) 181 #[ab w.heap.size] trivial (enters_of func181 (by kernel_rfl) rfl) _ _ (by unfold maxLen;omega) (by omega) _ j;refine((callsIn_wide (n:=5)).1 this).mono ?_;rintro e w' ⟨v,h,M,N,P,_,Q⟩;exact⟨v,h,M,N,P,Q⟩
def P6 (b n:Nat)(f:D->Option D)(w:Z)(h:cH w prog 9 b n f)(hn:n<=30000) :
  Calls prog 126 #[.func (.func 181) #[] #[ab w.heap.size]] (w.alloc (.cells #[.map (some b)] 207)) λe w'=>∃(v:D) (ks:List Ac),e = .returned v/\ks.Pairwise blt/\(∀k,k∈ks↔(f (.string k)).isSome=true)/\ks.length=n/\
   w'.ownsRow w.heap.size 9 1 v ks.length (ks.map Value.string)/\An w w':=by
 obtain⟨ch,hO,hs,hf⟩:=h;refine(P7 b n w hO (by omega)).mono ?_;rintro e w' ⟨v,B,he,j,M,U⟩;obtain⟨es,Q,hp⟩:=hO.tidy gS;have r:=zC hO Q;have hk:∀q∈es,∃x,q.1 = .string x:=λq R=>by obtain⟨x,P⟩:=r q R;obtain⟨l,_,C,_⟩:=Maps.keyOf_str underlying9 P;exact⟨l,C⟩
 have an:(strKeys ch).Nodup:=by rw[Q];show(es.map λp=>strOf p.1).Nodup;refine List.pairwise_map.2 (hp.imp_of_mem λ{a b} ha hb a0 e=>a0 ?_);obtain⟨x,P⟩:=hk a ha;obtain⟨y,hy⟩:=hk b hb;rw[P,hy]at e ⊢;exact congrArg _ e
 have Y:∀k:Ac,k.data.toList∈strKeys ch↔(f (.string k)).isSome=true:=λk=>by
  rw[Q];show k.data.toList∈(es.map λp=>strOf p.1)↔_;rw[aK];constructor
  .rintro⟨q,R,e⟩;obtain⟨x,P⟩:=r q R;obtain⟨l,e1,e2,_⟩:=Maps.keyOf_str underlying9 P;rw[e2]at e;have e':l=k.data.toList:=e;have a4:x = .string k:=by rw[e1,qF,e',vZ]
   rw[<- a4,<- hf.has x q.1 P,Q,has_eq,List.any_eq_true];exact⟨q,R,WideAt.sameKey_self (gS.key P)⟩
  .intro h;obtain⟨l,C⟩:=hf.key _ h;have hh:=hf.has _ l C;rw[h,Q,has_eq]at hh;obtain⟨q,R,a3⟩:=List.any_eq_true.1 hh;obtain⟨x,e1,e2,_⟩:=Maps.keyOf_str underlying9 C;refine⟨q,R,?_⟩;rw[WideAt.sameKey_eq a3,e2];have:Value.string k = .string (jg x):=by rw[<- qF];exact e1
   show x=_;rw[Value.string.inj this,om]
 have o:=List.mergeSort_perm B (λx y=>decide (x<=y));have a1:=List.pairwise_mergeSort (le:=λx y=>decide (x<=y)) Di Dh B;have ad:(B.mergeSort (λx y=>decide (x<=y))).Nodup:=(o.trans j).nodup_iff.2 an;have W:(B.mergeSort (λx y=>decide (x<=y))).length=B.length:=o.length_eq;have N:B.length=n:=by rw[j.length_eq,<- hs,Q];simp[strKeys,Maps.size]
 refine⟨v,(B.mergeSort (λx y=>decide (x<=y))).map jg,he,?_,λk=>?_,by simpa using N,?_,?_⟩
 .rw[List.pairwise_map];refine(a1.and ad).imp ?_;intro a b S;show(jg a).data.toList<(jg b).data.toList;rw[om,om];have h1:a<=b:=by simpa using S.1
  rcases List.le_iff_lt_or_eq.1 h1 with h2|h2
  .exact h2
  .exact bx h2 S.2
 .rw[<- Y k,<- (o.trans j).mem_iff,aK];constructor
  .rintro⟨l,C,rfl⟩;rw[om];exact C
  .intro C;exact⟨_,C,vZ k⟩
 .have h3:w'.ownsRow w.heap.size 9 1 v B.length ((B.mergeSort (λx y=>decide (x<=y))).map encStr):=⟨M.1,M.2.imp id (λ⟨g,cap,am,e1,e2,e3⟩=>⟨g,cap,am,e1,aX (by simp) e2,e3⟩)⟩;rw[List.length_map,W,List.map_map];have:(Value.string ∘ jg)=encStr:=by funext l;exact(qF l).symm
  rw[this];exact h3
 .exact(Kp.al (λ_=>False) w _).trans (Kp.qW U _) (λ_ _ h=>h)
end
section
open Go.RowKit Go.Maps Go.Lib
structure RS where
 bs:Aj
 wr:Bool
def RS.bad (s:RS):RS:={ s with wr:=true }
def RS.take (s:RS)(n:Nat):Option (Aj) × RS:=if s.wr=true\/s.bs.length<n then(none,s.bad)else(some (s.bs.take n),⟨s.bs.drop n,false⟩)
def RS.one (s:RS):Nat × RS:=(match(s.take 1).1 with|some l=>(l.getD 0 0).toNat|none=>0,(s.take 1).2)
def iT (l:Aj):Nat:=(l.getD 0 0).toNat+256*(l.getD 1 0).toNat+65536*(l.getD 2 0).toNat+16777216*(l.getD 3 0).toNat
def RS.four (s:RS):Nat × RS:=(match(s.take 4).1 with|some l=>iT l|none=>0,(s.take 4).2)
def RS.text (s:RS):Aj × RS:=((((s.one).2.take (s.one).1).1).getD [],((s.one).2.take (s.one).1).2)
def cX (w:Z)(v:D)(bs:Aj)(g:Nat):Prop:=
 ∃o cap,v = .slice (some ⟨g,o,none⟩) bs.length cap/\bs.length<=cap/\∀j,j<bs.length->w.cell? ⟨g,o+j,none⟩=some (b8 (bs.getD j 0))
def cX.rd{w:Z}{v:D}{bs:Aj}(h:cX w v bs g):jx w v bs:=by obtain⟨o,cap,rfl,_,a⟩:=h;exact⟨_,cap,rfl,λ_=>⟨g,o,rfl,a⟩⟩
def cX.kp{w w':Z}{v:D}{bs:Aj}(h:cX w v bs g)(l:Kp S w w')(y:¬S g):cX w' v bs g:=by obtain⟨o,cap,rfl,r,a⟩:=h;exact⟨o,cap,rfl,r,λj f=>(l.cell (bH _ _ (a j f)) y).trans (a j f)⟩
def cX.kept{w w':Z}{v:D}{bs:Aj}(h:cX w v bs g)(a:An w w'):cX w' v bs g:=h.kp a (λe=>e)
structure dM (w:Z)(r:Nat)(s:RS)(v:D)(g:Nat):Prop where
 blk:w.heap[r]?=some (.cells #[v,.bool s.wr] 303 (0,0))
 rd:cX w v s.bs g
 ne:g≠r
 lt:g<w.heap.size
def dM.kp{w w':Z}{s:RS}{v:D}(h:dM w r s v g)(a:Kp S w w')(h1:¬S r)(f:¬S g):dM w' r s v g:=
 ⟨(a.block r (bX h.blk) h1).trans h.blk,h.rd.kp a f,h.ne,aR h.lt a.size⟩
def dM.xy{w:Z}{s:RS}{v:D}(h:dM w r s v g):dM (w.setCell ⟨r,1,none⟩ (.bool true)) r s.bad v g:=
 ⟨cZ h.blk _,h.rd.kp (Kp.sc (S:=λb=>b=r) w _ _ rfl) h.ne,h.ne,aR h.lt (Kp.sc (S:=λb=>b=r) w _ _ rfl).size⟩
def dM.on{w:Z}{s:RS}{v v':D}(h:dM w r s v g)(f:s.wr=false){bs:Aj}(a:cX w v' bs g):dM (w.setCell ⟨r,0,none⟩ v') r ⟨bs,false⟩ v' g:=
 ⟨by rw[<- f];exact cZ h.blk _,a.kp (Kp.sc (S:=λb=>b=r) w _ _ rfl) h.ne,h.ne,aR h.lt (Kp.sc (S:=λb=>b=r) w _ _ rfl).size⟩
def cX.take{w:Z}{cap:Nat}{bs:Aj}(r:bs.length<=cap)(f:∀j,j<bs.length->w.cell? ⟨g,o+j,none⟩=some (b8 (bs.getD j 0)))(n:Nat)(l:n<=bs.length):cX w (.slice (some ⟨g,o,none⟩) n cap) (bs.take n) g:=
 ⟨o,cap,by rw[aw,Nat.min_eq_left l],by rw[aw];omega,λj h=>by
  rw[aw]at h;have a:j<n:=by omega
  rw[f j (by omega)];simp[List.getD,a]⟩
def cX.drop{w:Z}{cap:Nat}{bs:Aj}(h:bs.length<=cap)(a:∀j,j<bs.length->w.cell? ⟨g,o+j,none⟩=some (b8 (bs.getD j 0)))(n:Nat)(l:n<=bs.length):cX w (.slice (some ⟨g,o+n,none⟩) (bs.length-n) (cap-n)) (bs.drop n) g:=
 ⟨o+n,cap-n,by rw[aG],by rw[aG];omega,λj f=>by rw[aG]at f;rw[Nat.add_assoc,a (n+j) (by omega)];simp[List.getD]⟩
def cX.vd{w:Z}{bs:Aj}(n:Nat)(f:n=bs.length):cX w (.slice (some ⟨g,o,none⟩) 0 0) (bs.drop n) g:=by subst f;exact⟨o,0,by simp,by simp,λj a=>by simp at a⟩
section
variable {R:Al}
def AE (r:Nat)(s:RS)(v:D)(g n:Nat)(w:Z)(h:dM w r s v g)(hn:n<=1100000)(W:s.bs.length<=1100000)
  (h1:(s.take n).1=none->dM (w.setCell ⟨r,1,none⟩ (.bool true)) r (s.take n).2 v g->R (.returned (ae)) (w.setCell ⟨r,1,none⟩ (.bool true)))
  (B:∀l U M,(s.take n).1=some l->l.length=n->dM (w.setCell ⟨r,0,none⟩ M) r (s.take n).2 M g->cX (w.setCell ⟨r,0,none⟩ M) U l g->R (.returned U) (w.setCell ⟨r,0,none⟩ M)) :
  Calls prog 205 #[ab r,Y n] w R:=by
 have H:=bR h;obtain⟨o,cap,rfl,a,j⟩:=h.rd;have c0:w.cell? ⟨r,0,none⟩=some (.slice (some ⟨g,o,none⟩) s.bs.length cap):=ct h.blk 0;have c1:w.cell? ⟨r,1,none⟩=some (.bool s.wr):=ct h.blk 1;have f0:=dA h.blk 0;have f1:=dA h.blk 1;have ad:(n:Int)<=1100000:=by omega
 by_cases q:s.wr=true\/s.bs.length<n
 .have e:s.take n=(none,s.bad):=by simp[RS.take,q]
  rw[e]at h1;have y:=bR (h1 rfl h.xy);clear h h1 B j e
  by_cases f:s.wr=true
  .rw[f]at c1;clear q
   go_enter func205,ntmps205
   go_wp2_with fail
   exact y.out
  .have C:(s.bs.length:Int)<n:=q.elim (λe=>bx e f) (λe=>by omega);have P:s.wr=false:=by simpa using f
   rw[P]at c1;clear q f
   go_enter func205,ntmps205
   go_wp2_with fail
   exact y.out
 .have e:s.take n=(some (s.bs.take n),⟨s.bs.drop n,false⟩):=by simp[RS.take,q]
  have f:s.wr=false:=by cases hw:s.wr<;>simp_all
  have C:n<=s.bs.length:=by omega
  have P:¬(s.bs.length:Int)<n:=by omega
  have q4:n<=cap:=by omega
  rw[e]at B;have y:=bR B;rw[f]at c1
  by_cases q5:cap=n
  .have Q:s.bs.length=n:=by omega
   have e0:cX w (.slice (some ⟨g,o,none⟩) 0 0) (s.bs.drop n) g:=cX.vd n Q.symm;have N:=bR (y.out (s.bs.take n) (.slice (some ⟨g,o,none⟩) n cap) (.slice (some ⟨g,o,none⟩) 0 0) rfl (by rw[aw];omega) (h.on f e0) ((cX.take a j n C).kp (Kp.sc (S:=λb=>b=r) w _ _ rfl) h.ne));clear h h1 B e q j;subst q5;rw[Q]at c0;clear C P a W
   go_enter func205,ntmps205
   go_wp2_with fail
   exact N.out
  .have e0:=cX.drop (w:=w) (g:=g) (o:=o) a j n C;have N:=bR (y.out (s.bs.take n) (.slice (some ⟨g,o,none⟩) n cap) _ rfl (by rw[aw];omega) (h.on f e0) ((cX.take a j n C).kp (Kp.sc (S:=λb=>b=r) w _ _ rfl) h.ne));clear h h1 B e q j
   go_enter func205,ntmps205
   go_wp2_with fail
   exact N.out
def mn (r:Nat)(s:RS)(v:D)(g:Nat)(w:Z)(h:dM w r s v g)(Q:s.bs.length<=1100000)
  (M:∀w' v',dM w' r s.one.2 v' g->Kp (λb=>b=r) w w'->R (.returned (Y s.one.1)) w') :
  Calls prog 206 #[ab r] w R:=by
 have H:=bR h;have S:=bR Q;have C:=bR M;clear h Q M
 go_enter func206,ntmps206
 go_wp2_with (first
  |(go_at_call 205;refine AE r s v g 1 w H.out (by omega) S.out ?_ ?_)
  |fail)
 .intro e y;have a:=bR (C.out _ v (by unfold RS.one;exact y) (Kp.sc w _ _ rfl));have e1:s.one.1=0:=by simp[RS.one,e]
  rw[e1]at a;clear y
  go_wp2_with fail
  exact a.out
 .intro l v1 v2 e j y B;have a:=bR (C.out _ v2 (by unfold RS.one;exact y) (Kp.sc w _ _ rfl));have e1:s.one.1=(l.getD 0 0).toNat:=by simp[RS.one,e]
  rw[e1]at a;obtain⟨o,cap,rfl,P,N⟩:=B;have f:=N 0 (by omega);rw[j];generalize U:l.getD 0 0=x at a f;have W:=x.toNat_lt;simp only[b8,Nat.add_zero]at f;clear y N U
  go_wp2_with fail
  exact a.out
end
end
section
open Go.RowKit Go.Maps Go.Lib
section
variable {R:Al}
def zA (a b k K:Nat)(g:K=2 ^ k)(h:a<K):a ||| (b*K)=a+b*K:=by subst g;have f:=Nat.two_pow_add_eq_or_of_lt h b;rw[Nat.or_comm,Nat.mul_comm b,<- f];omega
def qa (n:Nat)(h:n<4294967296):IntKind.u32.wrap (n:Int)=(n:Int):=by simp only[IntKind.wrap,IntKind.bits,IntKind.signed];simp;omega
def Nn (a b c d:Nat)(f:a<256)(hb:b<256)(g:c<256)(h:d<256) :
  bits .or .u32 (bits .or .u32 (bits .or .u32 (IntKind.u32.wrap (a:Int)) (IntKind.u32.wrap (IntKind.u32.wrap (b:Int)*256))) (IntKind.u32.wrap (IntKind.u32.wrap (c:Int)*65536))) (IntKind.u32.wrap (IntKind.u32.wrap (d:Int)*16777216))=((a+256*b+65536*c+16777216*d:Nat):Int):=by
 have e1:(b:Int)*256=((b*256:Nat):Int):=by omega
 have e2:(c:Int)*65536=((c*65536:Nat):Int):=by omega
 have e3:(d:Int)*16777216=((d*16777216:Nat):Int):=by omega
 rw[qa a (by omega),qa b (by omega),qa c (by omega),qa d (by omega),e1,e2,e3,qa _ (by omega),qa _ (by omega),qa _ (by omega)];rw[xZ _ _ (by omega) (by omega),zA _ _ 8 256 (by decide) f,xZ _ _ (by omega) (by omega),zA _ _ 16 65536 (by decide) (by omega),xZ _ _ (by omega) (by omega),zA _ _ 24 16777216 (by decide) (by omega)];omega
def Dg (l:Aj):iT l<4294967296:=by unfold iT;have a:=(l.getD 0 0).toNat_lt;have f:=(l.getD 1 0).toNat_lt;have g:=(l.getD 2 0).toNat_lt;have h:=(l.getD 3 0).toNat_lt;omega
def j8 (r:Nat)(s:RS)(v:D)(g:Nat)(w:Z)(h:dM w r s v g)(hl:s.bs.length<=1100000)
  (hR:∀w' v',dM w' r s.four.2 v' g->Kp (λb=>b=r) w w'->R (.returned (.int .u32 (s.four.1:Nat))) w') :
  Calls prog 174 #[ab r] w R:=by
 have H:=bR h;have HL:=bR hl;have HR:=bR hR;have a0:∀(w:Z) (a:Option Addr) (n c n' c':Nat),(binOp .eql 48 (.slice a n c) (.slice none n' c')).run prog w = .ok (.bool a.isNone) w:=λw a n c n' c'=>Lib.run_eql_slice_nil w _ _ a n c n' c' underlying48
 clear h hl hR
 go_enter func174,ntmps174
 go_wp2_with (first
  |(go_at_call 205;refine AE r s v g 4 w H.out (by omega) HL.out ?_ ?_)
  |fail)
 .intro e U;have HF:=bR (HR.out _ v (by unfold RS.four;exact U) (Kp.sc w _ _ rfl));have e1:s.four.1=0:=by simp[RS.four,e]
  rw[e1]at HF;clear U
  go_wp2_with fail
  exact HF.out
 .intro l v1 Y e S U am;have P:Hid (dM (w.setCell ⟨r,0,none⟩ Y) r s.four.2 Y g):=by unfold RS.four;exact U
  have N:Hid (Kp (λb=>b=r) w (w.setCell ⟨r,0,none⟩ Y)):=Kp.sc w _ _ rfl;have E1:Hid (s.four.1=iT l):=by simp[Hid,RS.four,e]
  obtain⟨o,cap,rfl,an,Q⟩:=am;have j:=Q 0 (by omega);have y:=Q 1 (by omega);have B:=Q 2 (by omega);have C:=Q 3 (by omega);rw[S];have M:Hid (iT l=(l.getD 0 0).toNat+256*(l.getD 1 0).toNat+65536*(l.getD 2 0).toNat+16777216*(l.getD 3 0).toNat):=rfl;generalize l.getD 0 0=x0 at M j;generalize l.getD 1 0=x1 at M y;generalize l.getD 2 0=x2 at M B;generalize l.getD 3 0=x3 at M C;have h0:=x0.toNat_lt;have h1:=x1.toNat_lt;have h2:=x2.toNat_lt;have h3:=x3.toNat_lt;simp only[b8,Nat.add_zero]at j y B C;clear U Q
  go_wp2_with fail
  have ad:=bR (Nn x0.toNat x1.toNat x2.toNat x3.toNat (by omega) (by omega) (by omega) (by omega));generalize hW:w.setCell ⟨r,0,none⟩ Y=W at j y B C P N ⊢;clear hW
  go_region_held3 (λw'=>w'.cell? ⟨g,o,none⟩=some (.int .u8 (x0.toNat:Nat))/\w'.cell? ⟨g,o+1,none⟩=some (.int .u8 (x1.toNat:Nat))/\w'.cell? ⟨g,o+2,none⟩=some (.int .u8 (x2.toNat:Nat))/\w'.cell? ⟨g,o+3,none⟩=some (.int .u8 (x3.toNat:Nat))) (go_keep) (fail)
  all_goals
   have f:=HR.out W.drew Y (P.out.kp (Kp.dr (λ_=>False) W) (λe=>e) (λe=>e)) (N.out.trans (Kp.dr _ _) (λ_ _ h=>h));rw[E1.out,M.out,<- ad.out]at f;have HF:=bR f;clear f
   go_wp2_with fail
   exact HF.out
end
end
section
open Go.RowKit Go.Maps Go.Lib
def fE (l:Aj):Ac:=⟨l.toArray⟩
def RS.key (s:RS):Ac × RS:=(fE s.text.1,if dy (fE s.text.1)=true then s.text.2 else s.text.2.bad)
def RS.cE (s:RS):(Ac × Bool) × RS:=
 if s.one.1=0 then((fE s.one.2.text.1,false),if(fE s.one.2.text.1).size<=20 then s.one.2.text.2 else s.one.2.text.2.bad)
 else if s.one.1=1 then((eb,true),s.one.2)
 else((eb,false),s.one.2.bad)
def RS.done (s:RS):Bool:=!s.wr && s.bs.isEmpty
section
variable {R:Al}
def RS.ji (s:RS):s.one.2.bs.length<=s.bs.length:=by
 show(s.take 1).2.bs.length<=_;unfold RS.take;split
 .exact aW _
 .show(s.bs.drop 1).length<=_;rw[aG];omega
def RS.qY (s:RS):s.one.1<256:=by
 unfold RS.one;split
 .exact UInt8.toNat_lt _
 .omega
def IZ (w:Z):(convert 48 9 (ae)).run prog w = .ok (.string ⟨#[]⟩) w:=by
 rw[run_convert_bytes_string (P:=prog) w 48 9 5 none 0 0 underlying48 underlying5 underlying9]
 rfl
def I0 (w:Z)(g o cap:Nat)(l:Aj)(f:∀j,j<l.length->w.cell? ⟨g,o+j,none⟩=some (b8 (l.getD j 0))):(convert 48 9 (.slice (some ⟨g,o,none⟩) l.length cap)).run prog w = .ok (.string (fE l)) w:=
 run_convert_bytes_back (P:=prog) w 48 9 5 ⟨g,o,none⟩ cap l underlying48 underlying5 underlying9 (λj a=>by rw[addr_add,f j a];simp[b8,List.getD,a])
def wN (r:Nat)(s:RS)(v:D)(g:Nat)(w:Z)(h:dM w r s v g)(hl:s.bs.length<=1100000)
  (W:∀w' v',dM w' r s.text.2 v' g->Kp (λb=>b=r) w w'->R (.returned (.string (fE s.text.1))) w') :
  Calls prog 260 #[ab r] w R:=by
 have H:=bR h;have Q:=bR hl;have U:=bR W;have HO:=bR s.ji;have N:=bR s.qY;clear h hl W
 go_enter func260,ntmps260
 go_wp2_with (first
  |(go_at_call 206;refine mn r s v g w H.out Q.out ?_;intro w1 v1 M y;have H1:=bR M;have f:=bR y;clear M y)
  |(go_at_call 205;refine AE r s.one.2 v1 g s.one.1 w1 H1.out (by have:=N.out;omega) (by have:=HO.out;have:=Q.out;omega) ?_ ?_)
  |fail)
 .intro e C;have a:=bR (U.out _ v1 (by unfold RS.text;exact C) (f.out.trans (Kp.sc (S:=λb=>b=r) _ _ _ rfl) (λ_ _ h=>h)));have e1:s.text.1=[]:=by simp[RS.text,e]
  rw[e1]at a;have q:=IZ (w1.setCell ⟨r,1,none⟩ (.bool true));clear C
  go_wp2_with fail
  exact a.out
 .intro l v2 v3 e B C P;have a:=bR (U.out _ v3 (by unfold RS.text;exact C) (f.out.trans (Kp.sc (S:=λb=>b=r) _ _ _ rfl) (λ_ _ h=>h)));have e1:s.text.1=l:=by simp[RS.text,e]
  rw[e1]at a;obtain⟨o,cap,rfl,j,Y⟩:=P;have q:=I0 _ g o cap l Y;clear C Y B e e1 j
  go_wp2_with fail
  exact a.out
def RS.FT (s:RS):s.text.2.bs.length<=s.bs.length:=by
 have h:=s.ji;show((s.one).2.take (s.one).1).2.bs.length<=_;unfold RS.take;split
 .exact h
 .show(s.one.2.bs.drop _).length<=_;rw[aG];omega
def RS.FU (s:RS):s.text.1.length<=255:=by
 have h:=s.qY;show((((s.one).2.take (s.one).1).1).getD []).length<=_;unfold RS.take;split
 .simp
 .simp;omega
def wZ (l:Aj):(fE l).size=l.length:=by simp[fE,ByteArray.size]
def EW (r:Nat)(s:RS)(v:D)(g:Nat)(w:Z)(h:dM w r s v g)(Q:s.bs.length<=1100000)
  (P:∀w' v',dM w' r s.key.2 v' g->Kp (λb=>b=r) w w'->R (.returned (.string s.key.1)) w') :
  Calls prog 243 #[ab r] w R:=by
 have H:=bR h;have M:=bR Q;have N:=bR s.FU;have C:∀j l,dM j r s.text.2 l g->j.cell? ⟨r,1,none⟩=some (.bool s.text.2.wr)/\j.frozen? ⟨r,1,none⟩=false:=λj l U=>⟨ct U.blk 1,dA U.blk 1⟩
 have W:=bR C;have o:=bR P;clear h Q P C
 by_cases y:dy (fE s.text.1)=true
 .have e1:s.key=(fE s.text.1,s.text.2):=by simp[RS.key,y]
  rw[e1]at o;clear e1
  go_enter func243,ntmps243
  go_wp2_with (first
   |(go_at_call 260;refine wN r s v g w H.out M.out ?_;intro j l a f;have B:=bR (o.out j l a f);clear a f)
   |(go_at_call 67;refine(kU _ _ (by rw[wZ];have:=N.out;unfold maxLen;omega)).mono ?_;rintro e w' ⟨rfl,rfl⟩)
   |fail)
  exact B.out
 .have Y:dy (fE s.text.1)=false:=by simpa using y
  have e1:s.key=(fE s.text.1,s.text.2.bad):=by simp[RS.key,y]
  rw[e1]at o;clear e1 y
  go_enter func243,ntmps243
  go_wp2_with (first
   |(go_at_call 260;refine wN r s v g w H.out M.out ?_;intro j l a f;obtain⟨c1,f1⟩:=W.out j l a;have B:=bR (o.out _ l a.xy (f.trans (Kp.sc (S:=λb=>b=r) _ _ _ rfl) (λ_ _ h=>h)));clear a f)
   |(go_at_call 67;refine(kU _ _ (by rw[wZ];have:=N.out;unfold maxLen;omega)).mono ?_;rintro e w' ⟨rfl,rfl⟩)
   |fail)
  exact B.out
def sO (r:Nat)(s:RS)(v:D)(g:Nat)(w:Z)(h:dM w r s v g)(M:s.bs.length<=1100000)
  (B:R (.returned (.bool s.done)) w) :
  Calls prog 192 #[ab r] w R:=by
 obtain⟨o,cap,rfl,j,P⟩:=h.rd;have c0:w.cell? ⟨r,0,none⟩=some (.slice (some ⟨g,o,none⟩) s.bs.length cap):=ct h.blk 0;have c1:w.cell? ⟨r,1,none⟩=some (.bool s.wr):=ct h.blk 1;have f:=bR B;unfold RS.done at f;clear h B P;cases C:s.wr with
 |true=>
  rw[C]at c1 f
  go_enter func192,ntmps192
  go_wp2_with fail
  exact f.out
 |false=>
  rw[C]at c1 f
  by_cases y:s.bs.length=0
  .have e:s.bs.isEmpty=true:=by simpa using y
   rw[e]at f;rw[y]at c0;clear y e j
   go_enter func192,ntmps192
   go_wp2_with fail
   exact f.out
  .have e:s.bs.isEmpty=false:=by
    cases hb:s.bs with
    |nil=>rw[hb]at y;simp at y
    |cons a l=>rfl
   rw[e]at f;have N:((s.bs.length:Int) == 0)=false:=by simpa using y
   generalize s.bs.length=n at c0 N j y;clear e
   go_enter func192,ntmps192
   go_wp2_with fail
   exact f.out
end
end
section
open Go.RowKit Go.Maps Go.Lib
section
variable {R:Al}
def xl{w:Z}{s:RS}{v:D}{x y:D}(l:r<w.heap.size)(j:g<w.heap.size)(a:dM d r s v g)(f:Kp (λb=>b=r) (w.alloc (.cells #[.string ⟨#[]⟩,.bool false] 138)) d) :
  dM ((d.setCell ⟨w.heap.size,0,none⟩ x).setCell ⟨w.heap.size,1,none⟩ y) r s v g/\Kp (λb=>b=r) w ((d.setCell ⟨w.heap.size,0,none⟩ x).setCell ⟨w.heap.size,1,none⟩ y):=by
 have k:Kp (λb=>b=w.heap.size) d ((d.setCell ⟨w.heap.size,0,none⟩ x).setCell ⟨w.heap.size,1,none⟩ y):=(Kp.sc (S:=λb=>b=w.heap.size) _ _ _ rfl).trans (Kp.sc (S:=λb=>b=w.heap.size) _ _ _ rfl) (λ_ _ h=>h);exact⟨a.kp k (λe=>by omega) (λe=>by omega),((Kp.al _ _ _).trans f (λ_ _ h=>h)).trans k (λb hb e=>by omega)⟩
def F8 (r:Nat)(s:RS)(v:D)(g:Nat)(w:Z)(h:dM w r s v g)(hl:s.bs.length<=1100000)
  (hR:∀w' v',dM w' r s.cE.2 v' g->Kp (λb=>b=r) w w'->R (.returned (.agg #[.string s.cE.1.1,.bool s.cE.1.2])) w') :
  Calls prog 244 #[ab r] w R:=by
 have hr:=bX h.blk;have hg:=h.lt;have ha:=Kp.al (λ_=>False) w (.cells #[.string ⟨#[]⟩,.bool false] 138);have H:Hid (dM (w.alloc (.cells #[.string ⟨#[]⟩,.bool false] 138)) r s v g):=h.kp ha (λe=>e) (λe=>e);have HL:=bR hl;have W:=bR hr;have HO:=bR s.ji;have HS:=bR s.one.2.FU;have C:∀f s1 U,dM f r s1 U g->f.cell? ⟨r,1,none⟩=some (.bool s1.wr)/\f.frozen? ⟨r,1,none⟩=false:=λf s1 U hr=>⟨ct hr.blk 1,dA hr.blk 1⟩
 have HC:=bR C;have Y:=bR hR;have hb:=bI w (.cells #[.string ⟨#[]⟩,.bool false] 138);have ch:∀f,Kp (λb=>b=r) (w.alloc (.cells #[.string ⟨#[]⟩,.bool false] 138)) f->f.heap[w.heap.size]?=some (.cells #[.string ⟨#[]⟩,.bool false] 138 (0,0)):=λf hk=>(hk.block _ (bX hb) (λe=>by omega)).trans hb
 have o:=bR ch;have HG:=bR hg;have ad:w.heap.size≠r:=by omega
 clear h hl hR C ha hr hb ch hg
 by_cases q0:s.one.1=0
 .by_cases q1:(fE s.one.2.text.1).size<=20
  .have e1:s.cE=((fE s.one.2.text.1,false),s.one.2.text.2):=by simp[RS.cE,q0,q1]
   rw[e1]at Y;clear e1
   go_enter func244,ntmps244
   go_wp2_with (first
    |(go_at_call 206;refine mn r s v g _ H.out HL.out ?_;intro f U l a;rw[q0];have H1:=bR l;have B:=bR a;clear l a)
    |(go_at_call 260;refine wN r s.one.2 U g f H1.out (by have:=HO.out;have:=HL.out;omega) ?_;intro M v2 N Q;have H2:=bR N;have j:Hid (Kp (λb=>b=r) (w.alloc (.cells #[.string ⟨#[]⟩,.bool false] 138)) M):=B.out.trans Q (λ_ _ h=>h);have c0:M.cell? ⟨w.heap.size,0,none⟩=some (.string ⟨#[]⟩):=ct (o.out M j.out) 0;have c1:M.cell? ⟨w.heap.size,1,none⟩=some (.bool false):=ct (o.out M j.out) 1;have f0:=dA (o.out M j.out) 0;have f1:=dA (o.out M j.out) 1;obtain⟨c2,f2⟩:=HC.out M _ v2 N;clear N Q)
    |(go_at_call 68;refine(vN _ _ (by rw[wZ];have:=HS.out;unfold maxLen;omega)).mono ?_;rintro e w' ⟨rfl,rfl⟩)
    |fail)
   refine bodyPost_ret (results_cell_row rfl _ _ w.heap.size 138 #[.string (fE s.one.2.text.1),.bool false] (0,0) _ rfl ?_ underlying138 rfl (by kernel_rfl)) rfl ?_
   .exact cZ (cZ (o.out _ j.out) _) _
   have P:=xl (x:=.string (fE s.one.2.text.1)) (y:=.bool false) W.out HG.out H2.out j.out;exact Y.out _ _ P.1 P.2
  .have e1:s.cE=((fE s.one.2.text.1,false),s.one.2.text.2.bad):=by simp[RS.cE,q0,q1]
   rw[e1]at Y;clear e1
   go_enter func244,ntmps244
   go_wp2_with (first
    |(go_at_call 206;refine mn r s v g _ H.out HL.out ?_;intro f U l a;rw[q0];have H1:=bR l;have B:=bR a;clear l a)
    |(go_at_call 260;refine wN r s.one.2 U g f H1.out (by have:=HO.out;have:=HL.out;omega) ?_;intro M v2 N Q;have H2:=bR N;have j:Hid (Kp (λb=>b=r) (w.alloc (.cells #[.string ⟨#[]⟩,.bool false] 138)) M):=B.out.trans Q (λ_ _ h=>h);have c0:M.cell? ⟨w.heap.size,0,none⟩=some (.string ⟨#[]⟩):=ct (o.out M j.out) 0;have c1:M.cell? ⟨w.heap.size,1,none⟩=some (.bool false):=ct (o.out M j.out) 1;have f0:=dA (o.out M j.out) 0;have f1:=dA (o.out M j.out) 1;obtain⟨c2,f2⟩:=HC.out M _ v2 N;clear N Q)
    |(go_at_call 68;refine(vN _ _ (by rw[wZ];have:=HS.out;unfold maxLen;omega)).mono ?_;rintro e w' ⟨rfl,rfl⟩)
    |fail)
   refine bodyPost_ret (results_cell_row rfl _ _ w.heap.size 138 #[.string (fE s.one.2.text.1),.bool false] (0,0) _ rfl ?_ underlying138 rfl (by kernel_rfl)) rfl ?_
   .exact cZ (cZ (o.out _ (j.out.trans (Kp.sc (S:=λb=>b=r) _ _ _ rfl) (λ_ _ h=>h))) _) _
   have P:=xl (x:=.string (fE s.one.2.text.1)) (y:=.bool false) W.out HG.out H2.out.xy (j.out.trans (Kp.sc (S:=λb=>b=r) _ _ _ rfl) (λ_ _ h=>h));exact Y.out _ _ P.1 P.2
 .by_cases q1:s.one.1=1
  .have e1:s.cE=((eb,true),s.one.2):=by simp[RS.cE,q1]
   rw[e1]at Y;clear e1 q0
   go_enter func244,ntmps244
   go_wp2_with (first
    |(go_at_call 206;refine mn r s v g _ H.out HL.out ?_;intro f U l a;rw[q1];have c0:f.cell? ⟨w.heap.size,0,none⟩=some (.string ⟨#[]⟩):=ct (o.out f a) 0;have c1:f.cell? ⟨w.heap.size,1,none⟩=some (.bool false):=ct (o.out f a) 1;have f0:=dA (o.out f a) 0;have f1:=dA (o.out f a) 1;obtain⟨c2,f2⟩:=HC.out f _ U l;have H1:=bR l;have B:=bR a;clear l a)
    |fail)
   refine bodyPost_ret (results_cell_row rfl _ _ w.heap.size 138 #[.string eb,.bool true] (0,0) _ rfl ?_ underlying138 rfl (by kernel_rfl)) rfl ?_
   .exact cZ (cZ (o.out _ B.out) _) _
   have P:=xl (x:=.string eb) (y:=.bool true) W.out HG.out H1.out B.out;exact Y.out _ _ P.1 P.2
  .have e1:s.cE=((eb,false),s.one.2.bad):=by simp[RS.cE,q0,q1]
   rw[e1]at Y;have am:((s.one.1:Int) == 0)=false:=by simpa using q0
   have an:((s.one.1:Int) == 1)=false:=by simp;omega
   clear e1
   go_enter func244,ntmps244
   go_wp2_with (first
    |(go_at_call 206;refine mn r s v g _ H.out HL.out ?_;intro f U l a;have c0:f.cell? ⟨w.heap.size,0,none⟩=some (.string ⟨#[]⟩):=ct (o.out f a) 0;have c1:f.cell? ⟨w.heap.size,1,none⟩=some (.bool false):=ct (o.out f a) 1;have f0:=dA (o.out f a) 0;have f1:=dA (o.out f a) 1;obtain⟨c2,f2⟩:=HC.out f _ U l;have H1:=bR l;have B:=bR a;clear l a)
    |fail)
   refine bodyPost_ret (results_cell_row rfl _ _ w.heap.size 138 #[.string eb,.bool false] (0,0) _ rfl ?_ underlying138 rfl (by kernel_rfl)) rfl ?_
   .exact cZ (cZ (o.out _ (B.out.trans (Kp.sc (S:=λb=>b=r) _ _ _ rfl) (λ_ _ h=>h))) _) _
   have P:=xl (x:=.string eb) (y:=.bool false) W.out HG.out H1.out.xy (B.out.trans (Kp.sc (S:=λb=>b=r) _ _ _ rfl) (λ_ _ h=>h));exact Y.out _ _ P.1 P.2
end
end
section
open Go.RowKit Go.Maps Go.Lib
abbrev bN:=@IntWalk.i64_in
def fe (bs:Aj)(n:Nat):Option (Aj × Aj):=
 if bs.length<n+4\/iT ((bs.drop n).take 4)≠dO (bs.take n)then none else some (bs.take n,bs.drop (n+4))
section
variable {R:Al}
def mY (a:Option Addr)(n c:Nat)(w:Z)
  (f:R (.returned (ab w.heap.size)) (w.alloc (.cells #[.slice a n c,.bool false] 303))) :
  Calls prog 144 #[.slice a n c] w R:=by
 have g:=bR f;clear f
 go_enter func144,ntmps144
 go_wp2_with fail
 exact g.out
def ny{w:Z}{v:D}{bs:Aj}(h:cX w v bs g)(a:g<w.heap.size):dM (w.alloc (.cells #[v,.bool false] 303)) w.heap.size ⟨bs,false⟩ v g:=
 ⟨bI w _,h.kept (Kp.al _ _ _),by omega,aR a (Kp.al (λ_=>False) w _).size⟩
def F0 (v:D)(bs:Aj)(g n:Nat)(w:Z)(h:cX w v bs g)(hg:g<w.heap.size)(W:db w)(hn:n<=100000)(hl:bs.length<=1100000)
  (h1:fe bs n=none->∀w',An w w'->R (.returned (.tuple #[ae,ae,.bool false])) w')
  (U:∀v1 S w',fe bs n=some (bs.take n,bs.drop (n+4))->cX w' v1 (bs.take n) g->cX w' S (bs.drop (n+4)) g->An w w'->R (.returned (.tuple #[v1,S,.bool true])) w') :
  Calls prog 173 #[v,Y n] w R:=by
 obtain⟨o,cap,rfl,f,Q⟩:=h;have an:(n:Int)<=100000:=by omega
 by_cases q:bs.length<n+4
 .have e:fe bs n=none:=by simp[fe,q]
  have M:=bR (h1 e w (Kp.refl _ _));have q':(bs.length:Int)<(n:Int)+4:=by omega
  clear h1 U e q Q W
  go_enter func173,ntmps173
  go_wp2_with fail
  refine bodyPost_ret (results_tmp3 rfl _ _ _) rfl ?_;exact M.out
 .have q':¬(bs.length:Int)<(n:Int)+4:=by omega
  have HT:=bR W;have am:=bR f;have HG:=bR hg;have HL:=bR hl;have q2:n<=cap:=by omega
  have q3:n+4<=cap:=by omega
  have B:Hid (cX w (.slice (some ⟨g,o,none⟩) n cap) (bs.take n) g):=cX.take f Q n (by omega);have C:Hid (cX w (.slice (some ⟨g,o+n,none⟩) 4 (cap-n)) ((bs.drop n).take 4) g):=by
   obtain⟨o2,c2,e1,e2,e3⟩:=cX.drop (w:=w) (g:=g) (o:=o) f Q n (by omega);injection e1 with e1 e4 e5
   injection e1 with e1
   injection e1 with _ e1
   subst e1;subst e5;exact cX.take e2 e3 4 (by rw[aG];omega)
  have l:Hid ((⟨(bs.drop n).take 4,false⟩:RS).four.1=iT ((bs.drop n).take 4)):=by simp only[Hid,RS.four,RS.take];rw[if_neg (by simp;omega)];simp[List.take_take]
  have a0:IntKind.i64.wrap ((n:Int)+4)=(n:Int)+4:=bN _ (by omega);have a1:(0:Int)<=(n:Int)+4:=by omega
  have ad:(n:Int)+4<=bs.length:=by omega
  by_cases N:iT ((bs.drop n).take 4)=dO (bs.take n)
  .have e:fe bs n=some (bs.take n,bs.drop (n+4)):=by simp[fe,q,N]
   have M:∀S w',cX w S (bs.drop (n+4)) g->An w w'->R (.returned (.tuple #[.slice (some ⟨g,o,none⟩) n cap,S,.bool true])) w':=λS w' hv hk=>U _ _ _ e (B.out.kept hk) (hv.kept hk) hk
   by_cases q5:cap=n+4
   .have P:=bR (M (.slice (some ⟨g,o,none⟩) 0 0) · (cX.vd (n+4) (by omega)));rw[N]at l;have q6:bs.length=n+4:=by omega
    clear h1 U Q W f hg hl q hn M e N q' q3 ad;subst q5;rw[q6];rw[show n+4-n=4 by omega]at C
    go_enter func173,ntmps173
    go_wp2_with (first
    |(go_at_call 144;refine mY _ _ _ _ ?_)
    |(go_at_call 174;refine j8 w.heap.size ⟨(bs.drop n).take 4,false⟩ _ g _ (ny C.out HG.out) (by simp;omega) ?_;intro w1 v1 r j;rw[l.out];have a:Hid (An w w1):=((Kp.al (λ_=>False) w _).trans j (λb hb e=>by omega));clear r j)
    |(go_at_call 204;refine(v8 _ (bs.take n) _ (HT.out.kept a.out) (by simp;have:=HL.out;omega) (B.out.rd.kept a.out)).mono ?_;rintro e w' ⟨rfl,rfl⟩)
    |fail)
    go_region_law fail
    all_goals
     go_wp2_with fail
     refine bodyPost_ret (results_tmp3 rfl _ _ _) rfl ?_;exact P.out _ (a.out.trans (Kp.dr _ _) (λ_ _ h=>h))
   .have P:=bR (M _ · (cX.drop (w:=w) (g:=g) (o:=o) f Q (n+4) (by omega)));rw[N]at l;clear h1 U Q W f hg hl q hn M e N
    go_enter func173,ntmps173
    go_wp2_with (first
    |(go_at_call 144;refine mY _ _ _ _ ?_)
    |(go_at_call 174;refine j8 w.heap.size ⟨(bs.drop n).take 4,false⟩ _ g _ (ny C.out HG.out) (by simp;omega) ?_;intro w1 v1 r j;rw[l.out];have a:Hid (An w w1):=((Kp.al (λ_=>False) w _).trans j (λb hb e=>by omega));clear r j)
    |(go_at_call 204;refine(v8 _ (bs.take n) _ (HT.out.kept a.out) (by simp;have:=HL.out;omega) (B.out.rd.kept a.out)).mono ?_;rintro e w' ⟨rfl,rfl⟩)
    |fail)
    go_region_law fail
    all_goals
     go_wp2_with fail
     refine bodyPost_ret (results_tmp3 rfl _ _ _) rfl ?_;exact P.out _ (a.out.trans (Kp.dr _ _) (λ_ _ h=>h))
  .have e:fe bs n=none:=by simp[fe,N]
   have M:=bR (h1 e);clear h1 U Q W f hg hl q hn e;generalize iT ((bs.drop n).take 4)=x at l N;generalize hy:dO (bs.take n)=y at N;have hx:((x:Int) == (y:Int))=false:=by simp;omega
   go_enter func173,ntmps173
   go_wp2_with (first
    |(go_at_call 144;refine mY _ _ _ _ ?_)
    |(go_at_call 174;refine j8 w.heap.size ⟨(bs.drop n).take 4,false⟩ _ g _ (ny C.out HG.out) (by simp;omega) ?_;intro w1 v1 r j;rw[l.out];have a:Hid (An w w1):=((Kp.al (λ_=>False) w _).trans j (λb hb e=>by omega));clear r j)
    |(go_at_call 204;refine(v8 _ (bs.take n) _ (HT.out.kept a.out) (by simp;have:=HL.out;omega) (B.out.rd.kept a.out)).mono ?_;rintro e w' ⟨rfl,rfl⟩)
    |fail)
   refine bodyPost_ret (results_tmp3 rfl _ _ _) rfl ?_;exact M.out _ a.out
def QO (p:Option Addr)(len cap n:Nat)(w:Z)(g:n<=100000)(q:len<n+4)
  (a:R (.returned (.tuple #[ae,ae,.bool false])) w) :
  Calls prog 173 #[.slice p len cap,Y n] w R:=by
 have f:=bR a;have h:(len:Int)<(n:Int)+4:=by omega
 clear a q
 go_enter func173,ntmps173
 go_wp2_with fail
 refine bodyPost_ret (results_tmp3 rfl _ _ _) rfl ?_;exact f.out
def eS (w:Z)(v:D)(bs:Aj)(g:Nat):Prop:=
 ∃p cap,v = .slice p bs.length cap/\bs.length<=cap/\(bs≠[]->g<w.heap.size/\∃o,p=some ⟨g,o,none⟩/\∀j,j<bs.length->w.cell? ⟨g,o+j,none⟩=some (b8 (bs.getD j 0)))
def eS.kp{w w':Z}{v:D}{bs:Aj}(h:eS w v bs g)(l:Kp S w w')(C:¬S g):eS w' v bs g:=by obtain⟨p,cap,rfl,B,r⟩:=h;refine⟨p,cap,rfl,B,λhb=>?_⟩;obtain⟨y,o,rfl,a⟩:=r hb;exact⟨aR y l.size,o,rfl,λj f=>(l.cell (bH _ _ (a j f)) C).trans (a j f)⟩
def eS.OU{w:Z}{v:D}{bs:Aj}(h:eS w v bs g)(hb:bs≠[]):cX w v bs g/\g<w.heap.size:=by obtain⟨p,cap,rfl,l,f⟩:=h;obtain⟨j,o,rfl,a⟩:=f hb;exact⟨⟨o,cap,rfl,l,a⟩,j⟩
def FZ (v:D)(bs:Aj)(g n:Nat)(w:Z)(h:eS w v bs g)(r:db w)(l:n<=100000)(C:bs.length<=1100000)
  (h1:fe bs n=none->∀w',An w w'->R (.returned (.tuple #[ae,ae,.bool false])) w')
  (o:∀a f w',fe bs n=some (bs.take n,bs.drop (n+4))->g<w.heap.size->cX w' a (bs.take n) g->cX w' f (bs.drop (n+4)) g->An w w'->R (.returned (.tuple #[a,f,.bool true])) w') :
  Calls prog 173 #[v,Y n] w R:=by
 by_cases hb:bs=[]
 .obtain⟨p,cap,rfl,_,_⟩:=h;subst hb;exact QO p _ cap n w l (by simp) (h1 (by simp[fe]) w (Kp.refl _ _))
 .obtain⟨y,j⟩:=h.OU hb;exact F0 v bs g n w y j r l C h1 (λa f w' e M N B=>o a f w' e j M N B)
end
end
section
open Go.RowKit Go.Maps Go.Lib
def DN (bs:Aj)(i:Nat):(bs.map λb=>(b.toNat:Int)).getD i 0=((bs.getD i 0).toNat:Int):=by simp only[List.getD,bt];cases bs[i]?<;>simp
def DM (bs:Aj):Lib.bytesOf (bs.map λb=>(b.toNat:Int))=bs:=by simp[Lib.bytesOf,Function.comp_def]
def gO (bs:Aj):Option Nat:=match fe bs 7 with
 |none=>none
 |some (c,_)=>if [80,76,49].isPrefixOf c then some (iT (c.drop 3))else none
section
variable {R:Al}
def BT (v:D)(bs:Aj)(g:Nat)(a:Aj)(g1 c1:Nat)(w:Z)(h:cX w v bs g)(B:∀j,j<a.length->w.cell? ⟨g1,0+j,none⟩=some (b8 (a.getD j 0)))
  (h1:a.isPrefixOf bs=false->∀v',R (.returned (.tuple #[v',.bool false])) w)
  (N:a.isPrefixOf bs=true->∀v',cX w v' (bs.drop a.length) g->R (.returned (.tuple #[v',.bool true])) w) :
  Calls prog 142 #[v,ag g1 a.length c1] w R:=by
 obtain⟨o,cap,rfl,f,C⟩:=h;refine(bytes_CutPrefix g o bs.length cap g1 0 a.length c1 (bs.map λb=>(b.toNat:Int)) (a.map λb=>(b.toNat:Int)) w (by simp) (by simp) f (λj r=>?_) (λj r=>?_)).mono ?_
 .rw[DN];exact C j r
 .rw[DN];exact B j r
 .rintro e M ⟨rfl,rfl⟩;unfold Lib.bytesTrimPrefix;rw[DM,DM];show R (.returned (.tuple #[_,.bool (a.isPrefixOf bs)])) M;cases hp:a.isPrefixOf bs with
  |false=>exact h1 hp _
  |true=>
   have y:a.length<=bs.length:=(List.isPrefixOf_iff_prefix.1 hp).length_le;refine N hp _ ?_;have e0:Lib.hasPrefix bs a=true:=hp;rw[if_pos e0];unfold Lib.sliceFrom;rw[List.length_map]
   by_cases l:cap=a.length
   .rw[if_pos l];have e1:bs.length-a.length=0:=by omega
    have e2:cap-a.length=0:=by omega
    rw[e1,e2];exact cX.vd a.length (by omega)
   .rw[if_neg l];exact cX.drop (w:=M) (g:=g) (o:=o) f C a.length y
def Ob (w:Z):∀j,j<[80,76,49].length->(w.alloc (.cells #[.int .u8 80,.int .u8 76,.int .u8 49] 5 (3,4))).cell? ⟨w.heap.size,0+j,none⟩=some (b8 (([80,76,49]:Aj).getD j 0)):=λj a=>by have hb:=bI w (.cells #[.int .u8 80,.int .u8 76,.int .u8 49] 5 (3,4));rw[ao];rcases(by simp at a;omega:j=0\/j=1\/j=2)with rfl|rfl|rfl<;>exact ct hb _
def Jk (v:D)(bs:Aj)(g:Nat)(w:Z)(h:eS w v bs g)(hT:db w)(hl:bs.length<=1100000)
  (h1:gO bs=none->∀w',An w w'->R (.returned (.tuple #[Y 0,ae,.bool false])) w')
  (h2:∀(n:Nat) v' w',gO bs=some n->g<w.heap.size->cX w' v' (bs.drop 11) g->An w w'->R (.returned (.tuple #[Y n,v',.bool true])) w') :
  Calls prog 128 #[v] w R:=by
 have H:=bR h;have HT:=bR hT;have HL:=bR hl;have H1:=bR h1;have H2:=bR h2;clear h hT hl h1 h2
 go_enter func128,ntmps128
 go_wp2_with (first
  |(go_at_call 173;refine FZ _ bs g 7 _ H.out HT.out (by omega) HL.out ?_ ?_)
  |fail)
 .intro e a o;have B:=bR (H1.out (by simp[gO,e]) a o);clear o
  go_wp2_with fail
  refine bodyPost_ret (results_tmp3 rfl _ _ _) rfl ?_;exact B.out
 .intro v1 v2 a e hg a7 a8 o;have h7:11<=bs.length:=by
   unfold fe at e;split at e
   .cases e
   .rename_i hq
    omega
  have be:=run_convert_bytes_const (P:=prog) a 48 5 #[.int .u8 80,.int .u8 76,.int .u8 49] 3 3 underlying48 underlying5;obtain⟨o1,c1,rfl,f,S⟩:=a7;obtain⟨o2,c2,rfl,j,U⟩:=a8;have l7:(bs.take 7).length=7:=by simp;omega
  obtain⟨n2,y⟩:∃n,(bs.drop (7+4)).length=n:=⟨_,rfl⟩;have a1:Hid (cX a (.slice (some ⟨g,o1,none⟩) 7 c1) (bs.take 7) g):=⟨o1,c1,by rw[l7],f,S⟩;have N:Hid (cX a (.slice (some ⟨g,o2,none⟩) n2 c2) (bs.drop (7+4)) g):=⟨o2,c2,by rw[y],j,U⟩;have r:=bR o;have HG:=bR hg;have HE:=bR e;have H7:=bR h7;rw[l7,y];clear S U f j o hg e h7 l7 y
  go_wp2_with (first
   |(go_at_call 142;refine BT _ (bs.take 7) g [80,76,49] a.heap.size 3 _ (a1.out.kept (Kp.al _ _ _)) (Ob a) ?_ ?_)
   |fail)
  .intro hp v3;have B:=bR (H1.out (by simp only[gO,HE.out];rw[hp];rfl) _ (r.out.trans (Kp.al (λ_=>False) a (.cells #[.int .u8 80,.int .u8 76,.int .u8 49] 5 (3,4))) (λ_ _ h=>h)));clear hp
   go_wp2_with fail
   refine bodyPost_ret (results_tmp3 rfl _ _ _) rfl ?_;exact B.out
  .intro hp v3 a9;obtain⟨o3,c3,rfl,l,W⟩:=a9;have l3:((bs.take 7).drop 3).length=4:=by have:=H7.out;simp;omega
   have Q:Hid (cX (a.alloc (.cells #[.int .u8 80,.int .u8 76,.int .u8 49] 5 (3,4))) (.slice (some ⟨g,o3,none⟩) 4 c3) ((bs.take 7).drop 3) g):=⟨o3,c3,by rw[l3],l,W⟩;rw[l3];have e4:(⟨(bs.take 7).drop 3,false⟩:RS).four.1=iT ((bs.take 7).drop 3):=by have:=H7.out;simp only[RS.four,RS.take];rw[if_neg (by simp;omega)];rw[aN (by simp;omega)]
   have C:=bR e4;have M:Hid (g<(a.alloc (.cells #[.int .u8 80,.int .u8 76,.int .u8 49] 5 (3,4))).heap.size):=by show _<_;have:=HG.out;have:=r.out.size;simp;omega
   have a0:Hid (((bs.take 7).drop 3).length<=1100000):=by show _<=_;rw[l3];omega
   have am:=Dg ((bs.take 7).drop 3);have HC:Hid (gO bs=some (iT ((bs.take 7).drop 3))):=by show _=_;simp only[gO,HE.out];rw[if_pos (by simpa using hp)]
   generalize iT ((bs.take 7).drop 3)=x at C HC am e4;have bb:(x:Int)<4294967296:=by omega
   have a3:wrap64 (x:Int)=(x:Int):=by have a4:IntKind.i64.wrap (x:Int)=(x:Int):=bN _ (by omega);exact IntWalk.i64_left _ ▸ a4
   have B:=bR (λw'=>H2.out x (.slice (some ⟨g,o2,none⟩) n2 c2) w' HC.out HG.out);clear W l hp e4 am l3;have kX:=Kp.al (λ_=>False) a (.cells #[.int .u8 80,.int .u8 76,.int .u8 49] 5 (3,4));generalize a.alloc (.cells #[.int .u8 80,.int .u8 76,.int .u8 49] 5 (3,4))=A at Q M kX ⊢;have KX:=bR kX;clear kX
   go_wp2_with (first
    |(go_at_call 144;refine mY _ _ _ _ ?_)
    |(go_at_call 174;refine j8 _ ⟨(bs.take 7).drop 3,false⟩ _ g _ (ny Q.out M.out) a0.out ?_;intro w4 v4 ba ad;rw[C.out];have an:=bR ad;clear ba ad)
    |fail)
   have kA:An a w4:=KX.out.trans ((Kp.al (λb=>b=A.heap.size) A _).trans an.out (λ_ _ h=>h)) (λb hb e=>by have:=KX.out.size;omega);refine bodyPost_ret (results_tmp3 rfl _ _ _) rfl ?_
   first
    |exact B.out _ (N.out.kept kA) (r.out.trans kA (λ_ _ h=>h))
    |(rw[a3];exact B.out _ (N.out.kept kA) (r.out.trans kA (λ_ _ h=>h)))
end
end
end Go.Proofs.YthbdpfccfcceiaaGreatDoor
