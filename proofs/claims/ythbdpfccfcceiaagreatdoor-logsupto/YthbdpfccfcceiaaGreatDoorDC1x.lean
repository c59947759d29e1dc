/-
  Of the proof of logsUpto_card.
-/
import Derived.Test.YthbdpfccfcceiaaGreatDoorDB8x
namespace Go.Proofs.YthbdpfccfcceiaaGreatDoor
section
open Go.RowKit Go.Maps Go.Lib
def didY (y:YS)(r:Rc):YS:=if r.k=72 then { y with hor:=(r.t:Int),lg:=y.lg++[zxb r.t] } else { y with now:=(r.t:Int),l:=y.l++r.ws.map (toY r.t),lg:=y.lg++[zbb r.t r.ws] }
theorem z4d.uniq {body:List UInt8}{k t k' t':Nat}{ws ws':List W3}(h:z4d body k t ws)(h':z4d body k' t' ws'):k=k'∧t=t'∧ws=ws':=by
 rcases h with ⟨a1,a2,a3,a4,a5⟩|⟨a1,a2,a3,a4,a5⟩<;>rcases h' with ⟨b1,b2,b3,b4,b5⟩|⟨b1,b2,b3,b4,b5⟩
 ·exact⟨by omega,by omega,by rw[a4,b4]⟩
 ·omega
 ·omega
 ·exact⟨by omega,by omega,by rw[a4,b4]⟩
theorem zfc.uniq {bs r r':List UInt8}{k t k' t':Nat}{ws ws':List W3}(h:zfc bs k t ws r)(h':zfc bs k' t' ws' r'):k=k'∧t=t'∧ws=ws'∧r=r':=by
 obtain⟨_,c,h1,h2⟩:=h
 obtain⟨_,c',h1',h2'⟩:=h'
 rw[h1]at h1'
 injection h1' with h1'
 injection h1' with e1 e2
 subst e1
 obtain⟨a,b,d⟩:=h2.uniq h2'
 exact⟨a,b,d,e2⟩
def zvf:List UInt8→YS→List Rc→List UInt8→YS→Prop
 |bs,y,[],m,y'=>m=bs∧y'=y
 |bs,y,r::L,m,y'=>∃q,zfc bs r.k r.t r.ws q∧ztg y.hor y.now r∧zvf q (didY y r) L m y'
theorem zvf.snoc {r:Rc}{m':List UInt8}:∀{L:List Rc} {bs m:List UInt8} {y y':YS},zvf bs y L m y'→zfc m r.k r.t r.ws m'→ztg y'.hor y'.now r→zvf bs y (L++[r]) m' (didY y' r)
 |[],bs,m,y,y',h,hc,hm=>by
  obtain⟨rfl,rfl⟩:=h
  exact⟨m',hc,hm,rfl,rfl⟩
 |a::L,bs,m,y,y',⟨q,h1,h2,h3⟩,hc,hm=>⟨q,h1,h2,zvf.snoc h3 hc hm⟩
def Stop (bs:List UInt8)(y:YS):Prop:=∀k t ws q,zfc bs k t ws q→¬ztg y.hor y.now ⟨k,t,ws⟩
theorem zvf.uniq:∀{n:Nat} {L L2:List Rc} {bs m m2:List UInt8} {y y' y2:YS},zvf bs y L m y'→zvf bs y L2 m2 y2→L.length≤n→L2.length≤n→(L.length<n→Stop m y')→(L2.length<n→Stop m2 y2)→L=L2∧m=m2∧y'=y2
 |_,[],[],_,_,_,_,_,_,⟨e1,e2⟩,⟨f1,f2⟩,_,_,_,_=>by subst e1 e2 f1 f2;exact⟨rfl,rfl,rfl⟩
 |_,[],r::L2,_,_,_,_,_,_,⟨e1,e2⟩,⟨q,h1,h2,_⟩,_,hn,hs,_=>by
  subst e1 e2
  exact absurd h2 (hs (by simp at hn ⊢;omega) _ _ _ _ h1)
 |_,r::L,[],_,_,_,_,_,_,⟨q,h1,h2,_⟩,⟨e1,e2⟩,hn,_,_,hs=>by
  subst e1 e2
  exact absurd h2 (hs (by simp at hn ⊢;omega) _ _ _ _ h1)
 |0,r::L,r2::L2,_,_,_,_,_,_,_,_,hn,_,_,_=>by simp at hn
 |n+1,r::L,r2::L2,bs,m,m2,y,y',y2,⟨q,h1,h2,h3⟩,⟨q2,g1,g2,g3⟩,hn,hn2,hs,hs2=>by
  obtain⟨a,b,c,d⟩:=h1.uniq g1
  obtain⟨rk,rt,rw_⟩:=r
  obtain⟨rk2,rt2,rw2⟩:=r2
  dsimp only at a b c
  subst a b c d
  obtain⟨e1,e2,e3⟩:=zvf.uniq (n:=n) h3 g3 (by simpa using hn) (by simpa using hn2) (λh=>hs (by simpa using h)) (λh=>hs2 (by simpa using h))
  exact⟨by rw[e1],e2,e3⟩
def zxd (bs:List UInt8)(num:Nat)(y y':YS)(b:Bool):Prop:=
 (z6d bs≠some num∧y'=y∧b=false)∨(z6d bs=some num∧∃L m,zvf (bs.drop 11) y L m y'∧L.length≤4∧(L.length<4→Stop m y')∧b=(decide (m=[]) && decide (L.length=4)))
theorem zxd.uniq {bs:List UInt8}{num:Nat}{y y1 y2:YS}{b1 b2:Bool}(h:zxd bs num y y1 b1)(h':zxd bs num y y2 b2):y1=y2∧b1=b2:=by
 rcases h with ⟨a1,a2,a3⟩|⟨a1,L,m,a2,a3,a4,a5⟩<;>rcases h' with ⟨c1,c2,c3⟩|⟨c1,L2,m2,c2,c3,c4,c5⟩
 ·exact⟨by rw[a2,c2],by rw[a3,c3]⟩
 ·exact absurd c1 a1
 ·exact absurd a1 c1
 ·obtain⟨e1,e2,e3⟩:=a2.uniq c2 a3 c3 a4 c4
  exact⟨e3,by rw[a5,c5,e1,e2]⟩
def zad:List (List UInt8)→Nat→YS→YS→Prop
 |[],_,y,y'=>y'=y
 |f::r,n,y,y'=>∃y1,zxd f n y y1 true∧zad r (n+1) y1 y'
theorem zad.snoc {f:List UInt8}{y2:YS}:∀{fs:List (List UInt8)} {n:Nat} {y y1:YS},zad fs n y y1→zxd f (n+fs.length) y1 y2 true→zad (fs++[f]) n y y2
 |[],n,y,y1,h,hr=>by
  have h:y1=y:=h
  subst h
  exact⟨y2,hr,rfl⟩
 |a::fs,n,y,y1,⟨q,h1,h2⟩,hr=>⟨q,h1,zad.snoc h2 (by rw[show n+1+fs.length=n+(a::fs).length by simp;omega];exact hr)⟩
theorem zad.uniq:∀{fs:List (List UInt8)} {n:Nat} {y y1 y2:YS},zad fs n y y1→zad fs n y y2→y1=y2
 |[],_,_,_,_,h,h'=>by rw[show _=_ from h,show _=_ from h']
 |_::_,_,_,_,_,⟨q,h1,h2⟩,⟨q',h1',h2'⟩=>by
  obtain⟨e,_⟩:=h1.uniq h1'
  subst e
  exact zad.uniq h2 h2'
theorem zad.at:∀{fs:List (List UInt8)} {n i:Nat} {f:List UInt8} {y y' y1 y2:YS} {b:Bool},zad fs n y y'→fs[i]?=some f→zad (fs.take i) n y y1→zxd f (n+i) y1 y2 b→b=true
 |[],_,_,_,_,_,_,_,_,_,h,_,_=>by simp at h
 |a::fs,n,0,f,y,y',y1,y2,b,⟨q,h1,h2⟩,hi,ht,hr=>by
  have ht:y1=y:=ht
  subst ht
  simp at hi
  subst hi
  exact ((zxd.uniq h1 hr).2).symm
 |a::fs,n,i+1,f,y,y',y1,y2,b,⟨q,h1,h2⟩,hi,⟨q',h1',h2'⟩,hr=>by
  obtain⟨e,_⟩:=h1.uniq h1'
  subst e
  exact zad.at h2 (by simpa using hi) h2' (by rw[show n+1+i=n+(i+1) by omega];exact hr)
def zif (fs:List (List UInt8))(y y':YS):Prop:=
 (fs=[]∧y'=y)∨∃l f y1 b,fs=l++[f]∧zad l 0 y y1∧zxd f l.length y1 y' b
def zhh (fs:List (List UInt8))(y:YS):Prop:=∃(i:Nat) (f:List UInt8) (y1 y2:YS),fs[i]?=some f∧i+1<fs.length∧zad (fs.take i) 0 y y1∧zxd f i y1 y2 false
theorem zif.uniq {fs:List (List UInt8)}{y y1 y2:YS}(h:zif fs y y1)(h':zif fs y y2):y1=y2:=by
 rcases h with ⟨a1,a2⟩|⟨l,f,z,b,a1,a2,a3⟩<;>rcases h' with ⟨c1,c2⟩|⟨l2,f2,z2,b2,c1,c2,c3⟩
 ·rw[a2,c2]
 ·rw[a1]at c1;simp at c1
 ·rw[c1]at a1;simp at a1
 ·rw[a1]at c1
  obtain⟨e1,e2⟩:=List.append_inj' c1 rfl
  injection e2 with e2 _
  subst e1 e2
  have e3:=a2.uniq c2
  subst e3
  exact (a3.uniq c3).1
theorem zhr {fs:List (List UInt8)}{y y':YS}(h:zif fs y y')(h':zhh fs y):False:=by
 obtain⟨i,f,y1,y2,hi,hl,hr,hf⟩:=h'
 rcases h with ⟨a1,_⟩|⟨l,f',z,b,a1,a2,a3⟩
 ·rw[a1]at hl;simp at hl
 ·subst a1
  have hil:i<l.length:=by simp at hl;omega
  rw[List.getElem?_append_left hil]at hi
  rw[List.take_append_of_le_length (by omega)]at hr
  have:=a2.at hi hr (by rw[Nat.zero_add];exact hf)
  cases this
theorem zer {t:Int}:∀{ws:List W3},(ws.map Prod.fst).Nodup→∀k,zy (ws.map (toY t)) k=if (wrL ws k).isSome=true then [t] else []
 |[],_,k=>by simp[zy,wrL]
 |x::r,h,k=>by
  rw[List.map_cons,List.nodup_cons]at h
  have ih:=zer (t:=t) h.2 k
  rw[zrk]at ih ⊢
  by_cases e:x.1=k
  ·have hn:r.any (λx=>decide (x.1=k))=false:=by
    rw[List.any_eq_false]
    intro z hz hk
    exact h.1 (List.mem_map.2 ⟨z,hz,by rw[e];simpa using hk⟩)
   rw[hn]at ih
   simp only[zy,Bool.false_eq_true,if_false]at ih
   simp only[zy,List.map_cons,List.any_cons]
   rw[List.filter_cons_of_pos (by simp[toY,e]),List.map_cons,ih]
   simp[e,toY]
  ·simp only[zy]at ih ⊢
   rw[List.map_cons,List.filter_cons_of_neg (by simp[toY,e]),ih,List.any_cons,decide_eq_false e,Bool.false_or]
theorem z3t {t:Int}:∀{ws:List W3} (k:ByteArray) (m:Int),z2b (ws.map (toY t)) k m=if m=t then wrL ws k else none
 |[],k,m=>by simp[z2b,wrL]
 |x::r,k,m=>by
  have ih:=z3t (t:=t) (ws:=r) k m
  unfold z2b at ih ⊢
  unfold wrL at ih ⊢
  rw[List.map_cons]
  by_cases e:x.1=k
  ·by_cases hm:m=t
   ·subst hm
    rw[List.find?_cons_of_pos (by simp[toY,e]),List.find?_cons_of_pos (by simp[e])]
    simp[toY]
   ·rw[List.find?_cons_of_neg (λh=>hm (of_decide_eq_true h).2.symm),ih]
    simp[hm]
  ·rw[List.find?_cons_of_neg (by simp[toY,e]),ih,List.find?_cons_of_neg (by simp[e])]
section
variable {s s':XS}{y:YS}
theorem ztm (h:ztb s y)(k t:Nat)(ws:List W3):zke s k t=true↔ztg y.hor y.now ⟨k,t,ws⟩:=by
 unfold zke ztg
 rw[h.hor,h.now]
 by_cases q:k=72
 ·simp[q]
 ·simp[q]
theorem YI.didY (hy:YI y)(hno:y.txs=[]){r:Rc}(hr:zdg r.k r.ws)(hm:ztg y.hor y.now r):YI (didY y r)∧(didY y r).txs=[]:=by
 have hh:=hy.hor
 have hn:=hy.now
 by_cases q:r.k=72
 ·rcases hm with ⟨_,m1,m2⟩|⟨m0,_⟩
  ·unfold Go.Proofs.YthbdpfccfcceiaaGreatDoor.didY
   rw[if_pos q]
   exact⟨⟨hy.now,hy.len,hy.ver,hy.up,λt ht=>(by rw[hno]at ht;cases ht),hy.opn,⟨by show 0≤(r.t:Int);omega,by show (r.t:Int)≤y.now;omega⟩,λt ht=>(by rw[hno]at ht;cases ht),hy.bku,hy.lgv.horizon hh.1 m1 m2⟩,hno⟩
  ·exact absurd q m0
 ·rcases hm with ⟨m0,_⟩|⟨_,m1,m2⟩
  ·exact absurd m0 q
  ·rcases hr with ⟨h1,_⟩|⟨h1,hpw,hl1,hl2,hok⟩
   ·exact absurd h1 q
   ·unfold Go.Proofs.YthbdpfccfcceiaaGreatDoor.didY
    rw[if_neg q]
    have hl:=hy.len
    have em:∀v∈r.ws.map (toY r.t),v.t=(r.t:Int)∧zu v.key=true:=λv hv=>by
     obtain⟨x,hx,rfl⟩:=List.mem_map.1 hv
     exact⟨rfl,(hok x hx).1⟩
    refine⟨⟨⟨by show 0≤(r.t:Int);omega,by show (r.t:Int)≤2000;omega⟩,?_,λv hv=>?_,?_,λt ht=>(by rw[hno]at ht;cases ht),hy.opn,⟨hh.1,by show y.hor≤(r.t:Int);omega⟩,λt ht=>(by rw[hno]at ht;cases ht),hy.bku,?_⟩,hno⟩
    ·show ((y.l++r.ws.map (toY r.t)).length:Int)≤10*(r.t:Int)
     rw[List.length_append,List.length_map]
     omega
    ·rcases List.mem_append.1 hv with h2|h2
     ·have:=hy.ver v h2
      exact⟨this.1,by show v.t≤(r.t:Int);omega,this.2.2⟩
     ·obtain⟨e1,e2⟩:=em v h2
      exact⟨by omega,by show v.t≤(r.t:Int);omega,e2⟩
    ·show (y.l++r.ws.map (toY r.t)).Pairwise _
     rw[List.pairwise_append]
     refine⟨hy.up,?_,λa ha b hb=>?_⟩
     ·rw[List.pairwise_map]
      have h3:=hpw
      rw[List.pairwise_map]at h3
      exact h3.imp (λ{a b} hab=>⟨Int.le_refl _,λ_ e=>zic _ (by have e:a.1=b.1:=e;rw[e]at hab;exact hab)⟩)
     ·have h4:=hy.ver a ha
      have h5:=(em b hb).1
      exact⟨by omega,λe=>by omega⟩
    ·have:=hy.lgv.commit hn.1 m2 hpw hl1 hl2 (λx hx=>⟨(hok x hx).1,(hok x hx).2.1⟩)
     have e:(y.now+1).toNat=r.t:=by omega
     rw[e,← m1]at this
     exact this
theorem ztb.did (h:ztb s y)(hy:YI y)(hno:y.txs=[]){r:zcd}(hr:zdg r.k r.ws)(hm:zke s r.k r.t=true)(hd:Did r s s'):ztb s' (didY y ⟨r.k,r.t,r.ws⟩):=by
 have hm':=(ztm h r.k r.t r.ws).1 hm
 obtain⟨l,hsy,hd⟩:=hd
 have h1:=h.lgl
 have h2:=h.hor
 have h3:=h.now
 rcases hd with ⟨q,hlg,rfl⟩|⟨q,hlg,nv,nm,hnv,hnm,rfl⟩
 ·rcases hm' with ⟨_,m1,m2⟩|⟨m0,_⟩
  ·unfold didY
   rw[if_pos q]
   have m1:y.hor<(r.t:Int):=m1
   refine⟨h.now,h.begun,λn=>h.txs n,h.nopen,h.mom,h.ver,h.nv,h.nm,rfl,?_,?_,?_,h.nob,?_,?_,?_⟩
   ·show (l.lg.length:Int)≤y.now+(r.t:Int)
    rw[hlg,List.length_append]
    simp
    omega
   ·intro b hb
    have hb':b∈l.lg:=hb
    rw[hlg]at hb'
    rcases List.mem_append.1 hb' with h4|h4
    ·exact h.lgb b h4
    ·simp at h4;subst h4;rw[z6e];omega
   ·show l.sy≤bytesOf (zm l.lg)
    rw[hlg,hsy]
    exact Nat.le_trans h.sy (z8e _ _)
   ·show y.lg++[zxb r.t]=l.lg
    rw[hlg,h.lg]
   ·show y.syn=(l.sy:Int)
    rw[hsy]
    exact h.syn
   ·intro b hb
    rcases List.mem_append.1 hb with h4|h4
    ·exact h.lgn b h4
    ·simp at h4;subst h4;simp[zxb]
  ·exact absurd q m0
 ·rcases hm' with ⟨m0,_⟩|⟨_,m1,m2⟩
  ·exact absurd m0 q
  ·rcases hr with ⟨h4,_⟩|⟨h4,hpw,hl1,hl2,hok⟩
   ·exact absurd h4 q
   ·unfold didY
    rw[if_neg q]
    have m1:(r.t:Int)=y.now+1:=m1
    have hnd:=zyj hpw
    have h5:=h.nv
    have h6:=h.nm
    refine⟨?_,h.begun,λn=>?_,h.nopen,λk=>?_,λk m=>?_,?_,?_,h.hor,?_,?_,?_,h.nob,?_,?_,?_⟩
    ·show s.now+1=(r.t:Int)
     omega
    ·show s.txs n=_
     rw[h.txs]
     unfold zvg zab
     simp only[hno]
    ·show (if ((wrL r.ws k).isSome && !false)=true then s.mom k++[s.now+1] else s.mom k)=zy (y.l++r.ws.map (toY r.t)) k
     rw[z7l,zer hnd,h.mom,h3,← m1]
     by_cases e:(wrL r.ws k).isSome=true
     ·simp[e]
     ·simp[e]
    ·show (if m=s.now+1∧((wrL r.ws k).isSome && !false)=true then wrL r.ws k else s.ver k m)=z2b (y.l++r.ws.map (toY r.t)) k m
     rw[z3n,z3t,h.ver,h3,← m1]
     by_cases hn:m=(r.t:Int)
     ·have h0:z2b y.l k m=none:=by
       unfold z2b
       rw[List.find?_eq_none.2];rfl
       intro v hv
       have:=hy.ver v hv
       simp;omega
      rw[h0]
      cases hw:wrL r.ws k with
      |none=>simp[hn]
      |some z=>simp[hn]
     ·simp[hn]
    ·show (nv:Int)≤10*(r.t:Int)
     omega
    ·show (nm:Int)≤10*(r.t:Int)
     omega
    ·show (l.lg.length:Int)≤(r.t:Int)+y.hor
     rw[hlg,List.length_append]
     simp
     omega
    ·intro b hb
     have hb':b∈l.lg:=hb
     rw[hlg]at hb'
     rcases List.mem_append.1 hb' with h7|h7
     ·exact h.lgb b h7
     ·simp at h7;subst h7
      exact z7j hok hl2
    ·show l.sy≤bytesOf (zm l.lg)
     rw[hlg,hsy]
     exact Nat.le_trans h.sy (z8e _ _)
    ·show y.lg++[zbb r.t r.ws]=l.lg
     rw[hlg,h.lg]
    ·show y.syn=(l.sy:Int)
     rw[hsy]
     exact h.syn
    ·intro b hb
     rcases List.mem_append.1 hb with h7|h7
     ·exact h.lgn b h7
     ·simp at h7;subst h7;simp[zbb]
end
structure zij (s:XS)(y:YS):Prop where
 tied:ztb s y
 yi:YI y
 no:y.txs=[]
theorem zme.doc:∀{l:List zcd} {s s':XS} {y:YS} {bs rest:List UInt8},zme l s s'→znd bs l rest→(∀r∈l,zdg r.k r.ws)→zij s y→∃y',zvf bs y (l.map λr=>⟨r.k,r.t,r.ws⟩) rest y'∧zij s' y'
 |[],s,s',y,bs,rest,h,hr,_,ht=>by
  have h:s'=s:=h
  have hr:bs=rest:=hr
  subst h hr
  exact⟨y,⟨rfl,rfl⟩,ht⟩
 |r::l,s,s',y,bs,rest,⟨hm,s1,hd,h⟩,⟨m,hc,hr⟩,hok,ht=>by
  have ho:=hok r (by simp)
  have hm':=(ztm ht.tied r.k r.t r.ws).1 hm
  obtain⟨a,b⟩:=ht.yi.didY ht.no (r:=⟨r.k,r.t,r.ws⟩) ho hm'
  obtain⟨y',hp,hs⟩:=zme.doc h hr (λx hx=>hok x (List.mem_cons_of_mem _ hx)) ⟨ht.tied.did ht.yi ht.no ho hm hd,a,b⟩
  exact⟨y',⟨m,hc,hm',hp⟩,hs⟩
theorem znd.split:∀{l:List zcd} {bs rest:List UInt8} (i:Nat) {r:zcd},znd bs l rest→l[i]?=some r→∃m q,znd bs (l.take i) m∧zfc m r.k r.t r.ws q
 |[],_,_,_,_,_,h=>by simp at h
 |a::l,bs,rest,0,r,⟨m,hc,hr⟩,hi=>by
  simp at hi
  subst hi
  exact⟨bs,m,rfl,hc⟩
 |a::l,bs,rest,i+1,r,⟨m,hc,hr⟩,hi=>by
  obtain⟨m',q,h1,h2⟩:=znd.split i hr (by simpa using hi)
  exact⟨m',q,⟨m,hc,h1⟩,h2⟩
theorem z2f.doc {bs:List UInt8}{num:Nat}{s s':XS}{b:Bool}{y:YS}(h:z2f bs num s s' b)(ht:zij s y):∃y',zxd bs num y y' b∧zij s' y':=by
 rcases h with ⟨h1,rfl,h3⟩|⟨l,rest,hf,h⟩
 ·exact⟨y,Or.inl ⟨h1,rfl,h3⟩,ht⟩
 ·have hok:=hf.recs.ok
  rcases h with ⟨i,r,hi,hd,hm,hb⟩|⟨hd,hb⟩
  ·obtain⟨m,q,h1,h2⟩:=hf.recs.split i hi
   have hil:=(List.getElem?_eq_some_iff.1 hi).1
   have h4:=hf.le
   obtain⟨y',hp,hs⟩:=hd.doc h1 (λx hx=>hok x (List.mem_of_mem_take hx)) ht
   have hl:((l.take i).map λr=>(⟨r.k,r.t,r.ws⟩:Rc)).length=i:=by rw[List.length_map,List.length_take];omega
   refine⟨y',Or.inr ⟨hf.num,_,m,hp,by omega,λ_ k t ws q' hc hmay=>?_,?_⟩,hs⟩
   ·obtain⟨e1,e2,e3,_⟩:=h2.uniq hc
    subst e1 e2 e3
    rw[(ztm hs.tied r.k r.t r.ws).2 hmay]at hm
    cases hm
   ·rw[hb,hl]
    have:decide (i=4)=false:=by simp;omega
    rw[this,Bool.and_false]
  ·obtain⟨y',hp,hs⟩:=hd.doc hf.recs hok ht
   refine⟨y',Or.inr ⟨hf.num,_,rest,hp,by rw[List.length_map];exact hf.le,λhl k t ws q hc=>absurd hc (hf.stop (by simpa using hl) k t ws q),by rw[hb,List.length_map]⟩,hs⟩
theorem z1f.doc:∀{fs:List (List UInt8)} {n:Nat} {s s':XS} {y:YS},z1f fs n s s'→zij s y→∃y',zad fs n y y'∧zij s' y'
 |[],_,s,s',y,h,ht=>by
  have h:s'=s:=h
  subst h
  exact⟨y,rfl,ht⟩
 |f::r,n,s,s',y,⟨s1,h1,h2⟩,ht=>by
  obtain⟨y1,a,b⟩:=h1.doc ht
  obtain⟨y',c,d⟩:=z1f.doc h2 b
  exact⟨y',⟨y1,a,c⟩,d⟩
theorem z3i.doc {fs:List (List UInt8)}{s s':XS}{y:YS}(h:z3i fs s s')(ht:zij s y):∃y',zif fs y y'∧zij s' y':=by
 rcases h with ⟨h1,rfl⟩|⟨l,f,s1,b,h1,h2,h3⟩
 ·exact⟨y,Or.inl ⟨h1,rfl⟩,ht⟩
 ·obtain⟨y1,a1,a2⟩:=h2.doc ht
  obtain⟨y',c1,c2⟩:=h3.doc a2
  exact⟨y',Or.inr ⟨l,f,y1,b,h1,a1,c1⟩,c2⟩
theorem z6n.doc {fs:List (List UInt8)}{s:XS}{y:YS}(h:z6n fs s)(ht:zij s y):zhh fs y:=by
 obtain⟨i,f,s1,s2,h1,h2,h3,h4⟩:=h
 obtain⟨y1,a1,a2⟩:=h3.doc ht
 obtain⟨y2,c1,_⟩:=h4.doc a2
 exact⟨i,f,y1,y2,h1,h2,a1,c1⟩
end
section
open Go.RowKit Go.Maps Go.Lib
section
variable {own own':Nat→Lab}{c:Nat}{w w':World}{p:Nat}{y:YS}{vL vT vG:Value}{sv lg:List Value}
variable {R:Ending→World→Prop}
theorem z0r {W w5 w6:World}{x v6:Value}{body:List UInt8}(Y:YR own c W p y vL vT vG sv lg)(b0:Nat)(hp0:p<b0)(hG0:∀b,vG.ownBlock=some b→b<b0)(k5:Kp (λ_=>False) W w5)(b5:BR b0 w5 x body)(grow:(w5.alloc (.cells #[x] 48)).grownBy w6 vG.ownBlock)
  (own6:w6.ownsRow 0 48 1 v6 (lg.length+1) (lg++[x])) (loc6:v6.ownBlock=vG.ownBlock∨v6.ownBlock=some (w5.alloc (.cells #[x] 48)).heap.size) :
  YR (λb=>if v6.ownBlock=some b then ⟨c,3,0,eb⟩ else own b) c (w6.setCell ⟨p,4,none⟩ v6) p y vL vT v6 sv (lg++[x])∧(∀b,b<W.heap.size→(λb=>if v6.ownBlock=some b then (⟨c,3,0,eb⟩:Lab) else own b) b=own b)∧
  BR b0 (w6.setCell ⟨p,4,none⟩ v6) x body∧(∀g,x.ownBlock=some g→(λb=>if v6.ownBlock=some b then (⟨c,3,0,eb⟩:Lab) else own b) g=own g)∧Kp (λb=>(own b).c=c) W (w6.setCell ⟨p,4,none⟩ v6):=by
 have ka:=k5.trans (Kp.alloc (λ_=>False) w5 (.cells #[x] 48)) (λ_ _ e=>e)
 have Y5:=Y.kept ka
 have kg:Kp (λb=>vG.ownBlock=some b) (w5.alloc (.cells #[x] 48)) w6:=Kp.of_grown grow (λ_ h=>h)
 have Y6:=Y5.addLog kg x own6 (loc6.imp id (λh=>⟨_,h,Nat.le_refl _⟩))
 have z1:∀b,x.ownBlock=some b→b0≤b∧b<w5.heap.size:=λb e=>b5.lt b e
 refine⟨Y6.1,λb hb=>Y6.2 b (Nat.lt_of_lt_of_le hb ka.size),?_,λg hg=>?_,?_⟩
 ·exact ((b5.kept (Kp.alloc (λ_=>False) _ _)).kp kg (λb e h=>by have h1:=z1 b e;have h2:=hG0 b h;omega)).kp (Kp.setCell (S:=λb=>b=p) w6 ⟨p,4,none⟩ _ rfl) (λb e (h:b=p)=>by have h1:=z1 b e;omega)
 ·have h1:=z1 g hg
  have z3:¬v6.ownBlock=some g:=λe=>by
   rcases loc6 with hl|hl
   ·rw[hl]at e
    have h2:=hG0 g e
    omega
   ·rw[hl]at e
    injection e with e
    simp at e
    omega
  simp only[z3,if_false]
 ·refine ((ka.mono (S':=λb=>(own b).c=c) (λ_ _ e=>e.elim)).trans kg (λb hb h=>?_)).trans (Kp.setCell (S:=λb=>b=p) w6 ⟨p,4,none⟩ _ rfl) (λb hb (h:b=p)=>?_)
  ·show (own b).c=c
   rw[Y.ownG b h]
  ·show (own b).c=c
   rw[h,Y.ownP]
theorem zcj {v:Value}{bs:List UInt8}{g:Nat}(h:RdN w v bs g):RdB w v bs:=by
 obtain⟨q,cap,rfl,_,h2⟩:=h
 refine⟨q,cap,rfl,λhne=>?_⟩
 obtain⟨_,o,e,h3⟩:=h2 hne
 exact⟨g,o,e,h3⟩
set_option maxRecDepth 20000 in
set_option maxHeartbeats 4000000 in
theorem z7y (h:YR own c w p y vL vT vG sv lg)(hlg:lg.length≤100000)(T:Nat)(hT:T<4294967296)(vW pb:Value)(hW1:∃q n k,vW = .slice q n k)(hb1:∃q n k,pb = .slice q n k)(gb:Nat)(hbp:gb≠p)(hb:RdN w pb (zxb T) gb)
  (h1:¬(y.hor<(T:Int)∧(T:Int)≤y.now)→∀w',Kp (λ_=>False) w w'→R (.returned (.bool false)) w')
  (h2:y.hor<(T:Int)→(T:Int)≤y.now→∀w' own' vG' x,Kp (λb=>(own b).c=c) w w'→(∀b,b<w.heap.size→own' b=own b)→YR own' c w' p { y with hor:=(T:Int),lg:=y.lg++[zxb T] } vL vT vG' sv (lg++[x])→BR w.heap.size w' x (zxb T)→(∀g,x.ownBlock=some g→own' g=own g)→R (.returned (.bool true)) w') :
  Calls Tryz.prog 196 #[.pointer (some ⟨p,0,none⟩),.agg #[.bool true,.int .i64 (T:Nat),vW,pb]] w R:=by
 obtain⟨qw,nw,kw,rfl⟩:=hW1
 obtain⟨qb,nb,kb,rfl⟩:=hb1
 have H:=ze h
 have H1:=ze h1
 have H2:=ze h2
 have HLG:=ze hlg
 have HB:=ze hb
 have HT:=ze hT
 have LP:=ze (zh h.store)
 have HBP:=ze hbp
 have HG0:Hid (∀b,vG.ownBlock=some b→b<w.heap.size):=λb e=>(h.rowG.lt b e).2
 have NPG:Hid (vG.ownBlock≠some p):=λe=>by
  have:=h.ownG p e
  rw[h.ownP]at this;simp at this
 have A0:=λn=>zg ((heap_alloc_new w (.cells #[.bool true,.int .i64 (T:Nat),.slice qw nw kw,.slice qb nb kb] 255))) n
 have a0:=A0 0
 have a1:=A0 1
 have a3:=A0 3
 simp at a0 a1 a3
 have HY:=ze (h.kept (Kp.alloc (λ_=>False) w (.cells #[.bool true,.int .i64 (T:Nat),.slice qw nw kw,.slice qb nb kb] 255)))
 have c1:=zg HY.out.store 1
 have c2:=zg HY.out.store 2
 have f1:=zx HY.out.store 1
 simp at c1 c2
 clear h h1 h2 hlg hb hT A0
 by_cases q1:(T:Int)≤y.hor
 ·go_enter Tryz.func196,Tryz.ntmps196
  go_wp2_with fail
  go_quiet (fail)
  all_goals go_wp2_with fail
  all_goals exact H1.out (by omega) _ ((Kp.alloc (λ_=>False) w _).trans (Kp.drewN (λ_=>False) _ _) (λ_ _ e=>e))
 ·have q1d:decide ((T:Int)≤y.hor)=false:=by simpa using q1
  by_cases q2:y.now<(T:Int)
  ·go_enter Tryz.func196,Tryz.ntmps196
   go_wp2_with fail
   go_quiet (fail)
   all_goals go_wp2_with fail
   all_goals exact H1.out (by omega) _ ((Kp.alloc (λ_=>False) w _).trans (Kp.drewN (λ_=>False) _ _) (λ_ _ e=>e))
  ·obtain⟨iB,hB⟩:=info_parts z2g
   have HIB:=ze hB
   clear hB
   go_enter Tryz.func196,Tryz.ntmps196
   go_wp2_with fail
   go_quiet (fail)
   all_goals
    have KW:Hid (Kp (λb=>b=p) w (((w.alloc (.cells #[.bool true,.int .i64 (T:Nat),.slice qw nw kw,.slice qb nb kb] 255)).drewN nq).setCell ⟨p,1,none⟩ (.int .i64 (T:Nat)))):=((Kp.alloc (λb=>b=p) w _).trans (Kp.drewN (λb=>b=p) _ _) (λ_ _ e=>e)).trans (Kp.setCell (S:=λb=>b=p) _ ⟨p,1,none⟩ _ rfl) (λ_ _ e=>e)
    have YW:=ze ((HY.out.kept (Kp.drewN (λ_=>False) _ nq)).setHor (T:Int))
    have RW:=ze (zcj (HB.out.kp KW.out HBP.out))
    go_wp2_with (first
     |(at_builtin;refine zsb _ rfl _ _ rfl w.heap.size (.slice none 0 0) [] rfl (World.ownsRow_nil _ _ _ _) _ (zxb T) rfl RW.out (by simp[zxb]) (by simp[zxb,fourB]) KW.out.size ?_;intro v5 w5 hb5 hk5 hl5;rw[List.nil_append]at hb5;have K5:=ze (hk5.mono (S':=λ_=>False) (λ_ _ e=>by cases e));have B5:=ze hb5;obtain⟨q5,k5,e5⟩:=zp hb5;have Y5:=ze (YW.out.kept K5.out);have x4:=zg Y5.out.store 4;have x4f:=zx Y5.out.store 4;simp at x4;clear hb5 hk5 hl5;rw[show (zxb T).length=5 from rfl]at e5;subst e5)
     |(at_builtin;refine zz rfl _ _ 37 rfl 0 48 iB (.slice none 0 0) 1 24 Tryz.underlying37 HIB.out.1 HIB.out.2.1 HIB.out.2.2.1 HIB.out.2.2.2 rfl (by decide) _ _ _ rfl (Y5.out.rowG.alloc _) ⟨w5.heap.size,0,none⟩ 1 1 [.slice q5 5 k5] rfl rfl (cell_one_new _ _ _) (by simp[Value.oneCell']) (by have:=HLG.out;unfold maxLen;omega) (by have:=HLG.out;omega) (Nat.zero_le _) (by decide) ?_;intro v6 w6 own6 grow6 loc6 keep6;have hk6:=Kp.of_grown (S:=λb=>vG.ownBlock=some b) grow6 (λ_ h=>h);have hp6:=(hk6.block p (by have:=K5.out.size;have:=KW.out.size;have:=LP.out;simp;omega) NPG.out).trans ((Below.heap_alloc _ _ _ (by have:=K5.out.size;have:=KW.out.size;have:=LP.out;omega)).trans Y5.out.store);have y4:=zg hp6 4;have y4f:=zx hp6 4;simp at y4;obtain⟨a6,c6,rfl,_⟩:=zr own6;have HE:=ze (z0r YW.out w.heap.size LP.out HG0.out K5.out B5.out grow6 own6 loc6);clear hk6 hp6 own6 grow6 loc6 keep6)
     |fail)
   all_goals
    obtain⟨e1,e2,e3,e4,e5⟩:=HE.out
    exact H2.out (by omega) (by omega) _ _ _ _ ((KW.out.mono (S':=λb=>(own b).c=c) (λb _ (e:b=p)=>by rw[e,H.out.ownP])).trans e5 (λ_ _ h=>h)) (λb hb=>e2 b (Nat.lt_of_lt_of_le hb KW.out.size)) (e1.withLg _) e3 e4
set_option maxRecDepth 20000 in
set_option maxHeartbeats 4000000 in
theorem z6y (h:YR own c w p y vL vT vG sv lg)(hyl:y.l.length≤30000)(hlg:lg.length≤100000)(hnow:0≤y.now∧y.now≤2000)(T:Nat)(hT:T<4294967296)(ws:List W3)(hws:ws≠[])(hwl:ws.length≤10)(pW:Option Addr)(cW base:Nat)(hrow:w.ownsRow base 193 4 (.slice pW ws.length cW) ws.length (zo (ws.map (toY T))))(hrc:∀b,(Value.slice pW ws.length cW).ownBlock=some b→(own b).c≠c)
  (pb:Value) (hb1:∃q n k,pb = .slice q n k) (gb:Nat) (hbp:(own gb).c≠c) (hb:RdN w pb (zbb T ws) gb) (hbl:(zbb T ws).length≤400)
  (h1:(T:Int)≠y.now+1→∀w',Kp (λ_=>False) w w'→R (.returned (.bool false)) w')
  (h2:(T:Int)=y.now+1→∀w' own' vL' vG' x,Kp (λb=>(own b).c=c) w w'→(∀b,b<w.heap.size→own' b=own b)→YR own' c w' p { y with now:=(T:Int),l:=y.l++ws.map (toY T),lg:=y.lg++[zbb T ws] } vL' vT vG' sv (lg++[x])→BR w.heap.size w' x (zbb T ws)→(∀g,x.ownBlock=some g→own' g=own g)→R (.returned (.bool true)) w') :
  Calls Tryz.prog 196 #[.pointer (some ⟨p,0,none⟩),.agg #[.bool false,.int .i64 (T:Nat),.slice pW ws.length cW,pb]] w R:=by
 obtain⟨qb,nb,kb,rfl⟩:=hb1
 obtain⟨gW,cW',cuW,epW,hgW,_⟩:=zib hrow (List.length_pos_iff.2 hws)
 injection epW with epW _ ecW
 subst epW
 subst ecW
 have H:=ze h
 have H1:=ze h1
 have H2:=ze h2
 have HLG:=ze hlg
 have HYL:=ze hyl
 have HB:=ze hb
 have HT:=ze hT
 have HWL:=ze hwl
 have HROW:=ze hrow
 have HRC:=ze hrc
 have HBP:=ze hbp
 have HBL:=ze hbl
 have HBN:Hid (zbb T ws≠[]):=by show _≠_;simp[zbb]
 have LP:=ze (zh h.store)
 have LW:Hid (gW<w.heap.size):=zh hgW
 have HG0:Hid (∀b,vG.ownBlock=some b→b<w.heap.size):=λb e=>(h.rowG.lt b e).2
 have HL0:Hid (∀b,vL.ownBlock=some b→b<w.heap.size):=λb e=>(h.rowL.lt b e).2
 have NPG:Hid (vG.ownBlock≠some p):=λe=>by
  have:=h.ownG p e
  rw[h.ownP]at this;simp at this
 have NPL:Hid (vL.ownBlock≠some p):=λe=>by
  have:=h.ownL p e
  rw[h.ownP]at this;simp at this
 have NPW:Hid (gW≠p):=λe=>hrc gW rfl (by rw[e,h.ownP])
 have NLW:Hid (vL.ownBlock≠some gW):=λe=>hrc gW rfl (by rw[h.ownL gW e])
 have HA:=ze (heap_alloc_new w (.cells #[.bool false,.int .i64 (T:Nat),.slice (some ⟨gW,0,none⟩) ws.length cW,.slice qb nb kb] 255))
 have a0:=zg HA.out 0
 have a1:=zg HA.out 1
 have a2:=zg HA.out 2
 have a3:=zg HA.out 3
 simp at a0 a1 a2 a3
 have HY:=ze (h.kept (Kp.alloc (λ_=>False) w (.cells #[.bool false,.int .i64 (T:Nat),.slice (some ⟨gW,0,none⟩) ws.length cW,.slice qb nb kb] 255)))
 obtain⟨aL,cL,hvL,_⟩:=zr h.rowL
 have c0:=zg HY.out.store 0
 have c2:=zg HY.out.store 2
 have f2:=zx HY.out.store 2
 have f0:=zx HY.out.store 0
 simp at c0 c2
 have hn1:=hnow.1
 have hn2:=hnow.2
 clear h h1 h2 hlg hb hT hyl hwl hrow hrc hbp hbl hws hgW hvL hnow
 by_cases q1:(T:Int)=y.now+1
 ·obtain⟨iB,hB⟩:=info_parts z2g
  have HIB:=ze hB
  obtain⟨iV,hV⟩:=info_parts zvj
  have HIV:=ze hV
  clear hB hV
  have HQ1:=ze q1
  have q1b:((T:Int) == y.now+1)=true:=by simpa using q1
  clear q1
  go_enter Tryz.func196,Tryz.ntmps196
  go_wp2_with fail
  go_quiet (fail)
  all_goals
   have KW:Hid (Kp (λb=>b=p) w (((w.alloc (.cells #[.bool false,.int .i64 (T:Nat),.slice (some ⟨gW,0,none⟩) ws.length cW,.slice qb nb kb] 255)).drewN nq).setCell ⟨p,2,none⟩ (.int .i64 (T:Nat)))):=((Kp.alloc (λb=>b=p) w _).trans (Kp.drewN (λb=>b=p) _ _) (λ_ _ e=>e)).trans (Kp.setCell (S:=λb=>b=p) _ ⟨p,2,none⟩ _ rfl) (λ_ _ e=>e)
   have YW:=ze ((HY.out.kept (Kp.drewN (λ_=>False) _ nq)).tick (T:Int))
   have RW:=ze (zi HROW.out KW.out (λb e (h:b=p)=>by injection e with e;exact NPW.out (e.trans h)))
   have hwp:w.heap.size≠p:=by have:=LP.out;omega
   have hpw:p≠w.heap.size:=by have:=LP.out;omega
   go_wp2_with fail
   go_region_law (refine zmd rfl (.tmp 46) (.tmp 48) 74 rfl 0 193 iV (.agg #[.string ⟨#[]⟩,.int .i64 0,.bool false,.string ⟨#[]⟩]) 4 48 Tryz.underlying74 HIV.out.1 HIV.out.2.1 HIV.out.2.2.1 HIV.out.2.2.2 rfl (by decide) vL y.l.length (zo y.l) (by simp[Act.eval]) (zi YW.out.rowL (Kp.drew (λ_=>False) _) (λ_ _ e=>e)) ⟨gW,0,none⟩ ws.length cW (zo (ws.map (toY T))) (by simp[Act.eval]) (by rw[zjf,List.length_map]) (World.ownsRow.cells (zi RW.out (Kp.drew (λ_=>False) _) (λ_ _ e=>e)) (g:=gW) rfl) (zbi _) (by have:=HYL.out;have:=HWL.out;unfold maxLen;omega) (by have:=HYL.out;have:=HWL.out;omega) (Nat.zero_le _) ?_;intro v3 w3 own3 grow3 loc3;have hk3:=(Kp.drew (λb=>vL.ownBlock=some b) _).trans (Kp.of_grown (S:=λb=>vL.ownBlock=some b) grow3 (λ_ h=>h)) (λ_ _ h=>h);have hp3:=(hk3.block p (Nat.lt_of_lt_of_le LP.out KW.out.size) NPL.out).trans YW.out.store;have q03:=zg hp3 0;have f03:=zx hp3 0;simp at q03;obtain⟨a3',c3',rfl,_⟩:=zr own3;have HV3:=ze (YW.out.addVers hk3 (ws.map (toY T)) (by rw[List.length_map];exact own3) (loc3.imp id (λh=>⟨_,h,Nat.le_refl _⟩)));have K3:=ze hk3;clear hk3 hp3 own3 grow3 loc3)
  all_goals
   have SW3:Hid (w.heap.size+1≤w3.heap.size):=by
    show _≤_
    have h1:=K3.out.size
    have h2:w.heap.size+1≤(((w.alloc (.cells #[.bool false,.int .i64 (T:Nat),.slice (some ⟨gW,0,none⟩) ws.length cW,.slice qb nb kb] 255)).drewN nq).setCell ⟨p,2,none⟩ (.int .i64 (T:Nat))).heap.size:=by simp[World.setCell,World.drewN]
    omega
   have KW3:Hid (Kp (λb=>(own b).c=c) w (w3.setCell ⟨p,0,none⟩ (.slice a3' (y.l.length+ws.length) c3'))):=((KW.out.mono (S':=λb=>(own b).c=c) (λb _ (e:b=p)=>by rw[e,H.out.ownP])).trans K3.out (λb _ e=>by show (own b).c=c;rw[H.out.ownL b e])).trans (Kp.setCell (S:=λb=>b=p) w3 ⟨p,0,none⟩ _ rfl) (λb _ (e:b=p)=>by show (own b).c=c;rw[e,H.out.ownP])
   have RB3:=ze (zcj (HB.out.kp KW3.out HBP.out))
   have hA1:(((w.alloc (.cells #[.bool false,.int .i64 (T:Nat),.slice (some ⟨gW,0,none⟩) ws.length cW,.slice qb nb kb] 255)).drewN nq).setCell ⟨p,2,none⟩ (.int .i64 (T:Nat))).heap[w.heap.size]?=_:=((Kp.drewN (λb=>b=p) _ nq).trans (Kp.setCell (S:=λb=>b=p) _ ⟨p,2,none⟩ (.int .i64 (T:Nat)) rfl) (λ_ _ e=>e)).block w.heap.size (by simp) hwp |>.trans HA.out
   have hA3:=(K3.out.block w.heap.size (zh hA1) (λe=>by have:=HL0.out _ e;omega)).trans hA1
   have x33:=zg hA3 3
   simp at x33
   clear hA1 hA3
   go_wp2_with (first
    |(at_builtin;refine zsb (w3.setCell ⟨p,0,none⟩ (.slice a3' (y.l.length+ws.length) c3')) rfl _ _ rfl w3.heap.size (.slice none 0 0) [] rfl (World.ownsRow_nil _ _ _ _) _ (zbb T ws) rfl RB3.out HBN.out (by have:=HBL.out;simp;omega) (by simp[World.setCell]) ?_;intro v5 w5 hb5 hk5 hl5;rw[List.nil_append]at hb5;have K5:=ze (hk5.mono (S':=λ_=>False) (λ_ _ e=>by cases e));have B5:=ze hb5;obtain⟨q5,k5,e5⟩:=zp hb5;have Y5:=ze (HV3.out.1.kept K5.out);have x4:=zg Y5.out.store 4;have x4f:=zx Y5.out.store 4;simp at x4;clear hb5 hk5 hl5;generalize hLN:(zbb T ws).length=LN at e5;clear hLN;subst e5)
    |(at_builtin;refine zz rfl _ _ 37 rfl 0 48 iB (.slice none 0 0) 1 24 Tryz.underlying37 HIB.out.1 HIB.out.2.1 HIB.out.2.2.1 HIB.out.2.2.2 rfl (by decide) _ _ _ rfl (Y5.out.rowG.alloc _) ⟨w5.heap.size,0,none⟩ 1 1 [.slice q5 LN k5] rfl rfl (cell_one_new _ _ _) (by simp[Value.oneCell']) (by have:=HLG.out;unfold maxLen;omega) (by have:=HLG.out;omega) (Nat.zero_le _) (by decide) ?_;intro v6 w6 own6 grow6 loc6 keep6;have hk6:=Kp.of_grown (S:=λb=>vG.ownBlock=some b) grow6 (λ_ h=>h);have hs5:p<w5.heap.size:=(by have:=K5.out.size;have:=KW3.out.size;have:=LP.out;omega);have hp6:=(hk6.block p (by simp;omega) NPG.out).trans ((Below.heap_alloc _ _ _ hs5).trans Y5.out.store);have y4:=zg hp6 4;have y4f:=zx hp6 4;simp at y4;obtain⟨a6,c6,rfl,_⟩:=zr own6;have HE:=ze (z0r HV3.out.1 w3.heap.size (by have:=LP.out;have:=SW3.out;omega) (λb e=>by have:=HG0.out b e;have:=SW3.out;omega) K5.out B5.out grow6 own6 loc6);clear hk6 hp6 own6 grow6 loc6 keep6 hs5)
    |fail)
   obtain⟨e1,e2,e3,e4,e5⟩:=HE.out
   have hs3:=SW3.out
   refine H2.out HQ1.out _ _ _ _ _ (KW3.out.trans e5 (λb hb h=>?_)) (λb hb=>?_) (e1.withLg _) (e3.mono (by omega)) (λg hg=>?_)
   ·show (own b).c=c
    rw[← HV3.out.2 b (Nat.lt_of_lt_of_le hb KW.out.size)]
    exact h
   ·exact (e2 b (by simp[World.setCell];omega)).trans (HV3.out.2 b (Nat.lt_of_lt_of_le hb KW.out.size))
   ·refine (e4 g hg).trans ?_
    have h1:=(e3.lt g hg).1
    have z3:¬(Value.slice a3' (y.l.length+ws.length) c3').ownBlock=some g:=λe=>by
     have h2:=(HV3.out.1.rowL.lt g e).2
     simp[World.setCell]at h2
     omega
    show ite _ _ _=_
    rw[if_neg z3]
 ·have q1d:((T:Int) == y.now+1)=false:=by simpa using q1
  go_enter Tryz.func196,Tryz.ntmps196
  go_wp2_with fail
  go_quiet (fail)
  all_goals go_wp2_with fail
  all_goals exact H1.out q1 _ ((Kp.alloc (λ_=>False) w _).trans (Kp.drewN (λ_=>False) _ _) (λ_ _ e=>e))
end
end
end Go.Proofs.YthbdpfccfcceiaaGreatDoor
