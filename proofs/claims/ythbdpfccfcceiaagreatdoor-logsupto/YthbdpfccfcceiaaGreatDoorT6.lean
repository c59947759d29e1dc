/-
  Of the proof of logsUpto_card.
-/
import Derived.Test.YthbdpfccfcceiaaGreatDoorV6x
namespace Go.Proofs.YthbdpfccfcceiaaGreatDoor
open Go.RowKit
section
variable {s:XS}{y:YS}
theorem ztb.told (h:ztb s y)(hy:YI y)(t:Int):zhq y.l t (λk=>zvb s k t):=by
 intro k r ha
 have hup:=(zni hy.up k).filter (λm=>decide (m≤t))
 rcases ha with ⟨hno,rfl⟩|⟨b,hb,hbest,ha⟩
 ·have e1:(s.mom k).filter (λm=>decide (m≤t))=[]:=by
   rw[List.filter_eq_nil_iff,h.mom]
   intro m hm
   obtain⟨v,hv,e1,e2⟩:=zkc.1 hm
   obtain⟨j,hj,rfl⟩:=List.getElem_of_mem hv
   intro hle
   have hle:m≤t:=by simpa using hle
   have:=hno j hj hj
   rw[Bool.eq_false_iff]at this
   exact this (zlh.2 ⟨e1,by omega⟩)
  have e2:zvb s k t=(eb,false):=by simp[zvb,e1]
  show _=(zvb s k t).2∧(_→_=(zvb s k t).1)
  rw[e2]
  exact⟨rfl,λh=>by cases h⟩
 ·obtain⟨ek,et⟩:=zlh.1 hbest.fit
  have hm:y.l[b].t∈zy y.l k:=zkc.2 ⟨_,List.getElem_mem hb,ek,rfl⟩
  obtain⟨z,e,hz,hle⟩:=zmh hup (x:=y.l[b].t) (List.mem_filter.2 ⟨hm,by simpa using et⟩)
  obtain⟨hz1,hz2⟩:=List.mem_filter.1 hz
  obtain⟨v,hv,e1,e2⟩:=zkc.1 hz1
  obtain⟨j,hj,rfl⟩:=List.getElem_of_mem hv
  have hz3:z≤t:=by simpa using hz2
  have h5:=hbest.top j hj hj (zlh.2 ⟨e1,by omega⟩)
  have hzb:z=y.l[b].t:=by omega
  have hv:=zhl hy.up hb
  rw[ek]at hv
  have e2:zvb s k t=(y.l[b].s,!y.l[b].gone):=by
   unfold zvb
   rw[h.mom,e,hzb]
   simp only[h.ver,hv]
  show _=(zvb s k t).2∧(_→_=(zvb s k t).1)
  rw[e2]
  rcases ha with ⟨hg,rfl⟩|⟨hg,rfl⟩
  ·exact⟨by simp[hg],λh=>by cases h⟩
  ·exact⟨by simp[hg],λ_=>rfl⟩
theorem zxv {l:List YV}(h:l.Pairwise (λa b=>a.t≤b.t∧(a.t=b.t→a.key≠b.key))){k:ByteArray}{m:Int}:(z2b l k m).isSome=true↔m∈zy l k:=by
 rw[zkc]
 constructor
 ·intro hs
  unfold z2b at hs
  rw[Option.isSome_map]at hs
  obtain⟨v,hv⟩:=Option.isSome_iff_exists.1 hs
  have h1:v.key=k∧v.t=m:=by simpa using List.find?_some hv
  exact⟨v,List.mem_of_find?_eq_some hv,h1⟩
 ·rintro⟨v,hv,rfl,rfl⟩
  obtain⟨b,hb,rfl⟩:=List.getElem_of_mem hv
  rw[zhl h hb];rfl
theorem ztb.ok (h:ztb s y)(hy:YI y):XOk s:=by
 have hn:=h.now
 refine⟨by rw[hn];exact hy.now,by rw[h.hor,hn];exact hy.hor,by rw[h.begun];omega,λk=>by rw[h.mom];exact zni hy.up k,λk m hm=>?_,λk m=>?_,λk hk=>?_,λn t e=>?_,by rw[hn];exact h.nm,by rw[hn];exact h.nv,by rw[hn,h.hor];exact h.lgl,h.lgb,h.sy⟩
 ·rw[h.mom]at hm
  obtain⟨v,hv,e1,e2⟩:=zkc.1 hm
  have:=hy.ver v hv
  omega
 ·rw[h.ver,h.mom];exact zxv hy.up
 ·rw[h.mom]at hk
  obtain⟨v,hv,e1⟩:=zxj.1 hk
  rw[← e1];exact (hy.ver v hv).2.2
 ·rw[h.txs]at e
  obtain⟨j,rfl,hj,ho,rfl⟩:=zgl e
  have ht:=hy.txs _ (List.getElem_mem hj)
  have hp:=hy.pin _ (List.getElem_mem hj) ho
  refine⟨⟨by omega,by rw[h.begun];omega⟩,⟨by rw[h.hor];exact hp,by rw[hn];exact ht.sees.2⟩,ht.len,λk hk=>?_,λk hk=>?_,λk v hk=>?_⟩
  ·obtain⟨v,hv,rfl⟩:=zsh.1 hk
   exact (ht.ok v hv).1
  ·obtain⟨v,hv,_⟩:=zsh.1 hk
   exact List.length_pos_of_mem hv
  ·obtain⟨u,hu,_,rfl⟩:=z4m hk
   exact (ht.ok u hu).2
theorem zio (h:ztb s y)(t:Int):zho s t↔zfm y t:=by
 constructor
 ·rintro (⟨n,x,e,hlt⟩|⟨n,b,e,_⟩)
  ·rw[h.txs]at e
   obtain⟨j,rfl,hj,ho,rfl⟩:=zgl e
   exact⟨j,hj,ho,hlt⟩
  ·rw[h.nob]at e;cases e
 ·rintro⟨j,hj,ho,hlt⟩
  exact Or.inl ⟨(j:Int)+1,zec y.txs[j],by rw[h.txs,z1j hj ho],hlt⟩
theorem ztb.retained (h:ztb s y)(t:Int)(h1:¬t<y.hor){l:XL}(hl:l.lg=if s.hor<t then s.log.lg++[zxb t.toNat] else s.log.lg)(hs:l.sy=s.log.sy):ztb { s with hor:=t,log:=l } (z5k y t):=by
 have hh:=h.hor
 refine⟨h.now,h.begun,λn=>h.txs n,h.nopen,h.mom,h.ver,h.nv,h.nm,rfl,?_,?_,?_,h.nob,?_,?_,?_⟩
 ·have h3:=h.lgl
  show (l.lg.length:Int)≤y.now+t
  rw[hl]
  split
  ·simp;omega
  ·omega
 ·intro b hb
  have hb':b∈l.lg:=hb
  rw[hl]at hb'
  split at hb'
  ·rcases List.mem_append.1 hb' with h3|h3
   ·exact h.lgb b h3
   ·simp at h3;subst h3;rw[z6e];omega
  ·exact h.lgb b hb'
 ·show l.sy≤bytesOf (zm l.lg)
  rw[hl,hs]
  split
  ·exact Nat.le_trans h.sy (z8e _ _)
  ·exact h.sy
 ·show (if y.hor<t then y.lg++[zxb t.toNat] else y.lg)=l.lg
  rw[hl,h.hor,h.lg]
 ·show y.syn=(l.sy:Int)
  rw[hs]
  exact h.syn
 ·show ∀b∈(if y.hor<t then y.lg++[zxb t.toNat] else y.lg),b≠[]
  intro b hb
  split at hb
  ·rcases List.mem_append.1 hb with h3|h3
   ·exact h.lgn b h3
   ·simp at h3;subst h3;simp[zxb]
  ·exact h.lgn b hb
theorem YI.retained (hy:YI y){t:Int}(h1:¬t<y.hor)(h2:¬y.now<t)(hp:¬zfm y t):YI (z5k y t):=by
 have hh:=hy.hor
 refine⟨hy.now,hy.len,hy.ver,hy.up,hy.txs,hy.opn,⟨by show 0≤t;omega,by show t≤y.now;omega⟩,λx hx ho=>?_,hy.bku,?_⟩
 ·obtain⟨j,hj,rfl⟩:=List.getElem_of_mem hx
  have hnl:¬(y.txs[j]).sees<t:=λhlt=>hp ⟨j,hj,ho,hlt⟩
  show t≤(y.txs[j]).sees
  omega
 ·show LgV (if y.hor<t then y.lg++[zxb t.toNat] else y.lg) t y.now
  by_cases q:y.hor<t
  ·rw[if_pos q]
   exact hy.lgv.horizon hh.1 q (by omega)
  ·rw[if_neg q,show t=y.hor by omega]
   exact hy.lgv
theorem zpn:∀l:List YV,∃ks:List ByteArray,ks.Nodup∧(∀v∈l,v.key∈ks)
 |[]=>⟨[],List.nodup_nil,λv hv=>by cases hv⟩
 |a::r=>by
  obtain⟨ks,h1,h2⟩:=zpn r
  by_cases h:a.key∈ks
  ·exact⟨ks,h1,λv hv=>by
    rcases List.mem_cons.1 hv with rfl|hv
    ·exact h
    ·exact h2 v hv⟩
  ·exact⟨a.key::ks,List.nodup_cons.2 ⟨h,h1⟩,λv hv=>by
    rcases List.mem_cons.1 hv with rfl|hv
    ·simp
    ·exact List.mem_cons_of_mem _ (h2 v hv)⟩
theorem zmo (a:ByteArray→Nat)(K:ByteArray):∀ks:List ByteArray,ks.Nodup→K∈ks→(ks.map λk=>a k+if K=k then 1 else 0).sum=(ks.map a).sum+1
 |k::r,hn,hm=>by
  obtain⟨h1,h2⟩:=List.nodup_cons.1 hn
  simp only[List.map_cons,List.sum_cons]
  rcases List.mem_cons.1 hm with e|hm
  ·subst e
   have:(r.map λk=>a k+if K=k then 1 else 0)=r.map a:=List.map_congr_left (λk hk=>by
    have:¬K=k:=λe=>h1 (e ▸ hk)
    simp[this])
   rw[this];simp;omega
  ·have hne:¬K=k:=λe=>h1 (e ▸ hm)
   rw[zmo a K r h2 hm];simp[hne];omega
theorem zgs:∀ks:List ByteArray,(ks.map λ_=>0).sum=0
 |[]=>rfl
 |_::r=>by rw[List.map_cons,List.sum_cons,zgs r]
theorem zdr:∀(l:List YV) (ks:List ByteArray),ks.Nodup→(∀v∈l,v.key∈ks)→(ks.map λk=>(zy l k).length).sum=l.length
 |[],ks,_,_=>by
  have:(ks.map λk=>(zy [] k).length)=ks.map λ_=>0:=rfl
  rw[this]
  exact zgs ks
 |a::r,ks,hn,hc=>by
  have e:∀k,(zy (a::r) k).length=(zy r k).length+if a.key=k then 1 else 0:=λk=>by
   unfold zy
   by_cases h:a.key=k
   ·rw[List.filter_cons_of_pos (by simpa using h)];simp[h]
   ·rw[List.filter_cons_of_neg (by simpa using h)];simp[h]
  simp only[e]
  rw[zmo _ _ ks hn (hc a (by simp)),zdr r ks hn (λv hv=>hc v (List.mem_cons_of_mem _ hv))]
  rfl
theorem ztb.count {own:Nat→Lab}{c:Nat}{w:World}{p mo ph mv mm:Nat}{pt mw:Int→Nat}{sl:ByteArray→Value}(h:ztb s y)(hy:YI y)(X:XR own c w p s mo ph mv mm pt mw sl):s.nv=y.l.length:=by
 obtain⟨ks,h1,h2⟩:=zpn y.l
 have ok:=h.ok hy
 rw[X.nv_eq z6k ok.up ok.ver ks h1 (λk hk=>by
  rw[h.mom]at hk
  obtain⟨v,hv,e⟩:=zxj.1 hk
  rw[← e];exact h2 v hv),← zdr y.l ks h1 h2]
 congr 1
 exact List.map_congr_left (λk _=>by rw[h.mom])
structure z5j (s:XS)(y:YS):Prop where
 mom:∀k,s.mom k=zy y.l k
 ver:∀k m,s.ver k m=z2b y.l k m
 hor:s.hor=y.hor
theorem z8l {l:List Int}(h:l.Pairwise (·<·)){m0:Int}{r:List Int}(e:l=m0::r):∀m∈l,m0≤m:=by
 subst e
 intro m hm
 rcases List.mem_cons.1 hm with rfl|hm
 ·exact Int.le_refl _
 ·have:=(List.pairwise_cons.1 h).1 m hm;omega
theorem z5j.gone (h:z5j s y)(hy:YI y){v:YV}(hv:v∈y.l):s.ver v.key v.t=some (v.s,v.gone):=by
 obtain⟨b,hb,rfl⟩:=List.getElem_of_mem hv
 rw[h.ver,zhl hy.up hb]
theorem z7k (h:z5j s y)(hy:YI y)(ok:XOk s){k:ByteArray}(hp:0<zv s k s.hor):∃v∈y.l,v.key=k∧zsi y v∧∀v'∈y.l,v'.key=k→v.t≤v'.t:=by
 cases hm:s.mom k with
 |nil=>rw[zpk hm]at hp;omega
 |cons m0 r=>
  have hhead:=z8l (ok.up k) hm
  obtain⟨v,hv,ek,et⟩:=zkc.1 (show m0∈zy y.l k by rw[← h.mom,hm];simp)
  have hfirst:∀v'∈y.l,v'.key=k→v.t≤v'.t:=λv' hv' e=>by
   rw[et]
   exact hhead _ (by rw[h.mom];exact zkc.2 ⟨v',hv',e,rfl⟩)
  refine⟨v,hv,ek,?_,hfirst⟩
  have hft:=zng (s.mom k) s.hor (ok.up k)
  unfold zv at hp
  cases e:((s.mom k).filter (λm=>decide (m≤s.hor))).getLast? with
  |none=>rw[e]at hp;simp at hp
  |some m=>
   rw[e]at hp
   simp only at hp
   obtain⟨hm1,hm2⟩:=List.mem_filter.1 (List.mem_of_getLast? e)
   have hmh:m≤s.hor:=by simpa using hm2
   have hle:=hhead m hm1
   by_cases hlt:m0<m
   ·obtain⟨v',hv',ek',et'⟩:=zkc.1 (show m∈zy y.l k by rw[← h.mom];exact hm1)
    refine Or.inl ⟨v',hv',by rw[ek',ek],by omega,?_⟩
    have:=h.hor;omega
   ·have hme:m=m0:=by omega
    have hcnt:(s.mom k).countP (λm=>decide (m≤s.hor))≤1:=by
     rw[List.countP_eq_length_filter]
     have hup:=(ok.up k).filter (λm=>decide (m≤s.hor))
     cases hF:(s.mom k).filter (λm=>decide (m≤s.hor)) with
     |nil=>simp
     |cons a q=>
      cases q with
      |nil=>simp
      |cons b q'=>
       rw[hF]at hup e
       have ha:a∈s.mom k:=(List.mem_filter.1 (show a∈(s.mom k).filter _ by rw[hF];simp)).1
       have h0:=hhead a ha
       have hlast:m∈b::q':=by
        rw[List.getLast?_cons_cons]at e
        exact List.mem_of_getLast? e
       have:=(List.pairwise_cons.1 hup).1 m hlast
       omega
    have hd:((s.ver k m).getD (eb,false)).2=true:=by
     cases hd:((s.ver k m).getD (eb,false)).2
     ·rw[hd]at hp;simp at hp;omega
     ·rfl
    have hv':=h.gone hy hv
    rw[ek,et,← hme]at hv'
    rw[hv']at hd
    refine Or.inr ⟨hd,by have:=h.hor;omega,λv' hv' e=>?_⟩
    have:=hfirst v' hv' (e.trans ek)
    omega
theorem zjx (h:z5j s y)(hy:YI y)(ok:XOk s){v:YV}(hv:v∈y.l)(hm:zsi y v):0<zv s v.key s.hor:=by
 have hmem:v.t∈s.mom v.key:=by rw[h.mom];exact zkc.2 ⟨v,hv,rfl,rfl⟩
 have hup:=(ok.up v.key).filter (λm=>decide (m≤s.hor))
 have hhor:=h.hor
 have inF:∀v'∈y.l,v'.key=v.key→v'.t≤s.hor→v'.t∈(s.mom v.key).filter (λm=>decide (m≤s.hor)):=λv' hv' e hl=>
  List.mem_filter.2 ⟨by rw[h.mom];exact zkc.2 ⟨v',hv',e,rfl⟩,by simpa using hl⟩
 unfold zv
 rw[List.countP_eq_length_filter]
 have two:∀{F:List Int} {a b:Int},F.Pairwise (·<·)→a∈F→b∈F→a<b→2≤F.length:=λ{F a b} _ ha hb hab=>by
  cases F with
  |nil=>cases ha
  |cons x q=>
   cases q with
   |nil=>
    simp at ha hb
    omega
   |cons _ _=>simp
 cases e:((s.mom v.key).filter (λm=>decide (m≤s.hor))).getLast? with
 |none=>
  exfalso
  have hnil:=List.getLast?_eq_none_iff.1 e
  rcases hm with ⟨v',hv',e1,h1,h2⟩|⟨_,h2,_⟩
  ·have:=inF v' hv' e1 (by omega)
   rw[hnil]at this;cases this
  ·have:=inF v hv rfl (by omega)
   rw[hnil]at this;cases this
 |some m=>
  simp only
  rcases hm with ⟨v',hv',e1,h1,h2⟩|⟨hg,h2,hf⟩
  ·have:=two hup (inF v hv rfl (by omega)) (inF v' hv' e1 (by omega)) h1
   split<;>omega
  ·have hvF:=inF v hv rfl (by omega)
   have hmF:=List.mem_of_getLast? e
   by_cases hmt:m=v.t
   ·rw[hmt,h.gone hy hv]
    simp only[Option.getD_some,hg,if_true]
    exact List.length_pos_of_mem hvF
   ·obtain⟨z,e2,_,hle⟩:=zmh hup hvF
    rw[e]at e2
    injection e2 with e2
    have:=two hup hvF hmF (by omega)
    split<;>omega
theorem zf1 (h:z5j s y)(hy:YI y)(ok:XOk s){b:Nat}(hb:zwf y y.l.length b)(hbl:b<y.l.length):0<zv s (y.l[b]).key s.hor∧(∀v'∈y.l,v'.key=(y.l[b]).key→(y.l[b]).t≤v'.t)∧∀k,blt k (y.l[b]).key→zv s k s.hor=0:=by
 have hp:=zjx h hy ok (List.getElem_mem hbl) hb.may
 refine⟨hp,?_,λk hk=>?_⟩
 ·obtain⟨v,hv,ek,hm,hf⟩:=z7k h hy ok hp
  obtain⟨j,hj,rfl⟩:=List.getElem_of_mem hv
  have:=hb.top j hj hj hm
  have hle:(y.l[b]).t≤(y.l[j]).t:=by
   have hnl:¬(y.l[j]).t<(y.l[b]).t:=λhlt=>this (Or.inr ⟨ek,hlt⟩)
   omega
  intro v' hv' e
  have:=hf v' hv' e
  omega
 ·have hn:¬0<zv s k s.hor:=λhp'=>by
   obtain⟨v,hv,ek,hm,_⟩:=z7k h hy ok hp'
   obtain⟨j,hj,rfl⟩:=List.getElem_of_mem hv
   exact hb.top j hj hj hm (Or.inl (by rw[ek];exact hk))
  omega
theorem z21 (h:z5j s y)(hy:YI y)(ok:XOk s)(hn:z8h y y.l.length)(k:ByteArray):zv s k s.hor=0:=by
 have hn:¬0<zv s k s.hor:=λhp=>by
  obtain⟨v,hv,ek,hm,_⟩:=z7k h hy ok hp
  obtain⟨j,hj,rfl⟩:=List.getElem_of_mem hv
  exact hn j hj hj hm
 omega
theorem YI.erased (hy:YI y)(b:Nat):YI { y with l:=y.l.eraseIdx b }:=by
 have hs:(y.l.eraseIdx b).Sublist y.l:=List.eraseIdx_sublist _ _
 refine⟨hy.now,?_,λv hv=>hy.ver v (hs.subset hv),hy.up.sublist hs,hy.txs,hy.opn,hy.hor,hy.pin,hy.bku,hy.lgv⟩
 have:=hs.length_le
 have:=hy.len
 show ((y.l.eraseIdx b).length:Int)≤10*y.now
 omega
theorem zun:∀{l:List YV} {b:Nat} (hb:b<l.length) (k:ByteArray),l.Pairwise (λa b=>a.t≤b.t∧(a.t=b.t→a.key≠b.key))→(∀v'∈l,v'.key=(l[b]).key→(l[b]).t≤v'.t)→
  zy (l.eraseIdx b) k=if k=(l[b]).key then (zy l k).drop 1 else zy l k
 |a::r,0,_,k,_,_=>by
  show zy r k=if k=a.key then (zy (a::r) k).drop 1 else zy (a::r) k
  by_cases h:k=a.key
  ·rw[if_pos h]
   unfold zy
   rw[List.filter_cons_of_pos (by simp[h])]
   rfl
  ·rw[if_neg h]
   unfold zy
   rw[List.filter_cons_of_neg (by simp;exact λe=>h e.symm)]
 |a::r,b+1,hb,k,hu,hf=>by
  have hb':b<r.length:=by simpa using hb
  obtain⟨h1,h2⟩:=List.pairwise_cons.1 hu
  have ih:=zun hb' k h2 (λv' hv' e=>hf v' (List.mem_cons_of_mem _ hv') e)
  have hne:a.key≠(r[b]).key:=λe=>by
   have h3:=hf a (by simp) e
   have h4:=h1 r[b] (List.getElem_mem hb')
   have h5:(r[b]).t≤a.t:=h3
   exact h4.2 (by omega) e
  show zy (a::r.eraseIdx b) k=if k=(r[b]).key then (zy (a::r) k).drop 1 else zy (a::r) k
  by_cases hk:k=(r[b]).key
  ·rw[if_pos hk]at ih ⊢
   have hak:¬a.key=k:=λe=>hne (e.trans hk)
   unfold zy at ih ⊢
   rw[List.filter_cons_of_neg (by simpa using hak),List.filter_cons_of_neg (by simpa using hak)]
   exact ih
  ·rw[if_neg hk]at ih ⊢
   unfold zy at ih ⊢
   by_cases hak:a.key=k
   ·rw[List.filter_cons_of_pos (by simpa using hak),List.filter_cons_of_pos (by simpa using hak),List.map_cons,List.map_cons,ih]
   ·rw[List.filter_cons_of_neg (by simpa using hak),List.filter_cons_of_neg (by simpa using hak),ih]
theorem zsp:∀{l:List YV} {b:Nat} (hb:b<l.length) (k:ByteArray) (m:Int),l.Pairwise (λa b=>a.t≤b.t∧(a.t=b.t→a.key≠b.key))→
  z2b (l.eraseIdx b) k m=if k=(l[b]).key∧m=(l[b]).t then none else z2b l k m
 |a::r,0,_,k,m,hu=>by
  obtain⟨h1,h2⟩:=List.pairwise_cons.1 hu
  show z2b r k m=if k=a.key∧m=a.t then none else z2b (a::r) k m
  by_cases h:k=a.key∧m=a.t
  ·rw[if_pos h]
   unfold z2b
   rw[List.find?_eq_none.2];rfl
   intro v hv
   have h3:=h1 v hv
   simp only[decide_eq_true_eq]
   rintro⟨e1,e2⟩
   exact h3.2 (by rw[e2,h.2]) (by rw[e1,h.1])
  ·rw[if_neg h]
   unfold z2b
   rw[List.find?_cons_of_neg (by simp only[decide_eq_true_eq];exact λ⟨e1,e2⟩=>h ⟨e1.symm,e2.symm⟩)]
 |a::r,b+1,hb,k,m,hu=>by
  have hb':b<r.length:=by simpa using hb
  obtain⟨h1,h2⟩:=List.pairwise_cons.1 hu
  have ih:=zsp hb' k m h2
  show z2b (a::r.eraseIdx b) k m=if k=(r[b]).key∧m=(r[b]).t then none else z2b (a::r) k m
  unfold z2b at ih ⊢
  by_cases hak:a.key=k∧a.t=m
  ·have hn:¬(k=(r[b]).key∧m=(r[b]).t):=λ⟨e1,e2⟩=>(h1 r[b] (List.getElem_mem hb')).2 (by rw[hak.2,e2]) (by rw[hak.1,e1])
   rw[if_neg hn,List.find?_cons_of_pos (by simpa using hak),List.find?_cons_of_pos (by simpa using hak)]
  ·rw[List.find?_cons_of_neg (by simpa using hak),List.find?_cons_of_neg (by simpa using hak),ih]
def z1h (s:XS)(h:Int)(c:ByteArray→Nat):Prop:=∀k1 k2,blt k1 k2→0<c k2→c k1=zv s k1 h
theorem zo0 (c:ByteArray→Nat)(k:ByteArray):∀ks:List ByteArray,ks.Nodup→k∈ks→(ks.map (zhb c k (c k+1))).sum=(ks.map c).sum+1:=λks hn hm=>by
 have:(ks.map (zhb c k (c k+1)))=ks.map λa=>c a+if k=a then 1 else 0:=List.map_congr_left (λa _=>by
  by_cases e:a=k
  ·subst e;rw[zxc];simp
  ·rw[z1b _ e]
   have:¬k=a:=λe'=>e e'.symm
   simp[this])
 rw[this]
 exact zmo c k ks hn hm
theorem z8x (h:z5j s y)(hy:YI y)(ok:XOk s){ks:List ByteArray}(hnd:ks.Nodup)(hks:∀k,0<zv s k s.hor→k∈ks){n:Nat}:∀{y':YS},zjg n y y'→
  ∃c,zeq s { s with mom:=zy y'.l,ver:=z2b y'.l } s.hor c∧z1h s s.hor c∧(ks.map c).sum=n∧YI y'∧y'.now=y.now∧y'.hor=y.hor∧y'.txs=y.txs:=by
 induction n with
 |zero=>
  intro y' hv
  have hv:y'=y:=hv
  subst hv
  refine⟨λ_=>0,⟨rfl,rfl,rfl,rfl,rfl,rfl,rfl,Nat.le_refl _,Nat.le_refl _,λ_=>Nat.zero_le _,λk=>(h.mom k).symm,λk m=>?_⟩,λ_ _ _ h=>absurd h (Nat.lt_irrefl 0),?_,hy,rfl,rfl,rfl⟩
  ·simp;exact (h.ver k m).symm
  ·clear hnd hks
   induction ks with
   |nil=>rfl
   |cons a r ih=>rw[List.map_cons,List.sum_cons,ih]
 |succ n ih=>
  rintro y' ⟨y1,b,hv,hb,rfl⟩
  obtain⟨c,g,hg,hs,hy1,e1,e2,e3⟩:=ih hv
  have ok1:XOk { s with mom:=zy y1.l,ver:=z2b y1.l }:=ok.gone g
  have hV1:z5j { s with mom:=zy y1.l,ver:=z2b y1.l } y1:=⟨λ_=>rfl,λ_ _=>rfl,h.hor.trans e2.symm⟩
  have hbl:=hb.lt
  obtain⟨p1,p2,p3⟩:=zf1 hV1 hy1 ok1 hb hbl
  have hm1:=g.mom (y1.l[b]).key
  have hsp:=λk=>g.spent ok k
  have hck:c (y1.l[b]).key<zv s (y1.l[b]).key s.hor:=by
   have:=hsp (y1.l[b]).key
   have hp:0<zv { s with mom:=zy y1.l,ver:=z2b y1.l } (y1.l[b]).key s.hor:=p1
   omega
  -- its moment is the first that is left
  have hhead:∃r,zy y1.l (y1.l[b]).key=(y1.l[b]).t::r:=by
   have hmem:(y1.l[b]).t∈zy y1.l (y1.l[b]).key:=zkc.2 ⟨_,List.getElem_mem hbl,rfl,rfl⟩
   cases hm:zy y1.l (y1.l[b]).key with
   |nil=>rw[hm]at hmem;cases hmem
   |cons m0 r=>
    obtain⟨v,hv,ek,et⟩:=zkc.1 (show m0∈zy y1.l (y1.l[b]).key by rw[hm];simp)
    have h1:=p2 v hv ek
    have h2:=z8l (zni hy1.up _) hm _ hmem
    have:m0=(y1.l[b]).t:=by omega
    exact⟨r,by rw[this]⟩
  obtain⟨r,hr⟩:=hhead
  have hdrop:(s.mom (y1.l[b]).key).drop (c (y1.l[b]).key)=(y1.l[b]).t::r:=by rw[← hm1];exact hr
  have htake:(s.mom (y1.l[b]).key).take (c (y1.l[b]).key+1)=(s.mom (y1.l[b]).key).take (c (y1.l[b]).key)++[(y1.l[b]).t]:=by
   rw[List.take_add,hdrop];rfl
  refine⟨zhb c (y1.l[b]).key (c (y1.l[b]).key+1),⟨rfl,rfl,rfl,rfl,rfl,rfl,rfl,Nat.le_refl _,Nat.le_refl _,λk=>?_,λk=>?_,λk m=>?_⟩,λk1 k2 hb12 hc2=>?_,?_,hy1.erased b,e1,e2,e3⟩
  ·by_cases e:k=(y1.l[b]).key
   ·rw[e,zxc];omega
   ·rw[z1b _ e];exact g.le k
  ·show zy (y1.l.eraseIdx b) k=_
   rw[zun hbl k hy1.up p2]
   by_cases e:k=(y1.l[b]).key
   ·rw[if_pos e,e,zxc,← List.drop_drop,← g.mom]
   ·rw[if_neg e,z1b _ e,← g.mom]
  ·show z2b (y1.l.eraseIdx b) k m=_
   rw[zsp hbl k m hy1.up]
   have hgv:z2b y1.l k m=if m∈(s.mom k).take (c k) then none else s.ver k m:=g.ver k m
   by_cases e:k=(y1.l[b]).key
   ·subst e
    rw[zxc,htake]
    by_cases em:m=(y1.l[b]).t
    ·rw[if_pos ⟨rfl,em⟩,if_pos (by rw[em];simp)]
    ·rw[if_neg (λh=>em h.2),hgv]
     simp[em]
   ·rw[if_neg (λh=>e h.1),z1b _ e]
    exact hgv
  ·by_cases e2:k2=(y1.l[b]).key
   ·subst e2
    have hne:k1≠(y1.l[b]).key:=λe=>zic _ (e ▸ hb12)
    rw[z1b _ hne]
    have h0:zv { s with mom:=zy y1.l,ver:=z2b y1.l } k1 s.hor=0:=p3 k1 hb12
    have:=hsp k1
    have:=g.le k1
    omega
   ·rw[z1b _ e2]at hc2
    have h1:=hg k1 k2 hb12 hc2
    have hne:k1≠(y1.l[b]).key:=λe=>by
     rw[e]at h1;omega
    rw[z1b _ hne];exact h1
  ·rw[zo0 c _ ks hnd (hks _ (by omega)),hs]
theorem zuw {h:Int}{c d:ByteArray→Nat}(hc:∀k,c k≤zv s k h)(hd:∀k,d k≤zv s k h)(gc:z1h s h c)(gd:z1h s h d){k:ByteArray}(hk:c k<d k):∀a,c a≤d a:=λa=>by
 by_cases e:a=k
 ·subst e;omega
 ·rcases zro e with hb|hb
  ·have:=gd a k hb (by omega)
   have:=hc a
   omega
  ·have h0:¬0<c a:=λh=>by
    have:=gc k a hb h
    have:=hd k
    omega
   omega
theorem z2x {c d:ByteArray→Nat}:∀{ks:List ByteArray},(∀k∈ks,c k≤d k)→(∃k∈ks,c k<d k)→(ks.map c).sum<(ks.map d).sum
 |[],_,h=>by obtain⟨k,hk,_⟩:=h;cases hk
 |a::r,hle,h=>by
  simp only[List.map_cons,List.sum_cons]
  have ha:=hle a (by simp)
  have hr:∀k∈r,c k≤d k:=λk hk=>hle k (List.mem_cons_of_mem _ hk)
  have hsum:∀l:List ByteArray,(∀k∈l,c k≤d k)→(l.map c).sum≤(l.map d).sum:=λl=>by
   induction l with
   |nil=>intro _;simp
   |cons x q ih=>
    intro hq
    simp only[List.map_cons,List.sum_cons]
    have:=ih (λk hk=>hq k (List.mem_cons_of_mem _ hk))
    have:=hq x (by simp)
    omega
  obtain⟨k,hk,hlt⟩:=h
  rcases List.mem_cons.1 hk with e|hk
  ·subst e
   have:=hsum r hr
   omega
  ·have:=z2x hr ⟨k,hk,hlt⟩
   omega
theorem zxs {h:Int}{c d:ByteArray→Nat}(hc:∀k,c k≤zv s k h)(hd:∀k,d k≤zv s k h)(gc:z1h s h c)(gd:z1h s h d){ks:List ByteArray}(hks:∀k,0<zv s k h→k∈ks)(hsum:(ks.map c).sum=(ks.map d).sum):c=d:=by
 funext k
 have no:∀{c d:ByteArray→Nat},(∀k,c k≤zv s k h)→(∀k,d k≤zv s k h)→z1h s h c→z1h s h d→(ks.map c).sum=(ks.map d).sum→¬c k<d k:=λhc hd gc gd hs hlt=>by
  have hle:=zuw hc hd gc gd hlt
  have:=z2x (ks:=ks) (λa _=>hle a) ⟨k,hks k (by have:=hd k;omega),hlt⟩
  omega
 have h1:=no hc hd gc gd hsum
 have h2:=no hd hc gd gc hsum.symm
 omega
theorem z1m {c d:ByteArray→Nat}:∀(l:List ByteArray),(∀k∈l,c k≤d k)→(l.map c).sum≤(l.map d).sum
 |[],_=>by simp
 |x::q,hq=>by
  simp only[List.map_cons,List.sum_cons]
  have:=z1m q (λk hk=>hq k (List.mem_cons_of_mem _ hk))
  have:=hq x (by simp)
  omega
theorem zp0 (h:ztb s y)(hy:YI y){most:Int}{ks:List ByteArray}(hs:ks.Pairwise blt)(hmem:∀k,k∈ks↔0<zv s k s.hor){n:Nat}{y':YS}(hv:zjg n y y')(hn1:(n:Int)≤most∨n=0)(hn2:(n:Int)<most→z8h y' y'.l.length) :
  (z1c s.hor most ks s 0).2=n∧ztb (z1c s.hor most ks s 0).1 y'∧YI y'∧y'.txs=y.txs∧y'.now=y.now∧y'.hor=y.hor:=by
 have ok:=h.ok hy
 have hV:z5j s y:=⟨h.mom,h.ver,h.hor⟩
 have hnd:ks.Nodup:=by
  unfold List.Nodup
  exact hs.imp (λ{a b} hab e=>by subst e;exact zic _ hab)
 obtain⟨d,gd,hgd,hsd,hy',e1,e2,e3⟩:=z8x hV hy ok hnd (λk hk=>(hmem k).2 hk) hv
 obtain⟨c,gc,h0,h1,h2,h3,h4⟩:=z7r s.hor most ks s 0 hs (λk hk=>(hmem k).1 hk)
 generalize z1c s.hor most ks s 0=r at gc h1 h2 h3 ⊢
 have hgc:z1h s s.hor c:=λk1 k2 hb hc2=>by
  by_cases hk:k1∈ks
  ·exact h4 k1 k2 hk hb hc2
  ·have:¬0<zv s k1 s.hor:=λh=>hk ((hmem k1).2 h)
   rw[h0 k1 hk];omega
 -- as many
 have hT1:=z1m ks (λk _=>gc.le k)
 have hT2:=z1m ks (λk _=>gd.le k)
 have hall1:r.2<most→(ks.map c).sum=(ks.map λk=>zv s k s.hor).sum:=λhlt=>by
  congr 1
  exact List.map_congr_left (λk hk=>h3 hlt k hk)
 have hall2:(n:Int)<most→(ks.map d).sum=(ks.map λk=>zv s k s.hor).sum:=λhlt=>by
  congr 1
  refine List.map_congr_left (λk _=>?_)
  have ok':=ok.gone gd
  have hz:=z21 (s:={ s with mom:=zy y'.l,ver:=z2b y'.l }) ⟨λ_=>rfl,λ_ _=>rfl,h.hor.trans e2.symm⟩ hy' ok' (hn2 hlt) k
  have hz':zv { s with mom:=zy y'.l,ver:=z2b y'.l } k s.hor=0:=hz
  have:=gd.spent ok k
  have:=gd.le k
  omega
 have hrn:r.2=n:=by
  rw[h1]at h2 hall1 ⊢
  by_cases hA:(0:Int)+((ks.map c).sum:Nat)<most
  ·have:=hall1 hA
   by_cases hB:(n:Int)<most
   ·have:=hall2 hB;omega
   ·omega
  ·by_cases hB:(n:Int)<most
   ·have:=hall2 hB;omega
   ·omega
 have hcd:c=d:=zxs (ks:=ks) gc.le gd.le hgc hgd (λk hk=>(hmem k).2 hk) (by rw[h1]at hrn;omega)
 subst hcd
 refine⟨hrn,⟨by rw[gc.now,e1];exact h.now,by rw[gc.begun,e3];exact h.begun,λm=>?_,by rw[gc.nopen,e3];exact h.nopen,λk=>?_,λk m=>?_,?_,?_,by rw[gc.hor,e2];exact h.hor,by rw[gc.log,e1,e2];exact h.lgl,by rw[gc.log];exact h.lgb,by rw[gc.log];exact h.sy,by rw[gc.bk];exact h.nob,by rw[gc.log,hv.same.1];exact h.lg,by rw[gc.log,hv.same.2];exact h.syn,by rw[hv.same.1];exact h.lgn⟩,hy',e3,e1,e2⟩
 ·rw[gc.txs,h.txs]
  unfold zvg zab
  rw[e3]
 ·rw[gc.mom];exact (gd.mom k).symm
 ·rw[gc.ver];exact (gd.ver k m).symm
 ·have:=gc.nv;have:=h.nv;rw[e1];omega
 ·have:=gc.nm;have:=h.nm;rw[e1];omega
end
end Go.Proofs.YthbdpfccfcceiaaGreatDoor
